import PyProof.Rows.All
import Wide.All
import OpenK.AllK
import Wide.FinOn
import Lean
import PyProof.EqAt
import PyProof.EqKinds
import PyProof.TupleCall
import KE.KTupSum
import KE.KSortTup
import PyProof.SetKind
import PyProof.SetRoads
import PyProof.SetNew
import PyProof.DictKinds
import PyProof.NsDelKeeps
import PyProof.StrWalks
import KE.KEqDict
import KE.KDictList
import PyProof.AttrMissSeq
import PyProof.WalksMore
import KE.KDictOf
import PyProof.Rows.Range3
import KE.KItemsList
import PySem.Challenge.RW_gaugewright_k29_sets_counted
set_option Elab.async false
set_option linter.all false
set_option maxRecDepth 100000
set_option maxHeartbeats 8000000
noncomputable section
namespace L2
open PySem PySem.Spec PyProof.Rows
section
abbrev Key:=Sum Int Str
def zjt:Key->Value->Bool
 | .inl k,v=>Value.isInt k v
 | .inr x,v=>Value.isStrOf x v
def zws (w:World):Key->Int
 | .inl k=>hashInt k
 | .inr x=>hashStr w x
theorem zaN:∀ {k:Key} {v:Value},zjt k v = true->(∃ i t,k = Sum.inl i/\v = Value.int i t)\/(∃ x t,k = Sum.inr x/\v = Value.str x t)
 | .inl i,v,h=>by
  obtain ⟨t,e⟩:=Value.isInt_shape (k:=i) (v:=v) h
  exact .inl ⟨i,t,rfl,e⟩
 | .inr x,v,h=>by
  obtain ⟨t,e⟩:=Value.isStrOf_shape (x:=x) (v:=v) h
  exact .inr ⟨x,t,rfl,e⟩
theorem zm9 (i:Int) (t:Tok):zjt (.inl i) (.int i t) = true:=by simp [zjt,Value.isInt]
theorem zof (x:Str) (t:Tok):zjt (.inr x) (.str x t) = true:=by simp [zjt,Value.isStrOf]
theorem zsB (a b:Int):decide ((Sum.inl a:Key) = Sum.inl b) = (a == b):=by
 by_cases e:a = b
 ·subst e; simp
 ·have h:¬ (Sum.inl a:Key) = Sum.inl b:=fun q=>e (Sum.inl.inj q)
  rw [decide_eq_false h]
  exact (beq_eq_false_iff_ne.mpr e).symm
theorem ztn (a b:Str):decide ((Sum.inr a:Key) = Sum.inr b) = decide (a = b):=by
 by_cases e:a = b
 ·subst e; simp
 ·have h:¬ (Sum.inr a:Key) = Sum.inr b:=fun q=>e (Sum.inr.inj q)
  rw [decide_eq_false h,decide_eq_false e]
theorem zt5 (a:Int) (b:Str):decide ((Sum.inl a:Key) = Sum.inr b) = false:=decide_eq_false (fun q=>nomatch q)
theorem zsz (a:Str) (b:Int):decide ((Sum.inr a:Key) = Sum.inl b) = false:=decide_eq_false (fun q=>nomatch q)
def zak (prog:Program) (w:World):PySem.KeyKind prog w Key where
 is:=zjt
 hash:=zws w
 inj:=fun v a b ha hb=>by
  rcases zaN ha with ⟨i,t,rfl,rfl⟩ | ⟨x,t,rfl,rfl⟩
  ·rcases zaN hb with ⟨j,u,rfl,e⟩ | ⟨y,u,rfl,e⟩
   ·injection e with e1 _; rw [e1]
   ·exact nomatch e
  ·rcases zaN hb with ⟨j,u,rfl,e⟩ | ⟨y,u,rfl,e⟩
   ·exact nomatch e
   ·injection e with e1 _; rw [e1]
 byValue:=fun k v h=>by
  rcases zaN h with ⟨i,t,rfl,rfl⟩ | ⟨x,t,rfl,rfl⟩ <;> rfl
 pyHash:=fun hv h=>by
  rcases zaN hv with ⟨i,t,rfl,rfl⟩ | ⟨x,t,rfl,rfl⟩
  ·exact wpAny_pyHash_int h
  ·exact wpAny_pyHash_str h
 eqBool:=fun hu hv h=>by
  rcases zaN hu with ⟨i,t,rfl,rfl⟩ | ⟨x,t,rfl,rfl⟩
  ·rcases zaN hv with ⟨j,u,rfl,rfl⟩ | ⟨y,u,rfl,rfl⟩
   ·rw [zsB] at h; exact wpAny_eqBool_int h
   ·rw [zt5] at h; exact SeqAt.EqAt.int_str i t y u _ _ _ _ h
  ·rcases zaN hv with ⟨j,u,rfl,rfl⟩ | ⟨y,u,rfl,rfl⟩
   ·rw [zsz] at h; exact SeqAt.EqAt.str_int x t j u _ _ _ _ h
   ·rw [ztn] at h; exact wpAny_eqBool_str h
 «strs»:=fun k x t v h=>by
  rcases zaN h with ⟨i,u,rfl,e⟩ | ⟨y,u,rfl,e⟩
  ·exact nomatch e
  ·injection e with e1 _
   subst e1
   cases v <;> rfl
theorem zjL (prog:Program) (w:World) (i:Int) (t:Tok):(zak prog w).is (.inl i) (.int i t) = true:=zm9 i t
theorem zjz (prog:Program) (w:World) (x:Str) (t:Tok):(zak prog w).is (.inr x) (.str x t) = true:=zof x t
end
section
inductive V where
 | non | bl (b:Bool) | int (i:Int) | str (x:Str) | byt (b:Array UInt8) | flt (b:UInt64) | ref (a:Addr) | ty (n:String)
 deriving DecidableEq
def RelV:V->Value->Prop
 | .non,u=>u = Value.none
 | .bl b,u=>u = Value.bool b
 | .int i,u=>∃ t,u = Value.int i t
 | .str x,u=>∃ t,u = Value.str x t
 | .byt b,u=>∃ t,u = Value.bytes b t
 | .flt b,u=>∃ t,u = Value.float b t
 | .ref a,u=>u = Value.ref a
 | .ty n,u=>u = Value.type n
abbrev Vals:List V->List Value->Prop:=Paired RelV
theorem Vals.length {xs:List V} {us:List Value} (r:Vals xs us):xs.length = us.length:=Paired.length r
theorem Vals.get:∀ {xs:List V} {us:List Value} {i:Nat} {x:V},Vals xs us->xs[i]? = some x->∃ u,us[i]? = some u/\RelV x u
 | _,_,_,_,.nil,e=>by simp at e
 | _,_,0,_,.cons r _,e=>by simp at e; subst e; exact ⟨_,rfl,r⟩
 | _,_,i + 1,x,.cons _ t,e=>by
  obtain ⟨u,h1,h2⟩:=Vals.get (i:=i) (x:=x) t (by simpa using e)
  exact ⟨u,by simpa using h1,h2⟩
theorem Vals.set {x:V} {u:Value} (r:RelV x u):∀ {xs:List V} {us:List Value} (i:Nat),Vals xs us->Vals (xs.set i x) (us.set i u)
 | _,_,_,.nil=>.nil
 | _,_,0,.cons _ t=>.cons r t
 | _,_,i + 1,.cons q t=>.cons q (Vals.set r i t)
theorem Vals.append:∀ {xs ys:List V} {us ws:List Value},Vals xs us->Vals ys ws->Vals (xs ++ ys) (us ++ ws)
 | _,_,_,_,.nil,s=>s
 | _,_,_,_,.cons r t,s=>.cons r (Vals.append t s)
theorem Vals.take:∀ {xs:List V} {us:List Value} (n:Nat),Vals xs us->Vals (xs.take n) (us.take n)
 | _,_,0,_=>.nil
 | _,_,_ + 1,.nil=>.nil
 | _,_,n + 1,.cons r t=>.cons r (Vals.take n t)
theorem Vals.drop:∀ {xs:List V} {us:List Value} (n:Nat),Vals xs us->Vals (xs.drop n) (us.drop n)
 | _,_,0,r=>r
 | _,_,_ + 1,.nil=>.nil
 | _,_,n + 1,.cons _ t=>Vals.drop n t
def RelO:Option V->Option Value->Prop
 | some v,some u=>RelV v u
 | none,none=>True
 | _,_=>False
def KV {κ:Type}:List (κ × V)->List (κ × Value)->Prop:=Paired fun (p:κ × V) (q:κ × Value)=>p.1 = q.1/\RelV p.2 q.2
def kV:Key->V
 | .inl i=>.int i
 | .inr x=>.str x
inductive HO where
 | lst (xs:List V)
 | tup (xs:List V)
 | dK (kvs:List (Key × V)) | dT (kvs:List (List Key × V))
 | set (S:Int->Bool) (n:Nat)
 | ins (C dx:Addr) (fs:List (Str × V))
 | own (x:Addr)
 | xd (fs:List (Str × V))
 | met (f x:Addr)
 | rng (lo hi:Int)
 | frz (o:Obj) (u:HO)
 | tbl (ps:Array Value)
 | ext (φ:Heap->Prop)
abbrev Hp:=Addr->Option HO
def upd (H:Hp) (a:Addr) (o:HO):Hp:=fun b=>if b = a then some o else H b
theorem zN {H:Hp} {a:Addr} {o:HO}:upd H a o a = some o:=by unfold upd; rw [if_pos rfl]
theorem zO {H:Hp} {a b:Addr} {o:HO} (h:b ≠ a):upd H a o b = H b:=by unfold upd; rw [if_neg h]
theorem zfh {H:Hp} {a:Addr} {o u:HO}:upd (upd H a o) a u = upd H a u:=by
 funext b; unfold upd; split <;> rfl
theorem zvx {H:Hp} {a b:Addr} {o u:HO} (h:H a = some o) (h':H b = some u) (d:o ≠ u):a ≠ b:=by
 intro e; subst e; rw [h] at h'; exact d (Option.some.inj h')
theorem zX {H:Hp} {a b:Addr} {o:HO} (h:H a = some o) (h':H b = none):a ≠ b:=by
 intro e; subst e; rw [h] at h'; cases h'
section
variable (P:Program) (w:World)
def ObjOk (H:Hp) (h:Heap) (a:Addr):HO->Prop
 | .lst xs=>xs.length <= sizeLine/\∃ (its:List Value) (n:Nat),Vals xs its/\h.get? a = some { cls:=.type "list",data:=.seq its.toArray n }
 | .tup xs=>(xs.length <= sizeLine/\∃ o:Obj,h.get? a = some o/\o.dict = none)/\∃ its:List Value,Vals xs its/\IsTup h a its.toArray
 | .dK kvs=>kvs.length <= sizeLine/\(a == sysModules) = false/\∃ vs,KV kvs vs/\h.DictOf (zak P w) a vs
 | .dT kvs=>kvs.length <= sizeLine/\(a == sysModules) = false/\∃ xs:List (List Key × Addr × Value),
   Paired (fun (p:List Key × V) (q:List Key × Addr × Value)=>p.1 = q.1/\H q.2.1 = some (.tup (p.1.map kV))/\RelV p.2 q.2.2) kvs xs /\
   ∃ o es ep,h.get? a = some o/\o.ExactDict/\o.data = .dict es ep/\es.toList = xs.map (entryOfKey (tupleKind (zak P w)))/\(xs.map (·.1)).Nodup
 | .set S n=>h.SetOf (intKind P w) a S n
 | .ins C dx fs=>H dx = some (.own a)/\fs.length <= 1000/\dx ≠ a/\h.get? a = some (PySem.W.instObj C dx) /\
   ∃ mA,h.Ns1 dx mA/\(∀ f,RelO (fs.lookup f) (mA f))/\PySem.Within mA (fs.map (·.1))
 | .own _=>∃ o,h.get? a = some o
 | .xd fs=>∃ mA,h.Ns1 a mA/\∀ f,RelO (fs.lookup f) (mA f)
 | .rng lo hi=>∃ t u v,h.get? a = some { cls:=.type "range",data:=.fields #[.int lo t,.int hi u,.int 1 v] }
 | .frz o u=>h.get? a = some o/\ObjOk H h a u
 | .tbl ps=>h.get? a = some { cls:=.none,data:=.fields ps }
 | .met f x=>h.get? a = some (PySem.W.methodObj (.ref f) (.ref x))
 | .ext φ=>φ h/\(∃ o,h.get? a = some o)/\∀ h1 h2:Heap,φ h1->(∀ o,h1.get? a = some o->h2.get? a = some o)->φ h2
def HOk (H:Hp) (h:Heap):Prop:=∀ a o,H a = some o->ObjOk P w H h a o
end
section
variable {P:Program} {w:World} {H H':Hp} {h h':Heap} {a:Addr} {o:HO}
theorem ObjOk.lt (x:ObjOk P w H h a o):a < h.objs.size:=by
 cases o with
 | lst xs=>obtain ⟨_,_,_,_,e⟩:=x; exact Heap.lt_size e
 | tup xs=>obtain ⟨_,_,_,p⟩:=x; exact p.lt
 | dK kvs=>obtain ⟨_,_,_,_,o,_,_,e,_⟩:=x; exact Heap.lt_size e
 | dT kvs=>obtain ⟨_,_,_,_,o,_,_,e,_⟩:=x; exact Heap.lt_size e
 | set S n=>obtain ⟨o,_,_,_,e,_⟩:=x; exact Heap.lt_size e
 | ins C dx fs=>obtain ⟨_,_,_,e,_⟩:=x; exact Heap.lt_size e
 | own y=>obtain ⟨_,e⟩:=x; exact Heap.lt_size e
 | xd fs=>obtain ⟨_,⟨_,_,_,e,_⟩,_⟩:=x; exact Heap.lt_size e
 | rng lo hi=>obtain ⟨_,_,_,e⟩:=x; exact Heap.lt_size e
 | frz ob u=>obtain ⟨e,_⟩:=x; exact Heap.lt_size e
 | tbl ps=>exact Heap.lt_size (show h.get? a = some _ from x)
 | met f y=>exact Heap.lt_size (show h.get? a = some _ from x)
 | ext φ=>obtain ⟨_,⟨_,e⟩,_⟩:=x; exact Heap.lt_size e
theorem Paired.mapP {α β:Type} {F G:α->β->Prop}:∀ {l₁:List α} {l₂:List β},Paired F l₁ l₂->(∀ a b,F a b->G a b)->Paired G l₁ l₂
 | _,_,.nil,_=>.nil
 | _,_,.cons r t,f=>.cons (f _ _ r) (Paired.mapP t f)
theorem ObjOk.stay (x:ObjOk P w H h a o) (k:∀ b u,(b = a\/H b = some (.own a))->h.get? b = some u->h'.get? b = some u)
  (ho:∀ b,H b = some (.own a)->H' b = some (.own a)) (ht:∀ b xs,H b = some (.tup xs)->H' b = some (.tup xs)):ObjOk P w H' h' a o:=by
 induction o with
 | lst xs=>obtain ⟨z,its,n,r,e⟩:=x; exact ⟨z,its,n,r,k _ _ (.inl rfl) e⟩
 | tup xs=>obtain ⟨⟨z,o2,e2,d2⟩,its,r,ob,e,c⟩:=x; exact ⟨⟨z,o2,k _ _ (.inl rfl) e2,d2⟩,its,r,ob,k _ _ (.inl rfl) e,c⟩
 | dK kvs=>obtain ⟨z,y,vs,r,ob,es,ep,e,c⟩:=x; exact ⟨z,y,vs,r,ob,es,ep,k _ _ (.inl rfl) e,c⟩
 | dT kvs =>
  obtain ⟨z,y,xs,r,ob,es,ep,e,c⟩:=x
  exact ⟨z,y,xs,Paired.mapP r fun p q z=>⟨z.1,ht _ _ z.2.1,z.2.2⟩,ob,es,ep,k _ _ (.inl rfl) e,c⟩
 | set S n=>obtain ⟨ob,es,ep,t,e,c⟩:=x; exact ⟨ob,es,ep,t,k _ _ (.inl rfl) e,c⟩
 | ins C dx fs =>
  obtain ⟨d,z,ne,e,mA,⟨od,es,ep,e2,c⟩,r⟩:=x
  exact ⟨ho _ d,z,ne,k _ _ (.inl rfl) e,mA,⟨od,es,ep,k _ _ (.inr d) e2,c⟩,r⟩
 | own y=>obtain ⟨ob,e⟩:=x; exact ⟨ob,k _ _ (.inl rfl) e⟩
 | xd fs=>obtain ⟨mA,⟨od,es,ep,e,c⟩,r⟩:=x; exact ⟨mA,⟨od,es,ep,k _ _ (.inl rfl) e,c⟩,r⟩
 | rng lo hi=>obtain ⟨t,u,v,e⟩:=x; exact ⟨t,u,v,k _ _ (.inl rfl) e⟩
 | frz ob u ih=>obtain ⟨e,q⟩:=x; exact ⟨k _ _ (.inl rfl) e,ih q⟩
 | tbl ps =>
  have e:h.get? a = some { cls:=.none,data:=.fields ps }:=x
  show h'.get? a = some { cls:=.none,data:=.fields ps }
  exact k a _ (.inl rfl) e
 | met f y =>
  have e:h.get? a = some (PySem.W.methodObj (.ref f) (.ref y)):=x
  show h'.get? a = some (PySem.W.methodObj (.ref f) (.ref y))
  exact k a _ (.inl rfl) e
 | ext φ=>obtain ⟨p,⟨o,e⟩,st⟩:=x; exact ⟨st _ _ p fun o q=>k _ _ (.inl rfl) q,⟨o,k _ _ (.inl rfl) e⟩,st⟩
theorem HOk.lt (x:HOk P w H h) (e:H a = some o):a < h.objs.size:=(x a o e).lt
theorem HOk.fresh (x:HOk P w H h) (e:h.objs.size <= a):H a = none:=by
 cases q:H a with
 | none=>rfl
 | some u=>exact absurd (Nat.lt_of_lt_of_le (x.lt q) e) (Nat.lt_irrefl _)
theorem HOk.kept (x:HOk P w H h) (k:∀ b u,h.get? b = some u->h'.get? b = some u):HOk P w H h':=fun a o e =>
 (x a o e).stay (fun b u _ q=>k b u q) (fun _ q=>q) fun _ _ q=>q
theorem HOk.laid (x:HOk P w H h) (k:∀ b u,h.get? b = some u->h'.get? b = some u) (hp:h.objs.size <= a) (new:ObjOk P w (upd H a o) h' a o):HOk P w (upd H a o) h':=fun b u e=>by
 have hn:=x.fresh hp
 by_cases hb:b = a
 ·subst hb; rw [zN] at e; cases e; exact new
 ·rw [zO hb] at e
  exact (x b u e).stay (fun c v _ q=>k c v q) (fun c q=>by rw [zO (zX q hn)]; exact q) fun c xs q=>by rw [zO (zX q hn)]; exact q
end
def Rd (H:Hp) (a:Addr) (u:HO):Prop:=H a = some u\/∃ o,H a = some (.frz o u)
theorem Rd.ok {P:Program} {w:World} {H:Hp} {h:Heap} {a:Addr} {u:HO} (r:Rd H a u) (x:HOk P w H h):ObjOk P w H h a u:=by
 rcases r with r | ⟨o,r⟩
 ·exact x a u r
 ·obtain ⟨_,q⟩:=x a _ r
  exact q
def Mut:Option HO->Prop
 | some (.lst _)=>True
 | some (.dK _)=>True
 | some (.dT _)=>True
 | some (.set _ _)=>True
 | some (.ins _ _ _)=>True
 | some (.ext _)=>True
 | _=>False
section
variable {P:Program} {w:World} {H:Hp} {h h':Heap} {x e:Addr} {o':HO}
theorem HOk.write (ok:HOk P w H h) (mu:Mut (H x)) (he:e = x\/H e = some (.own x)) (k:∀ b u,b ≠ e->h.get? b = some u->h'.get? b = some u) (heo:∃ u,h'.get? e = some u)
  (new:ObjOk P w (upd H x o') h' x o'):HOk P w (upd H x o') h':=fun b u q=>by
 have nown:∀ c y,H c = some (.own y)->c ≠ x:=fun c y r z=>by subst z; rw [r] at mu; exact mu
 have ntup:∀ c xs,H c = some (.tup xs)->c ≠ x:=fun c xs r z=>by subst z; rw [r] at mu; exact mu
 by_cases hb:b = x
 ·subst hb; rw [zN] at q; cases q; exact new
 ·rw [zO hb] at q
  by_cases hbe:b = e
  ·have q':H b = some (.own x):=by
    rcases he with z | z
    ·exact absurd (hbe.trans z) hb
    ·rw [hbe]; exact z
   rw [q] at q'; cases q'
   obtain ⟨v,hv⟩:=heo
   exact ⟨v,by rw [hbe]; exact hv⟩
  ·refine (ok b u q).stay (fun c v hc r=>k c v ?_ r) (fun c r=>by rw [zO (nown c b r)]; exact r) fun c xs r=>by rw [zO (ntup c xs r)]; exact r
   rcases hc with rfl | hc
   ·exact hbe
   ·rintro rfl
    rcases he with z | z
    ·exact nown c b hc z
    ·rw [hc] at z; cases z; exact hb rfl
end
structure Un (fs ex:List Addr) (H H':Hp) (h h':Heap):Prop where
 keep:∀ b o,h.get? b = some o->H b = none->b ∉ fs->b ∉ ex->h'.get? b = some o
 slot:∀ b o,h.get? b = some o->H b = none->b ∈ fs->b ∉ ex->∃ sl,h'.get? b = some { o with slots:=sl }
 free:∀ b o,h.get? b = some o->H b = none->b ∉ ex->H' b = none
 there:∀ b o,h.get? b = some o->b ∉ ex->∃ o',h'.get? b = some o'
 tups:∀ b xs,H b = some (.tup xs)->H' b = some (.tup xs)
 frzs:∀ b o u,H b = some (.frz o u)->H' b = some (.frz o u)
 tbls:∀ b ps,H b = some (.tbl ps)->∃ more,H' b = some (.tbl (ps ++ more))
section
variable {fs fs' ex ex':List Addr} {H H1 H2:Hp} {h h1 h2 h':Heap} {a x e:Addr} {o:HO}
theorem Un.any (u:Un fs ex H H1 h h1) {b:Addr} {ob:Obj} (q:h.get? b = some ob) (n:H b = none) (hx:b ∉ ex):∃ sl,h1.get? b = some { ob with slots:=sl }:=by
 by_cases hb:b ∈ fs
 ·exact u.slot b ob q n hb hx
 ·exact ⟨ob.slots,u.keep b ob q n hb hx⟩
theorem Un.trans (a:Un fs ex H H1 h h1) (b:Un fs ex H1 H2 h1 h2):Un fs ex H H2 h h2 where
 keep:=fun c ob q n hc hx=>b.keep c ob (a.keep c ob q n hc hx) (a.free c ob q n hx) hc hx
 slot:=fun c ob q n hc hx=>by
  obtain ⟨sl,e1⟩:=a.slot c ob q n hc hx
  obtain ⟨sl',e2⟩:=b.slot c _ e1 (a.free c ob q n hx) hc hx
  exact ⟨sl',e2⟩
 free:=fun c ob q n hx=>by
  obtain ⟨o',e1⟩:=a.there c ob q hx
  exact b.free c o' e1 (a.free c ob q n hx) hx
 there:=fun c ob q hx=>by
  obtain ⟨o',e1⟩:=a.there c ob q hx
  exact b.there c o' e1 hx
 tups:=fun c xs q=>b.tups c xs (a.tups c xs q)
 frzs:=fun c ob xs q=>b.frzs c ob xs (a.frzs c ob xs q)
 tbls:=fun c ps q=>by
  obtain ⟨m1,e1⟩:=a.tbls c ps q
  obtain ⟨m2,e2⟩:=b.tbls c _ e1
  exact ⟨m1 ++ m2,by rw [e2,Array.append_assoc]⟩
theorem Un.kept (k:∀ b u,h.get? b = some u->h'.get? b = some u):Un fs ex H H h h' :=
 ⟨fun b ob q _ _ _=>k b ob q,fun b ob q _ _ _=>⟨ob.slots,k b ob q⟩,fun _ _ _ n _=>n,fun b ob q _=>⟨ob,k b ob q⟩,fun _ _ q=>q,fun _ _ _ q=>q,fun _ ps q=>⟨#[],by rw [q]; simp⟩⟩
theorem Un.refl:Un fs ex H H h h:=Un.kept fun _ _ q=>q
theorem Un.laid (k:∀ b u,h.get? b = some u->h'.get? b = some u) (hp:h.objs.size <= a) (hn:H a = none):Un fs ex H (upd H a o) h h' where
 keep:=fun b u q _ _ _=>k b u q
 slot:=fun b u q _ _ _=>⟨u.slots,k b u q⟩
 free:=fun b u q n _=>by rw [zO (Nat.ne_of_lt (Nat.lt_of_lt_of_le (Heap.lt_size q) hp))]; exact n
 there:=fun b u q _=>⟨u,k b u q⟩
 tups:=fun b xs q=>by rw [zO (zX q hn)]; exact q
 frzs:=fun b u xs q=>by rw [zO (zX q hn)]; exact q
 tbls:=fun b ps q=>⟨#[],by rw [zO (zX q hn),q]; simp⟩
theorem Un.write (mu:Mut (H x)) (he:e = x\/H e = some (.own x)) (k:∀ b u,b ≠ e->h.get? b = some u->h'.get? b = some u) (heo:∃ u,h'.get? e = some u):Un fs ex H (upd H x o) h h':=by
 have hx:∀ b,H b = none->b ≠ x:=fun b n z=>by subst z; rw [n] at mu; exact mu
 have hb:∀ b,H b = none->b ≠ e:=fun b n z=>by
  subst z
  rcases he with r | r
  ·exact hx b n r
  ·rw [n] at r; cases r
 have hm:∀ b u,H b = some u->¬ Mut (some u)->b ≠ x:=fun b u q nm z=>by subst z; rw [q] at mu; exact nm mu
 refine ⟨fun b u q n _ _=>k b u (hb b n) q,fun b u q n _ _=>⟨u.slots,k b u (hb b n) q⟩,fun b u q n _=>by rw [zO (hx b n)]; exact n,fun b u q _=>?_,
  fun b xs q=>by rw [zO (hm b _ q fun z=>z)]; exact q,fun b u xs q=>by rw [zO (hm b _ q fun z=>z)]; exact q,fun b ps q=>⟨#[],by rw [zO (hm b _ q fun z=>z),q]; simp⟩⟩
 by_cases hbe:b = e
 ·subst hbe; exact heo
 ·exact ⟨u,k b u hbe q⟩
theorem Un.mono (u:Un fs ex H H1 h h1) (hs:∀ b ∈ fs,b ∈ fs') (hx:∀ b ∈ ex,b ∈ ex'):Un fs' ex' H H1 h h1 :=
 ⟨fun b ob q n hb he=>u.keep b ob q n (fun z=>hb (hs b z)) fun z=>he (hx b z),fun _ _ q n _ he=>u.any q n fun z=>he (hx _ z),fun b ob q n he=>u.free b ob q n fun z=>he (hx b z),fun b ob q he=>u.there b ob q fun z=>he (hx b z),u.tups,u.frzs,u.tbls⟩
end
def trk (h:Heap) (H:Hp):List Addr:=(List.range h.objs.size).filter fun a=>(H a).isSome
def zpu (h:Heap) (H:Hp):Heap:=PySem.W.hideAll h (trk h H)
theorem zn6 (h:Heap) (H:Hp):(zpu h H).objs.size = h.objs.size:=PySem.W.hideAll_size _ _
theorem zpv {h:Heap} {H:Hp} {b:Addr} {o:Obj} (e:h.get? b = some o) (n:H b = none):(zpu h H).get? b = some o :=
 PySem.W.hideAll_get _ e fun hm=>by
  have q:(H b).isSome = true:=(List.mem_filter.mp hm).2
  rw [n] at q; simp at q
theorem zre {h:Heap} {H:Hp} {b:Addr} {o:Obj} (e:(zpu h H).get? b = some o):h.get? b = some o/\H b = none:=by
 have e':h.get? b = some o:=PySem.W.of_hideAll (trk h H) e
 refine ⟨e',?_⟩
 cases q:H b with
 | none=>rfl
 | some x =>
  have hm:b ∈ trk h H:=List.mem_filter.mpr ⟨List.mem_range.mpr (Heap.lt_size e'),by simp [q]⟩
  have z:(zpu h H).get? b = none:=PySem.W.hideAll_none (trk h H) hm
  rw [z] at e; cases e
def zsr (g h:Heap) (L:Addr):List (Addr × Obj):=(List.range h.objs.size).filterMap fun a=>if a = L\/(g.get? a).isSome = true then none else (h.get? a).map fun o=>(a,o)
def rest (g h:Heap) (L d:Addr):List (Addr × Obj):=(zsr g h L).filter fun p=>decide (p.1 ≠ d)
end
section
structure Mod (K:W.Frag) (mg:Str->Option Value) (base:Heap):Prop where
 kin:K.In base
 glob:base.Ns mainGlobals mg
 blt:∃ mb,base.Ns builtinsNs mb/\∀ x:Str,x ≠ "__name__"->mb x = bootBuiltins x
 nolimit:base.NoLimit
structure Cx where
 prog:Program
 w:World
 K:W.Frag
 mg:Str->Option Value
 base:Heap
 A:Around
 N:List Str
 s₀:Shared
 H₀:Hp
 env:Env
 outer:List Env
 stack:List Env
 ex:List Addr
 fn:Str->Bool
 calm:Bool
 pn:List (Addr × Obj)
 xe:Value->Shared->Prop
def frs (l:List Env):List Addr:=l.filterMap (·.frame)
abbrev Cx.fs (X:Cx):List Addr:=frs X.outer
def Vis (sc:Scope) (x:Str):Prop:=sc.names.lookup x = some .local\/sc.names.lookup x = some .cell\/sc.names.lookup x = some .free
def Loc (sc:Scope) (x:Str):Prop:=sc.names.lookup x = some .local\/sc.names.lookup x = some .cell
def Look (env:Env) (h:Heap) (m:Str->Option Value) (x:Str) (u:Value):Prop :=
 (env.kindOf x = some .local/\m x = some u)\/((env.kindOf x = some .cell\/env.kindOf x = some .free)/\∃ c,env.cells.lookup x = some c/\h.IsCell c (some u))
structure Cx.Ok (X:Cx):Prop where
 mod:Mod X.K X.mg X.base
 kind:X.env.scope.kind = .function
 glob:X.env.globals = mainGlobals
 blt:X.env.builtins = builtinsNs
 above:X.s₀.heap.objs.size <= X.env.locals
 inj:∀ x y c,X.env.cells.lookup x = some c->X.env.cells.lookup y = some c->x = y
 has:∀ x,(X.env.kindOf x = some .cell\/X.env.kindOf x = some .free)->∃ c,X.env.cells.lookup x = some c
 cab:∀ x c,X.fn x = true->X.env.cells.lookup x = some c->X.s₀.heap.objs.size <= c
 hd:X.calm = true->X.A.handled = none
 frames:X.A.frames = some X.stack
 stk:X.stack = X.outer\/(X.stack = X.env :: X.outer/\X.env.frame = some X.env.locals)
 exf:∀ b ∈ X.ex,b ≠ X.env.locals/\∀ x c,X.env.cells.lookup x = some c->c ≠ b
 bs:∀ b o,X.base.get? b = some o->X.s₀.heap.get? b = some o/\X.H₀ b = none
 bsz:X.base.objs.size <= X.s₀.heap.objs.size
 noex:∀ b o,X.base.get? b = some o->b ∉ X.ex
 exfs:∀ b ∈ X.ex,b ∉ X.fs
 funs:X.s₀.heap.FunFrames X.base X.outer
 frf:∀ b ∈ X.fs,X.H₀ b = none
structure Inv (X:Cx) (zk:List (Addr × Obj)) (σ:List (Option V)) (H:Hp) (s:Shared):Prop where
 ok:X.Ok
 os:s.os = X.s₀.os
 bare:AllBare s.gens
 base:Un X.fs X.ex X.H₀ H X.s₀.heap s.heap
 loc:∃ m,s.heap.Ns X.env.locals m/\∀ (i:Nat) (x:Str) (v:V),X.N[i]? = some x->σ[i]? = some (some v)->Vis X.env.scope x->∃ u,RelV v u/\Look X.env s.heap m x u
 cell:∀ x c,X.env.cells.lookup x = some c->∃ v,s.heap.IsCell c v
 free:H X.env.locals = none
 freeC:∀ x c,X.env.cells.lookup x = some c->H c = none
 pin:∀ p ∈ X.pn ++ zk,s.heap.get? p.1 = some p.2/\H p.1 = none/\p.1 ≠ X.env.locals/\p.1 ∉ X.fs/\∀ v,p.2.data ≠ .cell v
 hok:HOk X.prog X.w H s.heap
 len:σ.length = X.N.length
section
variable {X:Cx} {zk:List (Addr × Obj)} {σ:List (Option V)} {H H':Hp} {s:Shared} {h':Heap}
theorem Cx.Ok.nofr (ok:X.Ok) {b:Addr} {o:Obj} (e:X.base.get? b = some o):b ∉ X.fs:=fun hb=>by
 have:=(ok.funs.mem hb).1
 rw [e] at this; cases this
theorem Inv.bs (I:Inv X zk σ H s):∀ b o,X.base.get? b = some o->s.heap.get? b = some o/\H b = none:=fun b o e =>
 ⟨I.base.keep b o (I.ok.bs b o e).1 (I.ok.bs b o e).2 (I.ok.nofr e) (I.ok.noex b o e),I.base.free b o (I.ok.bs b o e).1 (I.ok.bs b o e).2 (I.ok.noex b o e)⟩
theorem Inv.bk (I:Inv X zk σ H s):∀ b o,X.base.get? b = some o->s.heap.get? b = some o:=fun b o e=>(I.bs b o e).1
theorem Inv.mod (I:Inv X zk σ H s):Mod X.K X.mg X.base:=I.ok.mod
theorem Inv.kIn (I:Inv X zk σ H s):X.K.In s.heap:=I.ok.mod.kin.keeps I.bk
theorem Inv.lt (I:Inv X zk σ H s):X.env.locals < s.heap.objs.size:=let ⟨_,hn,_⟩:=I.loc; hn.lt
theorem Inv.sz (I:Inv X zk σ H s):X.s₀.heap.objs.size <= s.heap.objs.size:=Nat.le_trans I.ok.above (Nat.le_of_lt I.lt)
theorem Inv.nofs (I:Inv X zk σ H s) {a:Addr} (h:s.heap.objs.size <= a):a ∉ X.fs:=fun hb=>by
 obtain ⟨_,o,ho,_⟩:=I.ok.funs.mem hb
 exact absurd (Nat.lt_of_lt_of_le (Heap.lt_size ho) (Nat.le_trans I.sz h)) (Nat.lt_irrefl _)
theorem Inv.cne (I:Inv X zk σ H s):∀ x c,X.env.cells.lookup x = some c->c ≠ X.env.locals:=fun x c e z=>by
 obtain ⟨v,o,ho,hd⟩:=I.cell x c e
 obtain ⟨m,⟨o',es,ep,ho',hd',_⟩,_⟩:=I.loc
 rw [z,ho'] at ho; cases ho; rw [hd'] at hd; cases hd
theorem Inv.funs (I:Inv X zk σ H s):s.heap.FunFrames X.base X.outer:=by
 have all:∀ (l:List Env),(∀ b ∈ frs l,b ∈ X.fs)->X.s₀.heap.FunFrames X.base l->s.heap.FunFrames X.base l:=by
  intro l
  induction l with
  | nil=>intro _ _; trivial
  | cons env r ih =>
   intro hs hl
   obtain ⟨hk,⟨L,o,hf,hn,ho,hd⟩,hr⟩:=hl
   have hL:L ∈ X.fs:=hs L (by unfold frs; rw [List.filterMap_cons,hf]; exact List.mem_cons_self)
   obtain ⟨sl,e⟩:=I.base.slot L o ho (I.ok.frf L hL) hL fun z=>I.ok.exfs L z hL
   exact ⟨hk,⟨L,_,hf,hn,e,hd⟩,ih (fun b hb=>hs b (by unfold frs; rw [List.filterMap_cons,hf]; exact List.mem_cons_of_mem _ hb)) hr⟩
 exact all X.outer (fun _ hb=>hb) I.ok.funs
theorem Inv.stack (I:Inv X zk σ H s):s.heap.FunFrames X.base X.stack:=by
 rcases I.ok.stk with e | ⟨e,hf⟩
 ·rw [e]; exact I.funs
 ·rw [e]
  obtain ⟨m,hn,_⟩:=I.loc
  refine .cons (by rw [I.ok.kind]; decide) hf hn ?_ I.funs
  exact Heap.get?_none_of_le (Nat.le_trans I.ok.bsz I.ok.above)
theorem Inv.stkSub (I:Inv X zk σ H s):∀ b ∈ frs X.stack,b ∈ X.env.locals :: X.fs:=fun b hb=>by
 rcases I.ok.stk with e | ⟨e,hf⟩
 ·rw [e] at hb; exact List.mem_cons_of_mem _ hb
 ·rw [e] at hb
  unfold frs at hb
  rw [List.filterMap_cons,hf] at hb
  exact hb
theorem Inv.stkFree (I:Inv X zk σ H s):∀ b ∈ frs X.stack,H b = none:=fun b hb=>by
 rcases List.mem_cons.mp (I.stkSub b hb) with e | hb
 ·rw [e]; exact I.free
 ·obtain ⟨_,o,ho,_⟩:=I.ok.funs.mem hb
  exact I.base.free b o ho (I.ok.frf b hb) fun z=>I.ok.exfs b z hb
theorem Inv.step {g':Array GenState} {t':Nat} {d':Drawn} {ch:List Addr} (I:Inv X zk σ H s)
  (hch:∀ b ∈ ch,(b ∈ X.ex\/X.s₀.heap.objs.size <= b)/\b ≠ X.env.locals/\(∀ x c,X.env.cells.lookup x = some c->c ≠ b)/\∀ p ∈ X.pn ++ zk,p.1 ≠ b)
  (keep:∀ b o,b ≠ X.env.locals->b ∉ X.fs->b ∉ ch->s.heap.get? b = some o->H b = none->h'.get? b = some o)
  (slot:∀ b o,b ≠ X.env.locals->b ∈ X.fs->b ∉ ch->s.heap.get? b = some o->H b = none->∃ sl,h'.get? b = some { o with slots:=sl }) (free:∀ b o,b ∉ ch->s.heap.get? b = some o->H b = none->H' b = none)
  (there:∀ b o,b ∉ ch->s.heap.get? b = some o->∃ o',h'.get? b = some o')
  (tups:∀ b xs,H b = some (.tup xs)->H' b = some (.tup xs)) (frzs:∀ b o u,H b = some (.frz o u)->H' b = some (.frz o u)) (tbls:∀ b ps,H b = some (.tbl ps)->∃ more,H' b = some (.tbl (ps ++ more)))
  (ns:∀ m,s.heap.Ns X.env.locals m->h'.Ns X.env.locals m) (hok:HOk X.prog X.w H' h') (hg:AllBare g') :
  Inv X zk σ H' { s with heap:=h',gens:=g',drawn:=d',toks:=t' }:=by
 have neL:∀ b o,X.s₀.heap.get? b = some o->b ≠ X.env.locals:=fun b o e=>Nat.ne_of_lt (Nat.lt_of_lt_of_le (Heap.lt_size e) I.ok.above)
 have neC:∀ b o,X.s₀.heap.get? b = some o->b ∉ X.ex->b ∉ ch:=fun b o e hx hb=>by
  rcases (hch b hb).1 with z | z
  ·exact hx z
  ·exact absurd (Nat.lt_of_lt_of_le (Heap.lt_size e) z) (Nat.lt_irrefl _)
 have cellK:∀ x c,X.env.cells.lookup x = some c->∀ v,s.heap.IsCell c v->h'.IsCell c v:=fun x c e v ⟨o,ho,hd⟩=>by
  have nch:c ∉ ch:=fun z=>(hch c z).2.2.1 x c e rfl
  by_cases hc:c ∈ X.fs
  ·obtain ⟨sl,q⟩:=slot c o (I.cne x c e) hc nch ho (I.freeC x c e)
   exact ⟨_,q,hd⟩
  ·exact ⟨o,keep c o (I.cne x c e) hc nch ho (I.freeC x c e),hd⟩
 refine ⟨I.ok,I.os,hg,⟨fun b o e n hb hx=>?_,fun b o e n hb hx=>?_,fun b o e n hx=>?_,fun b o e hx=>?_,fun b xs e=>tups b xs (I.base.tups b xs e),fun b o xs e=>frzs b o xs (I.base.frzs b o xs e),fun b ps e=>?_⟩,?_,fun x c e=>?_,?_,fun x c e=>?_,fun p hp=>?_,hok,I.len⟩
 ·exact keep b o (neL b o e) hb (neC b o e hx) (I.base.keep b o e n hb hx) (I.base.free b o e n hx)
 ·obtain ⟨sl,e1⟩:=I.base.slot b o e n hb hx
  obtain ⟨sl',e2⟩:=slot b _ (neL b o e) hb (neC b o e hx) e1 (I.base.free b o e n hx)
  exact ⟨sl',e2⟩
 ·obtain ⟨o',e1⟩:=I.base.there b o e hx
  exact free b o' (neC b o e hx) e1 (I.base.free b o e n hx)
 ·obtain ⟨o',e1⟩:=I.base.there b o e hx
  exact there b o' (neC b o e hx) e1
 ·obtain ⟨m1,e1⟩:=I.base.tbls b ps e
  obtain ⟨m2,e2⟩:=tbls b _ e1
  exact ⟨m1 ++ m2,by rw [e2,Array.append_assoc]⟩
 ·obtain ⟨m,hn,hl⟩:=I.loc
  refine ⟨m,ns m hn,fun i x v e1 e2 e3=>?_⟩
  obtain ⟨u,r,l⟩:=hl i x v e1 e2 e3
  refine ⟨u,r,?_⟩
  rcases l with l | ⟨k,c,e,z⟩
  ·exact .inl l
  ·exact .inr ⟨k,c,e,cellK x c e _ z⟩
 ·obtain ⟨v,z⟩:=I.cell x c e
  exact ⟨v,cellK x c e v z⟩
 ·obtain ⟨m,⟨o,_,_,ho,_⟩,_⟩:=I.loc
  exact free _ o (fun z=>(hch _ z).2.1 rfl) ho I.free
 ·obtain ⟨v,o,ho,hd⟩:=I.cell x c e
  exact free c o (fun z=>(hch c z).2.2.1 x c e rfl) ho (I.freeC x c e)
 ·obtain ⟨e,n,ne,nf,d⟩:=I.pin p hp
  have nch:p.1 ∉ ch:=fun z=>(hch p.1 z).2.2.2 p hp rfl
  exact ⟨keep p.1 p.2 ne nf nch e n,free p.1 p.2 nch e n,ne,nf,d⟩
theorem Inv.un {t':Nat} (I:Inv X zk σ H s) (u:Un X.fs [] H H' s.heap h') (hok:HOk X.prog X.w H' h'):Inv X zk σ H' { s with heap:=h',toks:=t' }:=by
 obtain ⟨m,⟨o,es,ep,ho,r⟩,_⟩:=id I.loc
 obtain ⟨sl,hL⟩:=u.any ho I.free (by simp)
 exact I.step (g':=s.gens) (d':=s.drawn) (ch:=[]) (fun _ z=>nomatch z) (fun b o _ hb _ e n=>u.keep b o e n hb (by simp)) (fun b o _ hb _ e n=>u.slot b o e n hb (by simp)) (fun b o _ e n=>u.free b o e n (by simp)) (fun b o _ e=>u.there b o e (by simp)) u.tups u.frzs u.tbls (fun m' hm=>by
  obtain ⟨o',es',ep',ho',r'⟩:=hm
  rw [ho] at ho'; cases ho'
  exact ⟨_,es',ep',hL,r'⟩) hok I.bare
theorem Inv.call {g':Array GenState} {t':Nat} {d':Drawn} {ch:List Addr} (I:Inv X zk σ H s) (u:Un (frs X.stack) ch H H' s.heap h') (hok:HOk X.prog X.w H' h') (hg:AllBare g')
  (hch:∀ b ∈ ch,(b ∈ X.ex\/X.s₀.heap.objs.size <= b)/\b ≠ X.env.locals/\(∀ x c,X.env.cells.lookup x = some c->c ≠ b)/\∀ p ∈ X.pn ++ zk,p.1 ≠ b) :
  Inv X zk σ H' { s with heap:=h',gens:=g',drawn:=d',toks:=t' }:=by
 obtain ⟨m,⟨o,es,ep,ho,r⟩,_⟩:=id I.loc
 obtain ⟨sl,hL⟩:=u.any ho I.free fun z=>(hch _ z).2.1 rfl
 exact I.step (ch:=ch) hch (fun b o hL hb hc e n=>u.keep b o e n (fun z=>(List.mem_cons.mp (I.stkSub b z)).elim hL hb) hc) (fun b o _ _ hc e n=>u.any e n hc) (fun b o hc e n=>u.free b o e n hc) (fun b o hc e=>u.there b o e hc) u.tups u.frzs u.tbls (fun m' hm=>by
  obtain ⟨o',es',ep',ho',r'⟩:=hm
  rw [ho] at ho'; cases ho'
  exact ⟨_,es',ep',hL,r'⟩) hok hg
theorem Inv.turned {t':Nat} {it:Addr} (I:Inv X zk σ H s) (k:∀ b o,b ≠ it->s.heap.get? b = some o->h'.get? b = some o) (hn:H it = none) (hL:it ≠ X.env.locals)
  (h1:it ∈ X.ex\/X.s₀.heap.objs.size <= it) (h2:∀ x c,X.env.cells.lookup x = some c->c ≠ it) (h3:∀ p ∈ X.pn ++ zk,p.1 ≠ it):Inv X zk σ H { s with heap:=h',toks:=t' }:=by
 have nit:∀ b u,H b = some u->b ≠ it:=fun b u e z=>by rw [z,hn] at e; cases e
 refine I.step (g':=s.gens) (d':=s.drawn) (ch:=[it]) (fun b hb=>?_) (fun b o _ _ hc e _=>k b o (fun z=>hc (by simp [z])) e) (fun b o _ _ hc e _=>⟨o.slots,k b o (fun z=>hc (by simp [z])) e⟩) (fun _ _ _ _ n=>n)
  (fun b o hc e=>⟨o,k b o (fun z=>hc (by simp [z])) e⟩) (fun _ _ e=>e) (fun _ _ _ e=>e) (fun b ps e=>⟨#[],by rw [e]; simp⟩) (fun m hm=>?_) (fun b u e=>?_) I.bare
 ·have e:b = it:=by simpa using hb
  subst e
  exact ⟨h1,hL,h2,h3⟩
 ·obtain ⟨o,es,ep,ho,r⟩:=hm
  exact ⟨o,es,ep,k _ o (Ne.symm hL) ho,r⟩
 ·refine (I.hok b u e).stay (fun c v hc q=>k c v ?_ q) (fun _ q=>q) fun _ _ q=>q
  rcases hc with z | z
  ·rw [z]; exact nit b u e
  ·exact nit c _ z
theorem Inv.tok (I:Inv X zk σ H s) (t:Nat):Inv X zk σ H { s with toks:=t }:=I.un (h':=s.heap) (t':=t) Un.refl I.hok
theorem Inv.kept {t':Nat} (I:Inv X zk σ H s) (k:∀ b u,s.heap.get? b = some u->h'.get? b = some u):Inv X zk σ H { s with heap:=h',toks:=t' }:=I.un (Un.kept k) (I.hok.kept k)
theorem Inv.laid {a:Addr} {o:HO} {t':Nat} (I:Inv X zk σ H s) (k:∀ b u,s.heap.get? b = some u->h'.get? b = some u) (hp:s.heap.objs.size <= a) (new:ObjOk X.prog X.w (upd H a o) h' a o) :
  Inv X zk σ (upd H a o) { s with heap:=h',toks:=t' }:=I.un (Un.laid k hp (I.hok.fresh hp)) (I.hok.laid k hp new)
theorem Inv.write {x e:Addr} {o:HO} {t':Nat} (I:Inv X zk σ H s) (mu:Mut (H x)) (he:e = x\/H e = some (.own x)) (k:∀ b u,b ≠ e->s.heap.get? b = some u->h'.get? b = some u) (heo:∃ u,h'.get? e = some u)
  (new:ObjOk X.prog X.w (upd H x o) h' x o):Inv X zk σ (upd H x o) { s with heap:=h',toks:=t' }:=I.un (Un.write mu he k heo) (I.hok.write mu he k heo new)
theorem Inv.pins_of {pins':List (Addr × Obj)} (I:Inv X zk σ H s) (h:∀ p ∈ pins',s.heap.get? p.1 = some p.2/\H p.1 = none/\p.1 ≠ X.env.locals/\p.1 ∉ X.fs/\∀ v,p.2.data ≠ .cell v):Inv X pins' σ H s :=
 ⟨I.ok,I.os,I.bare,I.base,I.loc,I.cell,I.free,I.freeC,fun p hp=>(List.mem_append.mp hp).elim (fun z=>I.pin p (List.mem_append_left _ z)) (h p),I.hok,I.len⟩
theorem zkA {N:List Str} (hN:N.Nodup) {i j:Nat} {x:Str} (a:N[i]? = some x) (b:N[j]? = some x):i = j:=by
 obtain ⟨h1,e1⟩:=List.getElem?_eq_some_iff.mp a
 obtain ⟨h2,e2⟩:=List.getElem?_eq_some_iff.mp b
 exact (List.getElem_inj hN).mp (e1.trans e2.symm)
theorem znS {M:Model} {A:Around} {E:Value->Shared->Prop} {i:Nat} {x:Str} {v:V} {u:Value} {Q:Unit->Shared->Prop} (I:Inv X zk σ H s) (hN:X.N.Nodup) (hi:X.N[i]? = some x) (hx:Loc X.env.scope x) (r:RelV v u)
  (h:∀ s',Inv X zk (σ.set i (some v)) H s'->(∃ a,Heap.SameBut a s.heap s'.heap/\(a = X.env.locals\/X.env.cells.lookup x = some a))->Q () s') (hf:X.fn x = true\/X.env.scope.names.lookup x = some .local:=by first | exact .inl rfl | exact .inr rfl | assumption):wpAny M A (storeName X.env x u) Q E s:=by
 obtain ⟨m,hn,hl⟩:=id I.loc
 have hcls:(X.env.scope.kind == .class || (X.env.scope.kind == .module && X.env.locals != X.env.globals)) = false:=by rw [I.ok.kind]; rfl
 have hiσ:i < σ.length:=by rw [I.len]; exact (List.getElem?_eq_some_iff.mp hi).1
 have cne:=I.cne
 have tracked:∀ {a:Addr} {h':Heap},(∃ o,s.heap.get? a = some o/\H a = none)->Heap.SameBut a s.heap h'->HOk X.prog X.w H h':=fun {a h'} ha hs b ob e=>by
  obtain ⟨_,_,hfree⟩:=ha
  refine (I.hok b ob e).stay (fun c w' hc q=>(hs.2 c ?_).trans q) (fun _ q=>q) fun _ _ q=>q
  rintro rfl
  rcases hc with rfl | hc
  ·rw [hfree] at e; cases e
  ·rw [hfree] at hc; cases hc
 rcases hx with hk | hk
 ·refine wpAny_storeName_local hk hn (fun h' hn' hs=>?_) hcls
  obtain ⟨oL,_,_,hoL,_⟩:=id hn
  refine h _ ⟨I.ok,I.os,I.bare,⟨fun b o e n hb hx=>?_,fun b o e n hb hx=>?_,I.base.free,fun b o e hx=>?_,I.base.tups,I.base.frzs,I.base.tbls⟩,⟨_,hn',fun j y v' e1 e2 e3=>?_⟩,fun y c e=>?_,I.free,I.freeC,fun p hp=>?_,tracked ⟨oL,hoL,I.free⟩ hs,by simpa using I.len⟩ ⟨_,hs,.inl rfl⟩
  ·exact (hs.2 b (Nat.ne_of_lt (Nat.lt_of_lt_of_le (Heap.lt_size e) I.ok.above))).trans (I.base.keep b o e n hb hx)
  ·obtain ⟨sl,e1⟩:=I.base.slot b o e n hb hx
   exact ⟨sl,(hs.2 b (Nat.ne_of_lt (Nat.lt_of_lt_of_le (Heap.lt_size e) I.ok.above))).trans e1⟩
  ·obtain ⟨o',e1⟩:=I.base.there b o e hx
   exact ⟨o',(hs.2 b (Nat.ne_of_lt (Nat.lt_of_lt_of_le (Heap.lt_size e) I.ok.above))).trans e1⟩
  ·by_cases hj:j = i
   ·subst hj
    rw [hi] at e1; cases e1
    rw [List.getElem?_set_self hiσ] at e2
    cases e2
    exact ⟨u,r,.inl ⟨hk,by simp⟩⟩
   ·rw [List.getElem?_set_ne (Ne.symm hj)] at e2
    obtain ⟨u',r',q⟩:=hl j y v' e1 e2 e3
    refine ⟨u',r',?_⟩
    rcases q with ⟨k,e⟩ | ⟨k,c,e,z⟩
    ·refine .inl ⟨k,?_⟩
     have:y ≠ x:=fun e=>hj (zkA hN e1 (e ▸ hi))
     simp [this,e]
    ·exact .inr ⟨k,c,e,z.sameBut hs (cne y c e)⟩
  ·obtain ⟨w',z⟩:=I.cell y c e
   exact ⟨w',z.sameBut hs (cne y c e)⟩
  ·obtain ⟨e,n,ne,nf,d⟩:=I.pin p hp
   exact ⟨(hs.2 p.1 ne).trans e,n,ne,nf,d⟩
 ·have hfn:X.fn x = true:=by
   rcases hf with z | z
   ·exact z
   ·rw [z] at hk; cases hk
  obtain ⟨c,hc⟩:=I.ok.has x (.inl hk)
  obtain ⟨w',z⟩:=I.cell x c hc
  refine wpAny_storeName_cell I.ok.kind hk hc z (fun h' hc' hs=>?_)
  obtain ⟨oc,hoc,hocd⟩:=id z
  refine h { s with heap:=h' } ⟨I.ok,I.os,I.bare,⟨fun b o e n hb hx=>?_,fun b o e n hb hx=>?_,I.base.free,fun b o e hx=>?_,I.base.tups,I.base.frzs,I.base.tbls⟩,⟨m,hn.sameBut hs (Ne.symm (cne x c hc)),fun j y v' e1 e2 e3=>?_⟩,fun y c' e=>?_,I.free,I.freeC,fun p hp=>?_,tracked ⟨oc,hoc,I.freeC x c hc⟩ hs,by simpa using I.len⟩ ⟨c,hs,.inr hc⟩
  ·exact (hs.2 b (Nat.ne_of_lt (Nat.lt_of_lt_of_le (Heap.lt_size e) (I.ok.cab x c hfn hc)))).trans (I.base.keep b o e n hb hx)
  ·obtain ⟨sl,e1⟩:=I.base.slot b o e n hb hx
   exact ⟨sl,(hs.2 b (Nat.ne_of_lt (Nat.lt_of_lt_of_le (Heap.lt_size e) (I.ok.cab x c hfn hc)))).trans e1⟩
  ·obtain ⟨o',e1⟩:=I.base.there b o e hx
   exact ⟨o',(hs.2 b (Nat.ne_of_lt (Nat.lt_of_lt_of_le (Heap.lt_size e) (I.ok.cab x c hfn hc)))).trans e1⟩
  ·by_cases hj:j = i
   ·subst hj
    rw [hi] at e1; cases e1
    rw [List.getElem?_set_self hiσ] at e2
    cases e2
    exact ⟨u,r,.inr ⟨.inl hk,c,hc,hc'⟩⟩
   ·rw [List.getElem?_set_ne (Ne.symm hj)] at e2
    obtain ⟨u',r',q⟩:=hl j y v' e1 e2 e3
    refine ⟨u',r',?_⟩
    rcases q with q | ⟨k,c',e,z'⟩
    ·exact .inl q
    ·refine .inr ⟨k,c',e,z'.sameBut hs ?_⟩
     rintro rfl
     exact hj (zkA hN e1 (I.ok.inj _ _ _ e hc ▸ hi))
  ·by_cases hcc:c' = c
   ·subst hcc; exact ⟨_,hc'⟩
   ·obtain ⟨w2,z2⟩:=I.cell y c' e
    exact ⟨w2,z2.sameBut hs hcc⟩
  ·obtain ⟨e,n,ne,nf,d⟩:=I.pin p hp
   refine ⟨(hs.2 p.1 ?_).trans e,n,ne,nf,d⟩
   intro q
   rw [q,hoc] at e
   have q':oc = p.2:=Option.some.inj e
   exact d w' (by rw [<- q']; exact hocd)
theorem zfF {M:Model} {A:Around} {E:Value->Shared->Prop} {i:Nat} {x:Str} {v:V} {u:Value} {Q:Unit->Shared->Prop} (I:Inv X zk σ H s) (hN:X.N.Nodup) (hi:X.N[i]? = some x) (hx:Loc X.env.scope x) (r:RelV v u)
  (h:∀ s',Inv X zk (σ.set i (some v)) H s'->Q () s') (hf:X.fn x = true\/X.env.scope.names.lookup x = some .local:=by first | exact .inl rfl | exact .inr rfl | assumption):wpAny M A (storeName X.env x u) Q E s :=
 znS I hN hi hx r (fun s' I' _=>h s' I') hf
theorem Inv.call' {s':Shared} {ch:List Addr} (I:Inv X zk σ H s) (ho:s'.os = s.os) (u:Un (frs X.stack) ch H H' s.heap s'.heap) (hok:HOk X.prog X.w H' s'.heap) (hg:AllBare s'.gens)
  (hch:∀ b ∈ ch,(b ∈ X.ex\/X.s₀.heap.objs.size <= b)/\b ≠ X.env.locals/\(∀ x c,X.env.cells.lookup x = some c->c ≠ b)/\∀ p ∈ X.pn ++ zk,p.1 ≠ b):Inv X zk σ H' s':=by
 obtain ⟨h',g',d',t',o'⟩:=s'
 have e:o' = s.os:=ho
 subst e
 exact I.call (g':=g') (t':=t') (d':=d') u hok hg hch
end
abbrev XK:=Value->Option Addr->Hp->Prop
abbrev St:=List (Option V)
abbrev VK:=V->Hp->Prop
abbrev TE:=St->Hp->VK->Prop
abbrev TT:=St->Hp->(Bool->Hp->Prop)->Prop
abbrev TA:=St->Hp->(List V->Hp->Prop)->Prop
structure Ends where
 nx:St->Hp->Prop
 rt:VK
 bk:St->Hp->Prop:=fun _ _=>False
 ct:St->Hp->Prop:=fun _ _=>False
abbrev TS:=Ends->St->Hp->Prop
def EP (X:Cx) (zk:List (Addr × Obj)) (σ:St) (Q:VK) (u:Value) (s':Shared):Prop:=∃ v H',Inv X zk σ H' s'/\RelV v u/\Q v H'
def TP (X:Cx) (zk:List (Addr × Obj)) (σ:St) (Q:Bool->Hp->Prop) (b:Bool) (s':Shared):Prop:=∃ H',Inv X zk σ H' s'/\Q b H'
def AP (X:Cx) (zk:List (Addr × Obj)) (σ:St) (Q:List V->Hp->Prop) (us:List Value) (s':Shared):Prop:=∃ vs H',Inv X zk σ H' s'/\Vals vs us/\Q vs H'
def SP (X:Cx) (zk:List (Addr × Obj)) (D:Ends) (f:Flow) (s':Shared):Prop :=
 match f with
 | .next=>∃ σ' H',Inv X zk σ' H' s'/\D.nx σ' H'
 | .brk=>∃ σ' H',Inv X zk σ' H' s'/\D.bk σ' H'
 | .cont=>∃ σ' H',Inv X zk σ' H' s'/\D.ct σ' H'
 | .ret u=>∃ v σ' H',Inv X zk σ' H' s'/\RelV v u/\D.rt v H'
def PE (X:Cx) (e:Expr) (t:TE):Prop :=
 ∀ (zk:List (Addr × Obj)) (s:Shared) (σ:St) (H:Hp) (Q:VK),Inv X zk σ H s->t σ H Q->wpAny (model X.prog X.w) X.A (eval e X.env) (EP X zk σ Q) X.xe s
def PT (X:Cx) (e:Expr) (t:TT):Prop :=
 ∀ (zk:List (Addr × Obj)) (s:Shared) (σ:St) (H:Hp) (Q:Bool->Hp->Prop),Inv X zk σ H s->t σ H Q->wpAny (model X.prog X.w) X.A (isTrue e X.env (eval e X.env)) (TP X zk σ Q) X.xe s
def PW (X:Cx) (e:Expr) (t:TT):Prop :=
 ∀ (whole:Sem Value) (zk:List (Addr × Obj)) (s:Shared) (σ:St) (H:Hp) (Q:Bool->Hp->Prop),Inv X zk σ H s->t σ H Q->wpAny (model X.prog X.w) X.A (isTrue e X.env whole) (TP X zk σ Q) X.xe s
theorem PW.pt {X:Cx} {e:Expr} {t:TT} (h:PW X e t):PT X e t:=h _
def PA (X:Cx) (es:List Expr) (t:TA):Prop :=
 ∀ (pos:Pos) (zk:List (Addr × Obj)) (s:Shared) (σ:St) (H:Hp) (Q:List V->Hp->Prop),Inv X zk σ H s->t σ H Q->wpAny (model X.prog X.w) X.A (spliced (backTo pos (starEach es X.env))) (AP X zk σ Q) X.xe s
def PS (X:Cx) (st:Stmt) (t:TS):Prop :=
 ∀ (zk:List (Addr × Obj)) (s:Shared) (σ:St) (H:Hp) (D:Ends),Inv X zk σ H s->t D σ H->wpAny (model X.prog X.w) X.A (exec st X.env) (SP X zk D) X.xe s
def PSs (X:Cx) (st:List Stmt) (t:TS):Prop :=
 ∀ (zk:List (Addr × Obj)) (s:Shared) (σ:St) (H:Hp) (D:Ends),Inv X zk σ H s->t D σ H->wpAny (model X.prog X.w) X.A (execs st X.env) (SP X zk D) X.xe s
theorem thn {α:Type} {t:Sem α} {Q Q':α->Shared->Prop} {M:Model} {A:Around} {E:Value->Shared->Prop} {s:Shared} (h:wpAny M A t Q E s) (hQ:∀ a s,Q a s->Q' a s):wpAny M A t Q' E s:=wpAny_mono h hQ fun _ _ x=>x
end
section
section
variable {X:Cx}
def zkn (i:Nat):TE:=fun σ H Q=>∃ v,σ[i]? = some (some v)/\Q v H
def tC (v:V):TE:=fun _ H Q=>Q v H
theorem zuO {i:Nat} {x:Str} {pos:Pos} (hN:X.N[i]? = some x) (hv:Vis X.env.scope x) (hd:(x == ("__debug__":Str)) = false:=by decide) (hcd:(x == ("__classdict__":Str)) = false:=by decide):PE X (.Name x pos) (zkn i):=by
 intro zk s σ H Q I h
 obtain ⟨v,e,h⟩:=h
 obtain ⟨m,hn,hl⟩:=I.loc
 obtain ⟨u,r,l⟩:=hl i x v hN e hv
 have fin:EP X zk σ Q u s:=⟨v,H,I,r,h⟩
 rcases l with ⟨hk,hm⟩ | ⟨hk,c,hc,hcell⟩
 ·exact wpAny_Name (wpAny_loadName_local I.ok.kind hk hn hm fin) hd
 ·rcases hk with hk | hk
  ·exact wpAny_Name (wpAny_loadName_cell I.ok.kind hk hc hcell fin) hd
  ·exact wpAny_Name (wpAny_loadName_free I.ok.kind hk hc hcell fin hcd) hd
theorem zh {i j pos}:PE X (.Constant (.int i) j pos) (tC (.int i)):=fun _ _ _ H _ I h=>wpAny_Constant_int ⟨.int i,H,I.tok _,⟨_,rfl⟩,h⟩
theorem zgs {b j pos}:PE X (.Constant (.bool b) j pos) (tC (.bl b)):=fun _ _ _ H _ I h=>Constant_bool ⟨.bl b,H,I,rfl,h⟩
theorem zuD {j pos}:PE X (.Constant .none j pos) (tC .non):=fun _ _ _ H _ I h=>Constant_none ⟨.non,H,I,rfl,h⟩
theorem zaV {x j pos}:PE X (.Constant (.str x) j pos) (tC (.str x)):=fun _ _ _ H _ I h=>Calls.Constant_str ⟨.str x,H,I.tok _,⟨_,rfl⟩,h⟩
def Gl (X:Cx) (x:Str):Prop:=X.env.kindOf x = some .globalImplicit
theorem zfa {E:Value->Shared->Prop} {zk:List (Addr × Obj)} {s:Shared} {σ:St} {H:Hp} {x:Str} {u:Value} {pos:Pos} {Q:Value->Shared->Prop} (I:Inv X zk σ H s) (hg:Gl X x) (hm:X.mg x = some u) (h:Q u s)
  (hd:(x == ("__debug__":Str)) = false:=by decide):wpAny (model X.prog X.w) X.A (eval (.Name x pos) X.env) Q E s :=
 Calls.Name_function_global I.ok.kind hg (Calls.loadGlobal_global (by rw [I.ok.glob]; exact I.mod.glob.keeps I.bk) hm h) hd
theorem zfS {E:Value->Shared->Prop} {zk:List (Addr × Obj)} {s:Shared} {σ:St} {H:Hp} {x:Str} {u:Value} {pos:Pos} {Q:Value->Shared->Prop} (I:Inv X zk σ H s) (hg:Gl X x) (hm:X.mg x = none) (hv:bootBuiltins x = some u) (h:Q u s)
  (hn:x ≠ "__name__":=by decide) (hd:(x == ("__debug__":Str)) = false:=by decide):wpAny (model X.prog X.w) X.A (eval (.Name x pos) X.env) Q E s:=by
 obtain ⟨mb,h1,h2⟩:=I.mod.blt
 exact Calls.Name_function_global I.ok.kind hg (Calls.loadGlobal_builtin (by rw [I.ok.glob]; exact I.mod.glob.keeps I.bk) hm (by rw [I.ok.blt]; exact h1.keeps I.bk) ((h2 x hn).trans hv) h) hd
theorem zcr {x:Str} {v:V} {u:Value} {pos:Pos} (hg:Gl X x) (hm:X.mg x = some u) (r:RelV v u) (hd:(x == ("__debug__":Str)) = false:=by decide):PE X (.Name x pos) (tC v) :=
 fun _ _ _ H _ I h=>zfa I hg hm ⟨v,H,I,r,h⟩ hd
theorem zee {x:Str} {v:V} {u:Value} {pos:Pos} (hg:Gl X x) (hm:X.mg x = none) (hv:bootBuiltins x = some u) (r:RelV v u) (hn:x ≠ "__name__":=by decide) (hd:(x == ("__debug__":Str)) = false:=by decide):PE X (.Name x pos) (tC v) :=
 fun _ _ _ H _ I h=>zfS I hg hm hv ⟨v,H,I,r,h⟩ hn hd
variable {a b:Expr} {ta tb:TE} {pos:Pos}
def tB (t:TE):TT:=fun σ H Q=>t σ H fun x H1=>∃ c,x = .bl c/\Q c H1
variable {tA tB':TT} {rest:List Expr}
def zvU (t u:TT):TT:=fun σ H Q=>t σ H fun c H1=>if c = true then u σ H1 Q else Q false H1
def tOr (t u:TT):TT:=fun σ H Q=>t σ H fun c H1=>if c = true then Q true H1 else u σ H1 Q
def zvX (t:TT):TT:=fun σ H Q=>t σ H fun c H1=>Q (!c) H1
theorem zr3 (ha:PT X a tA):PW X (.BoolOp .And [a] pos) tA:=by
 intro wh zk s σ H Q I h
 refine isTrue_and (thn (ha zk s σ H Q I h) fun c s1 e=>?_)
 cases c with
 | true=>exact isTrue_and_nil e
 | false=>exact e
theorem zfO (ha:PT X a tA):PW X (.BoolOp .Or [a] pos) tA:=by
 intro wh zk s σ H Q I h
 refine isTrue_or (thn (ha zk s σ H Q I h) fun c s1 e=>?_)
 cases c with
 | false=>exact isTrue_or_nil e
 | true=>exact e
theorem ztV (ha:PT X a tA) (hb:PW X (.BoolOp .And (b :: rest) pos) tB'):PW X (.BoolOp .And (a :: b :: rest) pos) (zvU tA tB'):=by
 intro wh zk s σ H Q I h
 refine isTrue_and (thn (ha zk s σ H _ I h) fun c s1 ⟨H1,I1,q1⟩=>?_)
 cases c with
 | true=>exact hb wh zk s1 σ H1 Q I1 q1
 | false=>exact ⟨H1,I1,q1⟩
theorem zio (ha:PT X a tA) (hb:PW X (.BoolOp .Or (b :: rest) pos) tB'):PW X (.BoolOp .Or (a :: b :: rest) pos) (tOr tA tB'):=by
 intro wh zk s σ H Q I h
 refine isTrue_or (thn (ha zk s σ H _ I h) fun c s1 ⟨H1,I1,q1⟩=>?_)
 cases c with
 | true=>exact ⟨H1,I1,q1⟩
 | false=>exact hb wh zk s1 σ H1 Q I1 q1
theorem zcW (ha:PT X a tA):PT X (.UnaryOp .Not a pos) (zvX tA):=by
 intro zk s σ H Q I h
 exact isTrue_not (ha zk s σ H (fun c H1=>Q (!c) H1) I h)
def ztY (ta tb:TE):TE:=fun σ H Q=>ta σ H fun x H1=>∃ c,x = .bl c/\if c = true then tb σ H1 Q else Q (.bl false) H1
def ztF (ta:TE):TE:=fun σ H Q=>ta σ H fun x H1=>∃ c,x = .bl c/\Q (.bl (!c)) H1
theorem zkU {op} {t:TE} (h:PE X a t):PE X (.BoolOp op [a] pos) t:=fun zk s σ H Q I hw=>BoolOp_one (h zk s σ H Q I hw)
theorem zk1 (ha:PE X a ta) (hb:PE X (.BoolOp .And (b :: rest) pos) tb):PE X (.BoolOp .And (a :: b :: rest) pos) (ztY ta tb):=by
 intro zk s σ H Q I h
 refine BoolOp_and (thn (ha zk s σ H _ I h) fun v s1 ⟨x,H1,I1,r1,q1⟩=>?_)
 obtain ⟨c,rfl,q1⟩:=q1
 cases r1
 refine wpAny_truthy_bool ?_
 cases c with
 | true=>exact hb zk s1 σ H1 Q I1 q1
 | false=>exact ⟨.bl false,H1,I1,rfl,q1⟩
theorem zp8 (ha:PE X a ta):PE X (.UnaryOp .Not a pos) (ztF ta):=by
 intro zk s σ H Q I h
 refine UnaryOp_ (thn (ha zk s σ H _ I h) fun v s1 ⟨x,H1,I1,r1,q1⟩=>?_)
 obtain ⟨c,rfl,q1⟩:=q1
 cases r1
 exact not_of (wpAny_truthy_bool ⟨.bl (!c),H1,I1,rfl,q1⟩)
end
end
section
def SqL (K:W.Frag) (H:Hp) (a:Addr) (xs:List V):Prop :=
 Rd H a (.lst xs) \/
  ∃ (o:Obj) (its:Array Value) (n:Nat),K.lookup a = some o/\o.cls = .type "list"/\o.dict = none/\o.data = .seq its n/\its.size <= sizeLine/\Vals xs its.toList
def SqT (K:W.Frag) (H:Hp) (a:Addr) (xs:List V):Prop :=
 Rd H a (.tup xs) \/
  ∃ (o:Obj) (its:Array Value) (n:Nat),K.lookup a = some o/\o.cls = .type "tuple"/\o.data = .seq its n/\its.size <= sizeLine/\Vals xs its.toList
def zwy:Value->Option V
 | .none=>some .non
 | .bool b=>some (.bl b)
 | .int i _=>some (.int i)
 | .str x _=>some (.str x)
 | .bytes b _=>some (.byt b)
 | .float b _=>some (.flt b)
 | .ref a=>some (.ref a)
 | .type n=>some (.ty n)
 | _=>none
theorem RelV.abs {x:V} {u:Value} (r:RelV x u):zwy u = some x:=by
 cases x with
 | non=>cases r; rfl
 | bl _=>cases r; rfl
 | int _=>obtain ⟨t,rfl⟩:=r; rfl
 | str _=>obtain ⟨t,rfl⟩:=r; rfl
 | byt _=>obtain ⟨t,rfl⟩:=r; rfl
 | flt _=>obtain ⟨t,rfl⟩:=r; rfl
 | ref _=>cases r; rfl
 | ty _=>cases r; rfl
theorem RelV.inj {x y:V} {u:Value} (r:RelV x u) (q:RelV y u):x = y:=Option.some.inj (r.abs.symm.trans q.abs)
theorem Vals.inj:∀ {xs ys:List V} {us:List Value},Vals xs us->Vals ys us->xs = ys
 | _,_,_,.nil,.nil=>rfl
 | _,_,_,.cons r t,.cons r' t'=>by rw [r.inj r',Vals.inj t t']
section
variable {X:Cx} {zk:List (Addr × Obj)} {σ:St} {H:Hp} {s:Shared} {a:Addr} {xs ys:List V}
theorem SqL.of {K:W.Frag} (h:H a = some (.lst xs)):SqL K H a xs:=.inl (.inl h)
theorem SqT.of {K:W.Frag} (h:H a = some (.tup xs)):SqT K H a xs:=.inl (.inl h)
theorem Inv.list (I:Inv X zk σ H s) (h:SqL X.K H a xs):∃ its:List Value,Vals xs its/\PlainL s.heap a its.toArray/\xs.length <= sizeLine:=by
 rcases h with h | ⟨o,its,n,hk,hc,hd,hs,hz,r⟩
 ·obtain ⟨z,its,n,r,e⟩:=h.ok I.hok
  exact ⟨its,r,⟨_,n,e,rfl,rfl,rfl⟩,z⟩
 ·refine ⟨its.toList,r,⟨o,n,I.kIn a o hk,hc,hd,by simpa using hs⟩,?_⟩
  have e:=r.length
  simp only [Array.length_toList] at e
  omega
theorem Inv.tuple (I:Inv X zk σ H s) (h:SqT X.K H a xs):∃ its:List Value,Vals xs its/\IsTup s.heap a its.toArray/\xs.length <= sizeLine:=by
 rcases h with h | ⟨o,its,n,hk,hc,hs,hz,r⟩
 ·obtain ⟨z,its,r,p⟩:=h.ok I.hok
  exact ⟨its,r,p,z.1⟩
 ·refine ⟨its.toList,r,⟨o,I.kIn a o hk,hc,n,by simpa using hs⟩,?_⟩
  have e:=r.length
  simp only [Array.length_toList] at e
  omega
theorem Inv.list_inj (I:Inv X zk σ H s) (h:SqL X.K H a xs) (h':SqL X.K H a ys):xs = ys:=by
 obtain ⟨its,r,⟨o,n,e,_,_,d⟩,_⟩:=I.list h
 obtain ⟨its',r',⟨o',n',e',_,_,d'⟩,_⟩:=I.list h'
 rw [e] at e'; cases e'
 rw [d] at d'
 injection d' with d1 _
 have:its = its':=by simpa using congrArg Array.toList d1
 subst this
 exact r.inj r'
theorem Inv.tuple_inj (I:Inv X zk σ H s) (h:SqT X.K H a xs) (h':SqT X.K H a ys):xs = ys:=by
 obtain ⟨its,r,⟨o,e,_,n,d⟩,_⟩:=I.tuple h
 obtain ⟨its',r',⟨o',e',_,n',d'⟩,_⟩:=I.tuple h'
 rw [e] at e'; cases e'
 rw [d] at d'
 injection d' with d1 _
 have:its = its':=by simpa using congrArg Array.toList d1
 subst this
 exact r.inj r'
end
abbrev Cx.wish (X:Cx) (E:Value->Shared->Prop):Cx:={ X with xe:=E }
abbrev Cx.nox (X:Cx):Cx:=X.wish fun _ _=>False
theorem Cx.Ok.wish {X:Cx} (ok:X.Ok) (E:Value->Shared->Prop):(X.wish E).Ok :=
 ⟨ok.mod,ok.kind,ok.glob,ok.blt,ok.above,ok.inj,ok.has,ok.cab,ok.hd,ok.frames,ok.stk,ok.exf,ok.bs,ok.bsz,ok.noex,ok.exfs,ok.funs,ok.frf⟩
theorem Cx.Ok.unwish {X:Cx} {E:Value->Shared->Prop} (ok:(X.wish E).Ok):X.Ok :=
 ⟨ok.mod,ok.kind,ok.glob,ok.blt,ok.above,ok.inj,ok.has,ok.cab,ok.hd,ok.frames,ok.stk,ok.exf,ok.bs,ok.bsz,ok.noex,ok.exfs,ok.funs,ok.frf⟩
section
variable {X:Cx} {zk:List (Addr × Obj)} {σ:St} {H:Hp} {s:Shared} {E:Value->Shared->Prop}
theorem Inv.wish (I:Inv X zk σ H s) (E:Value->Shared->Prop):Inv (X.wish E) zk σ H s:=⟨I.ok.wish E,I.os,I.bare,I.base,I.loc,I.cell,I.free,I.freeC,I.pin,I.hok,I.len⟩
theorem Inv.unwish (I:Inv (X.wish E) zk σ H s):Inv X zk σ H s:=⟨I.ok.unwish,I.os,I.bare,I.base,I.loc,I.cell,I.free,I.freeC,I.pin,I.hok,I.len⟩
theorem SP.unwish {D:Ends} {f:Flow} {s':Shared} (h:SP (X.wish E) zk D f s'):SP X zk D f s':=by
 cases f with
 | next=>obtain ⟨σ',H',I,q⟩:=h; exact ⟨σ',H',I.unwish,q⟩
 | brk=>obtain ⟨σ',H',I,q⟩:=h; exact ⟨σ',H',I.unwish,q⟩
 | cont=>obtain ⟨σ',H',I,q⟩:=h; exact ⟨σ',H',I.unwish,q⟩
 | ret u=>obtain ⟨v,σ',H',I,r,q⟩:=h; exact ⟨v,σ',H',I.unwish,r,q⟩
theorem PE.nox {e:Expr} {t:TE} (h:PE X.nox e t):PE X e t:=fun zk s σ H Q I hw =>
 wpAny_mono (h zk s σ H Q (I.wish _) hw) (fun _ _ ⟨v,H',I',r,q⟩=>⟨v,H',I'.unwish,r,q⟩) fun _ _ z=>False.elim z
theorem PT.nox {e:Expr} {t:TT} (h:PT X.nox e t):PT X e t:=fun zk s σ H Q I hw =>
 wpAny_mono (h zk s σ H Q (I.wish _) hw) (fun _ _ ⟨H',I',q⟩=>⟨H',I'.unwish,q⟩) fun _ _ z=>False.elim z
theorem PSs.nox {st:List Stmt} {t:TS} (h:PSs X.nox st t):PSs X st t:=fun zk s σ H D I hw =>
 wpAny_mono (h zk s σ H D (I.wish _) hw) (fun _ _ q=>q.unwish) fun _ _ z=>False.elim z
end
section
variable {X:Cx} {st:Stmt} {rest:List Stmt} {t u:TS} {e:Expr} {te:TE} {pos:Pos}
def zrv:TS:=fun D σ H=>D.nx σ H
def zjr (t u:TS):TS:=fun D σ H=>t { D with nx:=u D } σ H
theorem zaq:PSs X [] zrv:=fun _ _ σ H _ I h=>wpAny_execs_nil ⟨σ,H,I,h⟩
theorem zj (h1:PS X st t) (h2:PSs X rest u):PSs X (st :: rest) (zjr t u):=by
 intro zk s σ H D I h
 refine wpAny_execs_cons (thn (h1 zk s σ H { D with nx:=u D } I h) fun f s1 q=>?_)
 cases f with
 | next =>
  obtain ⟨σ',H',I',q⟩:=q
  exact h2 zk s1 σ' H' D I' q
 | ret v=>exact q
 | brk=>exact q
 | cont=>exact q
theorem zr (h1:PS X st t):PSs X [st] t:=by
 intro zk s σ H D I h
 refine wpAny_execs_cons (thn (h1 zk s σ H D I h) fun f s1 q=>?_)
 cases f with
 | next=>exact wpAny_execs_nil q
 | ret v=>exact q
 | brk=>exact q
 | cont=>exact q
theorem Inv.quiet {zk:List (Addr × Obj)} {σ:St} {H:Hp} {s:Shared} (I:Inv X zk σ H s):interactive X.env = false:=by simp [interactive,I.ok.kind]
def zr0 (te:TE):TS:=fun D σ H=>te σ H fun _ H1=>D.nx σ H1
theorem zdN (he:PE X e te) (hs:swapsWith e none pos.line X.env = pure false:=by rfl):PS X (.Expr e pos) (zr0 te):=by
 intro zk s σ H D I h
 exact wpAny_Expr_any (thn (he zk s σ H _ I h) fun v s1 ⟨x,H1,I1,r1,q1⟩=>⟨σ,H1,I1,q1⟩) I.quiet hs
def zvp (te:TE):TS:=fun D σ H=>te σ H D.rt
theorem zP (he:PE X e te):PS X (.Return (some e) pos) (zvp te):=by
 intro zk s σ H D I h
 exact wpAny_Return_some (thn (he zk s σ H _ I h) fun v s1 ⟨x,H1,I1,r1,q1⟩=>⟨x,σ,H1,I1,r1,q1⟩)
def zu4 (c:TT) (t u:TS):TS:=fun D σ H=>c σ H fun b H1=>if b = true then t D σ H1 else u D σ H1
theorem zbS {c:Expr} {a b:List Stmt} {tc:TT} (hc:PT X c tc) (ha:PSs X a t) (hb:PSs X b u):PS X (.If c a b pos) (zu4 tc t u):=by
 intro zk s σ H D I h
 refine wpAny_If (thn (hc zk s σ H _ I h) fun d s1 ⟨H1,I1,q1⟩=>?_)
 cases d with
 | true=>exact ha zk s1 σ H1 D I1 q1
 | false=>exact hb zk s1 σ H1 D I1 q1
def zqY:TS:=fun _ _ _=>False
theorem zhL:PS X st zqY:=fun _ _ _ _ _ _ h=>h.elim
end
abbrev TG:=V->St->Hp->(St->Hp->Prop)->Prop
abbrev TGs:=List V->St->Hp->(St->Hp->Prop)->Prop
def PG (X:Cx) (target:Expr) (t:TG):Prop :=
 ∀ (zk:List (Addr × Obj)) (s:Shared) (σ:St) (H:Hp) (v:V) (u:Value) (Q:St->Hp->Prop),Inv X zk σ H s->RelV v u->t v σ H Q ->
  wpAny (model X.prog X.w) X.A (assign target X.env u) (fun _ s'=>∃ σ' H',Inv X zk σ' H' s'/\Q σ' H') X.xe s
def PGs (X:Cx) (ts:List Expr) (t:TGs):Prop :=
 ∀ (zk:List (Addr × Obj)) (s:Shared) (σ:St) (H:Hp) (vs:List V) (us:List Value) (Q:St->Hp->Prop),Inv X zk σ H s->Vals vs us->t vs σ H Q ->
  wpAny (model X.prog X.w) X.A (assignInOrder ((assignEach ts X.env).map (·.2)) us) (fun _ s'=>∃ σ' H',Inv X zk σ' H' s'/\Q σ' H') X.xe s
abbrev TSet:=V->V->V->Hp->(Hp->Prop)->Prop
def PSet (X:Cx) (t:TSet):Prop :=
 ∀ (zk:List (Addr × Obj)) (s:Shared) (σ:St) (H:Hp) (o i v:V) (ov iv u:Value) (Q:Hp->Prop),Inv X zk σ H s->RelV o ov->RelV i iv->RelV v u->t o i v H Q ->
  wpAny (model X.prog X.w) X.A (setItem ov iv u) (fun _ s'=>∃ H',Inv X zk σ H' s'/\Q H') X.xe s
section
variable {X:Cx} {pos:Pos}
def zjJ (i:Nat):TG:=fun v σ H Q=>Q (σ.set i (some v)) H
theorem zH {i:Nat} {x:Str} (hN:X.N.Nodup) (hi:X.N[i]? = some x) (hx:Loc X.env.scope x) (hf:X.fn x = true\/X.env.scope.names.lookup x = some .local:=by first | exact .inl rfl | exact .inr rfl | assumption):PG X (.Name x pos) (zjJ i):=by
 intro zk s σ H v u Q I r h
 exact wpAny_assign_Name (zfF I hN hi hx r (fun s' I'=>⟨_,H,I',h⟩) hf)
def zv5:TGs:=fun vs σ H Q=>vs = []/\Q σ H
def zsC (t:TG) (u:TGs):TGs:=fun vs σ H Q=>∃ v r,vs = v :: r/\t v σ H fun σ' H'=>u r σ' H' Q
theorem zb5:PGs X [] zv5:=by
 intro zk s σ H vs us Q I r h
 obtain ⟨e,h⟩:=h
 subst e
 cases r
 exact assignInOrder_nil ⟨σ,H,I,h⟩
theorem zac {e:Expr} {es:List Expr} {t:TG} {u:TGs} (h1:PG X e t) (h2:PGs X es u)
  (hs:(assignEach (e :: es) X.env).map (·.2) = assign e X.env :: (assignEach es X.env).map (·.2):=by rfl):PGs X (e :: es) (zsC t u):=by
 intro zk s σ H vs us Q I r h
 obtain ⟨v,vr,e1,h⟩:=h
 subst e1
 cases r with
 | cons r rr =>
  rw [hs]
  refine assignInOrder_cons (thn (h1 zk s σ H _ _ _ I r h) fun _ s1 ⟨σ1,H1,I1,q1⟩=>?_)
  exact h2 zk s1 σ1 H1 _ _ Q I1 rr q1
def zwo (K:W.Frag) (n:Nat) (t:TGs):TG:=fun v σ H Q=>∃ a xs,v = .ref a/\SqT K H a xs/\xs.length = n/\t xs σ H Q
theorem zdn {es:List Expr} {k:Nat} {t:TGs} {n:Nat} (hc:X.calm = true) (h:PGs X es t)
  (hn:(assignEach es X.env).length = n:=by rfl) (hst:(assignEach es X.env).findIdx? (·.1) = none:=by rfl):PG X (.Tuple es k pos) (zwo X.K n t):=by
 intro zk s σ H v u Q I r hw
 obtain ⟨a,xs,e1,hq,hl,hw⟩:=hw
 subst e1
 cases r
 obtain ⟨its,rv,ht,hz⟩:=I.tuple hq
 refine assign_Tuple_tuple (I.ok.hd hc) ht (by simp [hn,<- hl,rv.length]) hst fun h' hx=>?_
 have I1:Inv X zk σ H { s with heap:=h' }:=I.kept (t':=s.toks) fun b o e=>hx b o (Nat.ne_of_lt (Heap.lt_size e)) e
 exact h zk _ σ H xs _ Q I1 (by simpa using rv) hw
def zv8 (to ti:TE) (t:TSet):TG:=fun v σ H Q=>to σ H fun o H1=>ti σ H1 fun i H2=>t o i v H2 fun H3=>Q σ H3
theorem zpL {o i:Expr} {to ti:TE} {t:TSet} (ho:PE X o to) (hi:PE X i ti) (hs:PSet X t)
  (ha:∀ v,assign (.Subscript o i pos) X.env v = (do
   let ov <- holding [v] (eval o X.env)
   let iv <- holding [v,ov] (eval i X.env)
   standAt pos
   holding [v,ov,iv] (setItem ov iv v)
   release [v,ov,iv] []):=by intro _; rfl):PG X (.Subscript o i pos) (zv8 to ti t):=by
 intro zk s σ H v u Q I r h
 rw [ha]
 refine wpAny_bind (wpAny_holding (thn (ho zk s σ H _ I h) fun ov s1 ⟨x,H1,I1,r1,q1⟩=>?_))
 refine wpAny_bind (wpAny_holding (thn (hi zk s1 σ H1 _ I1 q1) fun iv s2 ⟨y,H2,I2,r2,q2⟩=>?_))
 refine wpAny_bind (wpAny_standAt (wpAny_bind (wpAny_holding (thn (hs zk s2 σ H2 x y v ov iv u _ I2 r1 r2 r q2) fun _ s3 ⟨H3,I3,q3⟩=>?_))))
 exact wpAny_release ⟨σ,H3,I3,q3⟩
def zsx (te:TE) (g:TG):TS:=fun D σ H=>te σ H fun x H1=>g x σ H1 D.nx
theorem zkE {tg e:Expr} {te:TE} {g:TG} (he:PE X e te) (hg:PG X tg g) (hs:swapsWithSole [tg] e pos.line X.env = pure false:=by rfl) (hw:swappedStores [tg] e X.env = pure none:=by rfl)
  (h1:(assignEach [tg] X.env).map (·.2) = [assign tg X.env]:=by rfl):PS X (.Assign [tg] e pos) (zsx te g):=by
 intro zk s σ H D I h
 refine wpAny_Assign_stores (thn (he zk s σ H _ I h) fun v s1 ⟨x,H1,I1,r1,q1⟩=>?_) hs hw
 rw [h1]
 exact thn (hg zk s1 σ H1 x v _ I1 r1 q1) fun _ s2 q=>q
theorem zC {i:Nat} {x:Str} {e:Expr} {te:TE} {pos':Pos} (hN:X.N.Nodup) (hi:X.N[i]? = some x) (hx:Loc X.env.scope x) (he:PE X e te) (hs:swapsWith e (some (.Name x pos')) pos.line X.env = pure false:=by rfl) (hf:X.fn x = true\/X.env.scope.names.lookup x = some .local:=by first | exact .inl rfl | exact .inr rfl | assumption) :
  PS X (.Assign [.Name x pos'] e pos) (zsx te (zjJ i)):=by
 intro zk s σ H D I h
 refine wpAny_Assign_Name (thn (he zk s σ H _ I h) fun v s1 ⟨y,H1,I1,r1,q1⟩=>?_) hs
 exact zfF I1 hN hi hx r1 (fun s2 I2=>⟨_,H1,I2,q1⟩) hf
end
structure It where
 go:Nat->Hp->Prop
 yld:Nat->Hp->V->Hp->Prop
 stop:Nat->Hp->Prop
def FpOk (X:Cx) (zk:List (Addr × Obj)) (H:Hp) (b:Addr):Prop :=
 H b = none/\b ≠ X.env.locals/\b ∉ X.fs/\(b ∈ X.ex\/X.s₀.heap.objs.size <= b)/\(∀ x c,X.env.cells.lookup x = some c->c ≠ b)/\∀ p ∈ X.pn ++ zk,p.1 ≠ b
theorem Inv.fpOk {X:Cx} {zk:List (Addr × Obj)} {σ:St} {H H':Hp} {s:Shared} {b:Addr} (I:Inv X zk σ H s) (hb:s.heap.objs.size <= b) (hn:H' b = none):FpOk X zk H' b:=by
 refine ⟨hn,Nat.ne_of_gt (Nat.lt_of_lt_of_le I.lt hb),I.nofs hb,.inr (Nat.le_trans I.sz hb),fun x c e z=>?_,fun p hp z=>?_⟩
 ·obtain ⟨v,q⟩:=I.cell x c e
  exact absurd (Nat.lt_of_lt_of_le q.lt (by rw [z]; exact hb)) (Nat.lt_irrefl _)
 ·exact absurd (Nat.lt_of_lt_of_le (Heap.lt_size (I.pin p hp).1) (by rw [z]; exact hb)) (Nat.lt_irrefl _)
structure Turn (P:Program) (w:World) (K:W.Frag) (tg:Expr) (J:It) (fp:List Addr) (it:Addr) (tn:Nat->Heap->Prop):Prop where
 mem:it ∈ fp
 obj:∀ i h,tn i h->∀ b ∈ fp,∃ o,h.get? b = some o/\∀ v,o.data ≠ .cell v
 keep:∀ i h h',tn i h->(∀ b ∈ fp,∀ o,h.get? b = some o->h'.get? b = some o)->tn i h'
 item:∀ (X:Cx),X.prog = P->X.w = w->X.K = K->X.calm = true->∀ (i:Nat) (zk:List (Addr × Obj)) (s:Shared) (σ:St) (H:Hp) (E:Value->Shared->Prop),Inv X zk σ H s->(∀ b ∈ fp,FpOk X zk H b)->tn i s.heap->J.go i H ->
  wpAny (model P w) X.A (pyNext (.ref it)) (fun r s1=>∃ u,r = some u /\
   wpAny (model P w) X.A (letOwnedTupleGo tg (.ref it) u) (fun _ s2=>∃ x H',Inv X zk σ H' s2/\RelV x u/\J.yld i H x H'/\tn (i + 1) s2.heap/\∀ b ∈ fp,H' b = none) E s1) E s
 done:∀ (X:Cx),X.prog = P->X.w = w->X.K = K->X.calm = true->∀ (i:Nat) (zk:List (Addr × Obj)) (s:Shared) (σ:St) (H:Hp) (E:Value->Shared->Prop),Inv X zk σ H s->(∀ b ∈ fp,FpOk X zk H b)->tn i s.heap->J.stop i H ->
  wpAny (model P w) X.A (pyNext (.ref it)) (fun r s1=>r = none/\Inv X zk σ H s1) E s
 self:∀ (A:Around) (i:Nat) (s:Shared) (Q:Value->Shared->Prop) (E:Value->Shared->Prop),tn i s.heap->Q (.ref it) s->wpAny (model P w) A (pyIter (.ref it)) Q E s
abbrev TI:=St->Hp->(It->Hp->Prop)->Prop
def PIE (X:Cx) (zk:List (Addr × Obj)) (σ:St) (tg:Expr) (R:It->Hp->Prop) (itv:Value) (s2:Shared):Prop :=
 ∃ (it:Addr) (fp:List Addr) (tn:Nat->Heap->Prop) (J:It) (H':Hp),itv = .ref it/\Inv X zk σ H' s2/\Turn X.prog X.w X.K tg J fp it tn/\tn 0 s2.heap/\(∀ b ∈ fp,FpOk X zk H' b)/\R J H'
def PI (X:Cx) (tg iter:Expr) (wi:TI):Prop :=
 ∀ (zk:List (Addr × Obj)) (s:Shared) (σ:St) (H:Hp) (R:It->Hp->Prop),Inv X zk σ H s->wi σ H R ->
  wpAny (model X.prog X.w) X.A (eval iter X.env) (fun v s1=>wpAny (model X.prog X.w) X.A (pyIter v) (PIE X zk σ tg R) X.xe s1) X.xe s
theorem zmx {M:Model} {A:Around} {E:Value->Shared->Prop} {s:Shared} {tg:Expr} {it:Addr} {u:Value} {o:Obj} {n:String} {vs:Array Value} {Q:Unit->Shared->Prop} (ho:s.heap.get? it = some o) (hc:o.cls = .type n) (hd:o.data = .fields vs)
    (hn:["enumerate","zip","dict_itemiterator","dict_reverseitemiterator","odict_iterator","itertools.zip_longest","itertools.pairwise"].contains n = false) (hQ:Q () s):wpAny M A (letOwnedTupleGo tg (.ref it) u) Q E s:=by
  unfold letOwnedTupleGo
  cases tg <;> first
    | exact wpAny_pure hQ
    | (cases u <;> first
        | exact wpAny_pure hQ
        | (refine wpAny_bind (wpAny_load ho ?_)
           rw [hc,hd]
           show wpAny M A (if (["enumerate","zip","dict_itemiterator","dict_reverseitemiterator","odict_iterator","itertools.zip_longest","itertools.pairwise"].contains n && vs[0]? == some (rawInt _)) = true then _ else _) Q E s
           rw [if_neg (by intro h; rw [hn,Bool.false_and] at h; cases h)]
           exact wpAny_pure hQ))
def Itl (K:W.Frag) (a:Addr):It :=
 ⟨fun i H=>∃ xs x,SqL K H a xs/\xs[i]? = some x,fun i H x H'=>H' = H/\∀ xs,SqL K H a xs->xs[i]? = some x,fun i H=>∃ xs,SqL K H a xs/\xs.length <= i⟩
def Itt (K:W.Frag) (a:Addr):It :=
 ⟨fun i H=>∃ xs x,SqT K H a xs/\xs[i]? = some x,fun i H x H'=>H' = H/\∀ xs,SqT K H a xs->xs[i]? = some x,fun i H=>∃ xs,SqT K H a xs/\xs.length <= i⟩
def Itr (lo:Int) (n:Nat):It:=⟨fun i _=>i < n,fun i H x H'=>H' = H/\x = .int (lo + i),fun i _=>n <= i⟩
theorem zif {P:Program} {w:World} {K:W.Frag} {tg:Expr} (a it:Addr):Turn P w K tg (Itl K a) [it] it (fun i h=>h.IsListIter it a i) where
 mem:=by simp
 obj:=fun i h st b hb=>by
  have e:b = it:=by simpa using hb
  subst e
  obtain ⟨o,e,c,d⟩:=st
  exact ⟨o,e,fun v z=>by rw [d] at z; cases z⟩
 keep:=fun i h h' st k=>st.at fun o e=>k it (by simp) o e
 item:=by
  intro X hP hw hK hc i zk s σ H E I hf st hg
  subst hP hw hK
  obtain ⟨xs,x,hq,hx⟩:=hg
  obtain ⟨its,rv,p,hz⟩:=I.list hq
  obtain ⟨u,hu,ru⟩:=rv.get hx
  obtain ⟨f0,f1,f2,f3,f4,f5⟩:=hf it (by simp)
  refine wpAny_pyNext_list_item st p.isList (x:=u) (by simpa using hu) fun h' st' sb=>?_
  have I1:Inv X zk σ H { s with heap:=h' }:=I.turned (t':=s.toks) (fun b o hb e=>(sb.2 b hb).trans e) f0 f1 f3 f4 f5
  obtain ⟨o,e,c,d⟩:=id st'
  exact ⟨u,rfl,zmx (s:={ s with heap:=h' }) e c d (by decide) ⟨x,H,I1,ru,⟨rfl,fun ys hy=>by rw [I.list_inj hy hq]; exact hx⟩,st',fun b hb=>(hf b hb).1⟩⟩
 done:=by
  intro X hP hw hK hc i zk s σ H E I hf st hg
  subst hP hw hK
  obtain ⟨xs,hq,hx⟩:=hg
  obtain ⟨its,rv,p,hz⟩:=I.list hq
  obtain ⟨f0,f1,f2,f3,f4,f5⟩:=hf it (by simp)
  have hl:=rv.length
  exact wpAny_pyNext_list_end (I.ok.hd hc) st p.isList (by simp; omega) fun h' eb=>⟨rfl,I.turned (t':=s.toks) (fun b o hb e=>eb b o hb e) f0 f1 f3 f4 f5⟩
 self:=fun _ _ _ _ _ st h=>wpAny_pyIter_listiter st h
theorem zlt {P:Program} {w:World} {K:W.Frag} {tg:Expr} (a it:Addr):Turn P w K tg (Itt K a) [it] it (fun i h=>h.IsTupleIter it a i) where
 mem:=by simp
 obj:=fun i h st b hb=>by
  have e:b = it:=by simpa using hb
  subst e
  obtain ⟨o,e,c,d⟩:=st
  exact ⟨o,e,fun v z=>by rw [d] at z; cases z⟩
 keep:=fun i h h' st k=>st.at fun o e=>k it (by simp) o e
 item:=by
  intro X hP hw hK hc i zk s σ H E I hf st hg
  subst hP hw hK
  obtain ⟨xs,x,hq,hx⟩:=hg
  obtain ⟨its,rv,p,hz⟩:=I.tuple hq
  obtain ⟨u,hu,ru⟩:=rv.get hx
  obtain ⟨f0,f1,f2,f3,f4,f5⟩:=hf it (by simp)
  refine wpAny_pyNext_tuple_item st (show s.heap.IsTuple a its.toArray from p) (x:=u) (by simpa using hu) fun h' st' sb=>?_
  have I1:Inv X zk σ H { s with heap:=h' }:=I.turned (t':=s.toks) (fun b o hb e=>(sb.2 b hb).trans e) f0 f1 f3 f4 f5
  obtain ⟨o,e,c,d⟩:=id st'
  exact ⟨u,rfl,zmx (s:={ s with heap:=h' }) e c d (by decide) ⟨x,H,I1,ru,⟨rfl,fun ys hy=>by rw [I.tuple_inj hy hq]; exact hx⟩,st',fun b hb=>(hf b hb).1⟩⟩
 done:=by
  intro X hP hw hK hc i zk s σ H E I hf st hg
  subst hP hw hK
  obtain ⟨xs,hq,hx⟩:=hg
  obtain ⟨its,rv,p,hz⟩:=I.tuple hq
  obtain ⟨f0,f1,f2,f3,f4,f5⟩:=hf it (by simp)
  have hl:=rv.length
  exact wpAny_pyNext_tuple_end (I.ok.hd hc) st (show s.heap.IsTuple a its.toArray from p) (by simp; omega) fun h' eb=>⟨rfl,I.turned (t':=s.toks) (fun b o hb e=>eb b o hb e) f0 f1 f3 f4 f5⟩
 self:=fun _ _ _ _ _ st h=>wpAny_pyIter_tupleiter st h
theorem zlE {P:Program} {w:World} {K:W.Frag} {tg:Expr} (it:Addr) (lo:Int) (n:Nat):Turn P w K tg (Itr lo n) [it] it (fun i h=>IsRangeIter h it (lo + (i:Nat) * 1) ((n:Int) - (i:Nat)) 1) where
 mem:=by simp
 obj:=fun i h st b hb=>by
  have e:b = it:=by simpa using hb
  subst e
  exact ⟨_,st,fun v z=>by
   have z':Data.fields _ = Data.cell v:=z
   cases z'⟩
 keep:=fun i h h' st k=>k it (by simp) _ st
 item:=by
  intro X hP hw hK hc i zk s σ H E I hf st hg
  subst hP hw hK
  obtain ⟨f0,f1,f2,f3,f4,f5⟩:=hf it (by simp)
  have W:=Walks.range (prog:=X.prog) (w:=X.w) (I.ok.hd hc) it lo 1 n
  refine W.item i s _ _ hg st fun v h' tk hv st' kk=>?_
  obtain ⟨t,rfl⟩:=hv
  have I1:Inv X zk σ H { s with heap:=h',toks:=tk }:=I.turned (fun b o hb e=>kk b o (by simpa using hb) e) f0 f1 f3 f4 f5
  refine ⟨_,rfl,zmx (s:={ s with heap:=h',toks:=tk }) (n:="range_iterator") st' rfl rfl (by decide) ⟨.int (lo + i),H,I1,⟨t,?_⟩,⟨rfl,rfl⟩,st',fun b hb=>(hf b hb).1⟩⟩
  rw [Int.mul_one]
 done:=by
  intro X hP hw hK hc i zk s σ H E I hf st hg
  subst hP hw hK
  obtain ⟨f0,f1,f2,f3,f4,f5⟩:=hf it (by simp)
  exact wpAny_pyNext_range_end (I.ok.hd hc) st (by have:n <= i:=hg; omega) fun h' eb=>⟨rfl,I.turned (t':=s.toks) (fun b o hb e=>eb b o hb e) f0 f1 f3 f4 f5⟩
 self:=fun _ _ _ _ _ st h=>wpAny_pyIter_rangeiter st h
end
section
section
variable {X:Cx} {tg:Expr}
def zrl (K:W.Frag) (tl:TE):TI:=fun σ H R=>tl σ H fun x H1=>∃ a,x = .ref a/\(∃ xs,SqL K H1 a xs)/\R (Itl K a) H1
theorem zrj {l:Expr} {tl:TE} (hl:PE X l tl):PI X tg l (zrl X.K tl):=by
 intro zk s σ H R I h
 refine thn (hl zk s σ H _ I h) fun v s1 ⟨x,H1,I1,r1,q1⟩=>?_
 obtain ⟨a,e,⟨xs,hq⟩,q⟩:=q1
 subst e
 cases r1
 obtain ⟨its,rv,p,hz⟩:=I1.list hq
 refine wpAny_pyIter_list p.isList ?_
 refine ⟨s1.heap.objs.size,[s1.heap.objs.size],_,_,H1,rfl,I1.kept (t':=s1.toks) fun b o e=>Heap.get?_push_of_some _ e,zif a _,⟨_,Heap.get?_push_size _ rfl,rfl,rfl⟩,fun b hb=>?_,q⟩
 have e:b = s1.heap.objs.size:=by simpa using hb
 subst e
 exact I1.fpOk (Nat.le_refl _) (I1.hok.fresh (Nat.le_refl _))
def ztW (wi:TI) (g:TG) (tb:TS):TS:=fun D σ H=>wi σ H fun J H1=>∃ W:Nat->Nat->St->Hp->Prop,(∃ m,W 0 m σ H1)/\∀ i m σ H,W i m σ H ->
 (J.stop i H/\D.nx σ H)\/(J.go i H/\∃ N:St->Hp->Prop,(∀ σ' H',N σ' H'->∃ m',m' < m/\W (i + 1) m' σ' H')/\∀ x H',J.yld i H x H'->g x σ H' fun σ2 H2=>tb { D with nx:=N,ct:=N,bk:=D.nx } σ2 H2)
def ziX (fp:List Addr) (h:Heap):List (Addr × Obj):=fp.filterMap fun b=>(h.get? b).map fun o=>(b,o)
theorem zdX {fp:List Addr} {h:Heap} {b:Addr} {o:Obj} (hb:b ∈ fp) (e:h.get? b = some o):(b,o) ∈ ziX fp h:=List.mem_filterMap.mpr ⟨b,hb,by rw [e]; rfl⟩
theorem zme {fp:List Addr} {h:Heap} {p:Addr × Obj} (hp:p ∈ ziX fp h):p.1 ∈ fp/\h.get? p.1 = some p.2:=by
 obtain ⟨b,hb,e⟩:=List.mem_filterMap.mp hp
 cases q:h.get? b with
 | none=>rw [q] at e; cases e
 | some o =>
  rw [q] at e
  have e':(b,o) = p:=Option.some.inj e
  subst e'
  exact ⟨hb,q⟩
theorem Inv.pinned {zk:List (Addr × Obj)} {σ:St} {H:Hp} {s:Shared} {fp:List Addr} (I:Inv X zk σ H s) (hf:∀ b ∈ fp,FpOk X zk H b) (ho:∀ b ∈ fp,∃ o,s.heap.get? b = some o/\∀ v,o.data ≠ .cell v):Inv X (zk ++ ziX fp s.heap) σ H s :=
 I.pins_of fun p hp=>(List.mem_append.mp hp).elim (fun z=>I.pin p (List.mem_append_right _ z)) fun z=>by
  obtain ⟨hb,e⟩:=zme z
  obtain ⟨f0,f1,f2,_⟩:=hf p.1 hb
  obtain ⟨o,e',d⟩:=ho p.1 hb
  rw [e] at e'; cases e'
  exact ⟨e,f0,f1,f2,d⟩
theorem Inv.unpinned {zk pl:List (Addr × Obj)} {σ:St} {H:Hp} {s:Shared} (I:Inv X (zk ++ pl) σ H s):Inv X zk σ H s:=I.pins_of fun p hp=>I.pin p (List.mem_append_right _ (List.mem_append_left _ hp))
theorem zb0 {iter:Expr} {body:List Stmt} {wi:TI} {g:TG} {tb:TS} {pos:Pos} (hp:PassesOwn (model X.prog X.w) X.A X.env X.xe) (hc:X.calm = true) (hi:PI X tg iter wi) (hg:PG X tg g) (hb:PSs X body tb)
  (hs:∀ x,foldedSetIterable iter X.env x = pure x:=by intro _; rfl):PS X (.For tg iter body [] pos) (ztW wi g tb):=by
 intro zk s σ H D I h
 refine wpAny_For (thn (hi zk s σ H _ I h) fun v s1 h1=>thn h1 fun itv s2 h2=>?_) hs
 obtain ⟨it,fp,tn,J,H2,e,I2,T,st2,f2,W,⟨m0,w0⟩,turn⟩:=h2
 subst e
 -- what stays true of the iterator's objects through the loop
 have stat:∀ {H':Hp},(∀ b ∈ fp,H' b = none)->∀ b ∈ fp,FpOk X zk H' b:=fun hn b hb=>⟨hn b hb,(f2 b hb).2⟩
 refine codeAny_forLoop_any (fun n s'=>∃ i σ' H',Inv X zk σ' H' s'/\tn i s'.heap/\(∀ b ∈ fp,H' b = none)/\W i n σ' H') ?_ m0 ⟨0,σ,H2,I2,st2,fun b hb=>(f2 b hb).1,w0⟩
 rintro n s3 ⟨i,σ3,H3,I3,st3,fr3,w3⟩
 rcases turn i n σ3 H3 w3 with ⟨stop,qn⟩ | ⟨go,N,hN,step⟩
 ·refine wpAny_passesOwn hp (thn (T.done X rfl rfl rfl hc i zk s3 σ3 H3 X.xe I3 (stat fr3) st3 stop) fun r s4 ⟨hr,I4⟩=>?_)
  subst hr
  exact wpAny_execs_nil ⟨σ3,H3,I4,qn⟩
 ·refine wpAny_passesOwn hp (thn (T.item X rfl rfl rfl hc i zk s3 σ3 H3 X.xe I3 (stat fr3) st3 go) fun r s4 ⟨u,hr,h4⟩=>?_)
  subst hr
  refine wpAny_passesOwn hp (thn h4 fun _ s5 ⟨x,H5,I5,r5,y5,st5,fr5⟩=>?_)
  have I5':=I5.pinned (stat fr5) (T.obj _ _ st5)
  refine wpAny_passesOwn hp (thn (hg _ s5 σ3 H5 x u _ I5' r5 (step x H5 y5)) fun _ s6 ⟨σ6,H6,I6,q6⟩=>?_)
  refine wpAny_passesOwn hp (thn (hb _ s6 σ6 H6 _ I6 q6) fun f s7 q7=>?_)
  have again:∀ {σ7:St} {H7:Hp},Inv X (zk ++ ziX fp s5.heap) σ7 H7 s7->N σ7 H7->∃ m,m < n/\∃ i σ' H',Inv X zk σ' H' s7/\tn i s7.heap/\(∀ b ∈ fp,H' b = none)/\W i m σ' H':=fun {σ7 H7} I7 n7=>by
   obtain ⟨m',hm,w7⟩:=hN σ7 H7 n7
   refine ⟨m',hm,i + 1,σ7,H7,I7.unpinned,T.keep _ _ _ st5 fun b hb o e=>(I7.pin (b,o) (List.mem_append_right _ (List.mem_append_right _ (zdX hb e)))).1,fun b hb=>?_,w7⟩
   obtain ⟨o,e,d⟩:=T.obj _ _ st5 b hb
   exact (I7.pin (b,o) (List.mem_append_right _ (List.mem_append_right _ (zdX hb e)))).2.1
  cases f with
  | next=>obtain ⟨σ7,H7,I7,n7⟩:=q7; exact again I7 n7
  | cont=>obtain ⟨σ7,H7,I7,n7⟩:=q7; exact again I7 n7
  | brk=>obtain ⟨σ7,H7,I7,q7⟩:=q7; exact ⟨σ7,H7,I7.unpinned,q7⟩
  | ret v=>obtain ⟨x7,σ7,H7,I7,r7,q7⟩:=q7; exact ⟨x7,σ7,H7,I7.unpinned,r7,q7⟩
end
theorem zpd {K:W.Frag} {a:Addr} {xs:List V} {g:TG} {tb:TS} {D:Ends} {σ:St} {H:Hp} (Pv:Nat->St->Hp->Prop) (h0:Pv 0 σ H) (hl:∀ i σ H,i <= xs.length->Pv i σ H->SqL K H a xs)
  (hs:∀ i x σ H,xs[i]? = some x->Pv i σ H->g x σ H fun σ2 H2=>tb { D with nx:=Pv (i + 1),ct:=Pv (i + 1),bk:=D.nx } σ2 H2) (hd:∀ σ H,Pv xs.length σ H->D.nx σ H) :
  ∃ W:Nat->Nat->St->Hp->Prop,(∃ m,W 0 m σ H)/\∀ i m σ H,W i m σ H ->
   ((Itl K a).stop i H/\D.nx σ H)\/((Itl K a).go i H/\∃ N:St->Hp->Prop,(∀ σ' H',N σ' H'->∃ m',m' < m/\W (i + 1) m' σ' H')/\∀ x H',(Itl K a).yld i H x H'->g x σ H' fun σ2 H2=>tb { D with nx:=N,ct:=N,bk:=D.nx } σ2 H2):=by
 refine ⟨fun i m σ H=>m = xs.length - i/\i <= xs.length/\Pv i σ H,⟨xs.length,by simp,Nat.zero_le _,h0⟩,?_⟩
 rintro i m σ H ⟨rfl,hi,p⟩
 have q:=hl i σ H hi p
 by_cases hlt:i < xs.length
 ·refine .inr ⟨⟨xs,xs[i],q,by simp [hlt]⟩,Pv (i + 1),fun σ' H' p'=>⟨xs.length - (i + 1),by omega,rfl,hlt,p'⟩,fun x H' y=>?_⟩
  obtain ⟨e,y⟩:=y
  subst e
  exact hs i x σ _ (y xs q) p
 ·have e:i = xs.length:=by omega
  subst e
  exact .inl ⟨⟨xs,q,Nat.le_refl _⟩,hd σ H p⟩
end
section
abbrev R2:=V->V->Hp->VK->Prop
def OpR (X:Cx) (f:Value->Value->Sem Value) (r:R2):Prop :=
 ∀ (zk:List (Addr × Obj)) (s:Shared) (σ:St) (H:Hp) (x y:V) (v u:Value) (Q:VK),Inv X zk σ H s->RelV x v->RelV y u->r x y H Q ->
  wpAny (model X.prog X.w) X.A (f v u) (EP X zk σ Q) X.xe s
def UnR (X:Cx) (f:Value->Sem Value) (r:V->Hp->VK->Prop):Prop :=
 ∀ (zk:List (Addr × Obj)) (s:Shared) (σ:St) (H:Hp) (x:V) (v:Value) (Q:VK),Inv X zk σ H s->RelV x v->r x H Q ->
  wpAny (model X.prog X.w) X.A (f v) (EP X zk σ Q) X.xe s
def CallR (X:Cx) (f:Value) (r:List V->Hp->VK->Prop):Prop :=
 ∀ (zk:List (Addr × Obj)) (s:Shared) (σ:St) (H:Hp) (xs:List V) (us:List Value) (Q:VK),Inv X zk σ H s->Vals xs us->r xs H Q ->
  wpAny (model X.prog X.w) X.A (call f us) (EP X zk σ Q) X.xe s
def TruR (X:Cx) (r:V->Hp->(Bool->Hp->Prop)->Prop):Prop :=
 ∀ (zk:List (Addr × Obj)) (s:Shared) (σ:St) (H:Hp) (x:V) (v:Value) (Q:Bool->Hp->Prop),Inv X zk σ H s->RelV x v->r x H Q ->
  wpAny (model X.prog X.w) X.A (truthy v) (TP X zk σ Q) X.xe s
def tOp (r:R2) (ta tb:TE):TE:=fun σ H Q=>ta σ H fun x H1=>tb σ H1 fun y H2=>r x y H2 Q
def tUn (r:V->Hp->VK->Prop) (ta:TE):TE:=fun σ H Q=>ta σ H fun x H1=>r x H1 Q
def rI (C:Int->Int->Prop) (g:Int->Int->V):R2:=fun x y H Q=>∃ i j,x = .int i/\y = .int j/\C i j/\Q (g i j) H
def rI0 (g:Int->Int->V):R2:=fun x y H Q=>∃ i j,x = .int i/\y = .int j/\Q (g i j) H
def rU (g:Int->V):V->Hp->VK->Prop:=fun x H Q=>∃ i,x = .int i/\Q (g i) H
section
variable {X:Cx} {a b c:Expr} {ta tb tc:TE} {pos:Pos}
theorem zvk (ha:PE X a ta) (hb:PE X b tb) {zk:List (Addr × Obj)} {s:Shared} {σ:St} {H:Hp} {R:V->V->Hp->Prop} (I:Inv X zk σ H s)
  (h:ta σ H fun x H1=>tb σ H1 fun y H2=>R x y H2) {Q:Value->Shared->Prop} {f:Value->Value->Sem Value}
  (hf:∀ v u s2 x y H2,Inv X zk σ H2 s2->RelV x v->RelV y u->R x y H2->wpAny (model X.prog X.w) X.A (f v u) Q X.xe s2) :
  wpAny (model X.prog X.w) X.A (eval a X.env) (fun v s₁=>wpAny (model X.prog X.w) X.A (eval b X.env) (fun u s₂=>wpAny (model X.prog X.w) X.A (f v u) Q X.xe s₂) X.xe s₁) X.xe s:=by
 refine thn (ha zk s σ H _ I h) fun v s1 ⟨x,H1,I1,r1,q1⟩=>?_
 refine thn (hb zk s1 σ H1 _ I1 q1) fun u s2 ⟨y,H2,I2,r2,q2⟩=>?_
 exact hf v u s2 x y H2 I2 r1 r2 q2
theorem zF {op:Operator} {r:R2} (ho:OpR X (binaryOp op) r) (ha:PE X a ta) (hb:PE X b tb):PE X (.BinOp a op b pos) (tOp r ta tb):=by
 intro zk s σ H Q I h
 exact wpAny_BinOp (zvk ha hb I h fun v u s2 x y H2 I2 rx ry q=>ho zk s2 σ H2 x y v u Q I2 rx ry q)
theorem zdf {op:UnaryOp} {r:V->Hp->VK->Prop} (ho:UnR X (unaryOp op) r) (ha:PE X a ta):PE X (.UnaryOp op a pos) (tUn r ta):=by
 intro zk s σ H Q I h
 exact UnaryOp_ (thn (ha zk s σ H _ I h) fun v s1 ⟨x,H1,I1,r1,q1⟩=>ho zk s1 σ H1 x v Q I1 r1 q1)
theorem opI {f:Value->Value->Sem Value} {C:Int->Int->Prop} {g:Int->Int->Int}
  (rule:∀ (i j:Int) (t u:Tok) (s:Shared) (Q:Value->Shared->Prop) (E:Value->Shared->Prop),C i j->Q (.int (g i j) s.toks) { s with toks:=s.toks + 1 }->wpAny (model X.prog X.w) X.A (f (.int i t) (.int j u)) Q E s) :
  OpR X f (rI C fun i j=>.int (g i j)):=by
 intro zk s σ H x y v u Q I rx ry h
 obtain ⟨i,j,rfl,rfl,hc,q⟩:=h
 obtain ⟨t,rfl⟩:=rx
 obtain ⟨t',rfl⟩:=ry
 exact rule i j t t' s _ _ hc ⟨.int (g i j),H,I.tok _,⟨_,rfl⟩,q⟩
theorem zvS {f:Value->Value->Sem Value} {g:Int->Int->Int}
  (rule:∀ (i j:Int) (t u:Tok) (s:Shared) (Q:Value->Shared->Prop) (E:Value->Shared->Prop),Q (.int (g i j) s.toks) { s with toks:=s.toks + 1 }->wpAny (model X.prog X.w) X.A (f (.int i t) (.int j u)) Q E s) :
  OpR X f (rI0 fun i j=>.int (g i j)):=by
 intro zk s σ H x y v u Q I rx ry h
 obtain ⟨i,j,rfl,rfl,q⟩:=h
 obtain ⟨t,rfl⟩:=rx
 obtain ⟨t',rfl⟩:=ry
 exact rule i j t t' s _ _ ⟨.int (g i j),H,I.tok _,⟨_,rfl⟩,q⟩
theorem zu5 {f:Value->Value->Sem Value} {g:Int->Int->Bool}
  (rule:∀ (i j:Int) (t u:Tok) (s:Shared) (Q:Value->Shared->Prop) (E:Value->Shared->Prop),Q (.bool (g i j)) s->wpAny (model X.prog X.w) X.A (f (.int i t) (.int j u)) Q E s) :
  OpR X f (rI0 fun i j=>.bl (g i j)):=by
 intro zk s σ H x y v u Q I rx ry h
 obtain ⟨i,j,rfl,rfl,q⟩:=h
 obtain ⟨t,rfl⟩:=rx
 obtain ⟨t',rfl⟩:=ry
 exact rule i j t t' s _ _ ⟨.bl (g i j),H,I,rfl,q⟩
def CDivN (i j:Int):Prop:=j ≠ 0/\j.natAbs < 1073741824
def CPow (i j:Int):Prop:=0 <= j/\j <= 1000000/\i.natAbs < 2 ^ 64
theorem ztq:OpR X (binaryOp .Add) (rI0 fun i j=>.int (i + j)):=zvS fun _ _ _ _ _ _ _ q=>add_int q
theorem zbF:OpR X (binaryOp .Sub) (rI0 fun i j=>.int (i - j)):=zvS fun _ _ _ _ _ _ _ q=>sub_int q
theorem zoE:OpR X (binaryOp .FloorDiv) (rI CDivN fun i j=>.int (i.fdiv j)):=opI fun _ _ _ _ _ _ _ hc q=>floordiv_int hc.1 q (.inl (PyProof.noPylong_small hc.2))
theorem zez:OpR X (binaryOp .Mod) (rI (fun _ j=>0 < j) fun i j=>.int (i % j)):=opI fun i j _ _ _ _ _ hc q=>by
 have h1:(0:Int) < j:=hc
 exact mod_int' (by omega) (by rw [Int.fmod_eq_emod_of_nonneg i (by omega)]; exact q)
theorem zhm:OpR X (binaryOp .Pow) (rI CPow fun i j=>.int (i ^ j.toNat)):=opI fun _ _ _ _ _ _ _ hc q=>pow_int_small hc.1 hc.2.1 hc.2.2 q
theorem unI {f:Value->Sem Value} {g:Int->Int}
  (rule:∀ (i:Int) (t:Tok) (s:Shared) (Q:Value->Shared->Prop) (E:Value->Shared->Prop),Q (.int (g i) s.toks) { s with toks:=s.toks + 1 }->wpAny (model X.prog X.w) X.A (f (.int i t)) Q E s) :
  UnR X f (rU fun i=>.int (g i)):=by
 intro zk s σ H x v Q I rx h
 obtain ⟨i,rfl,q⟩:=h
 obtain ⟨t,rfl⟩:=rx
 exact rule i t s _ _ ⟨.int (g i),H,I.tok _,⟨_,rfl⟩,q⟩
theorem zby:UnR X (unaryOp .USub) (rU fun i=>.int (-i)):=unI fun _ _ _ _ _ q=>neg_int q
end
section
variable {X:Cx} {a b c:Expr} {ta tb tc:TE} {pos:Pos}
theorem ziL:OpR X (compareOp .Lt) (rI0 fun i j=>.bl (decide (i < j))):=zu5 fun _ _ _ _ _ _ _ q=>lt_int q
theorem zg0:OpR X (compareOp .LtE) (rI0 fun i j=>.bl (decide (i <= j))):=zu5 fun _ _ _ _ _ _ _ q=>le_int q
theorem zpo:OpR X (compareOp .Gt) (rI0 fun i j=>.bl (decide (j < i))):=zu5 fun _ _ _ _ _ _ _ q=>gt_int q
theorem zve:OpR X (compareOp .GtE) (rI0 fun i j=>.bl (decide (j <= i))):=zu5 fun _ _ _ _ _ _ _ q=>ge_int q
theorem OpR.or {f:Value->Value->Sem Value} {r r':R2} (h:OpR X f r) (h':OpR X f r'):OpR X f (fun x y H Q=>r x y H Q\/r' x y H Q):=by
 intro zk s σ H x y v u Q I rx ry q
 rcases q with q | q
 ·exact h zk s σ H x y v u Q I rx ry q
 ·exact h' zk s σ H x y v u Q I rx ry q
theorem nomark (b:Expr) {op:CmpOp} (h:op ≠ .In:=by decide) (h2:op ≠ .NotIn:=by decide):behindInMarks op b = false:=by
 have e1:(op == CmpOp.In) = false:=by cases op <;> first | rfl | exact absurd rfl h
 have e2:(op == CmpOp.NotIn) = false:=by cases op <;> first | rfl | exact absurd rfl h2
 cases b <;> simp [behindInMarks,e1,e2]
theorem zjE {op:CmpOp} {r:R2} (ho:OpR X (compareOp op) r) (ha:PE X a ta) (hb:PE X b tb) (hm:behindInMarks op b = false):PE X (.Compare a [op] [b] pos) (tOp r ta tb):=by
 intro zk s σ H Q I h
 exact wpAny_Compare1 (zvk ha hb I h fun v u s2 x y H2 I2 rx ry q=>ho zk s2 σ H2 x y v u Q I2 rx ry q) hm
def zok (t:TE):TT:=fun σ H Q=>t σ H fun x H'=>∃ k,x = .bl k/\Q k H'
theorem zaw {op:CmpOp} {r:R2} (ho:OpR X (compareOp op) r) (ha:PE X a ta) (hb:PE X b tb) (hm:behindInMarks op b = false):PT X (.Compare a [op] [b] pos) (zok (tOp r ta tb)):=by
 intro zk s σ H Q I h
 refine wpAny_isTrue_Compare1 (thn (ha zk s σ H _ I h) fun v s1 ⟨x,H1,I1,r1,q1⟩=>thn (hb zk s1 σ H1 _ I1 q1) fun u s2 ⟨y,H2,I2,r2,q2⟩ =>
  thn (ho zk s2 σ H2 x y v u _ I2 r1 r2 q2) fun c s3 ⟨z,H3,I3,r3,k,e,q3⟩=>?_) hm
 subst e
 cases r3
 exact wpAny_truthy_bool ⟨H3,I3,q3⟩
def zmP (r r':R2) (ta tb tc:TE):TE:=fun σ H Q=>ta σ H fun x H1=>tb σ H1 fun y H2=>r x y H2 fun z H3=>∃ k,z = .bl k /\
 (if k = true then tc σ H3 fun w' H4=>r' y w' H4 Q else Q (.bl false) H3)
theorem zhC {op op':CmpOp} {r r':R2} (ho:OpR X (compareOp op) r) (ho':OpR X (compareOp op') r') (ha:PE X a ta) (hb:PE X b tb) (hc:PE X c tc)
  (hm:lastMarks [op,op'] [b,c] = false:=by with_unfolding_all rfl):PE X (.Compare a [op,op'] [b,c] pos) (zmP r r' ta tb tc):=by
 intro zk s σ H Q I h
 refine Compare_chain (thn (ha zk s σ H _ I h) fun v s1 ⟨x,H1,I1,r1,q1⟩=>chain_link (thn (hb zk s1 σ H1 _ I1 q1) fun u s2 ⟨y,H2,I2,r2,q2⟩ =>
  thn (ho zk s2 σ H2 x y v u _ I2 r1 r2 q2) fun d s3 ⟨z,H3,I3,r3,k,e,q3⟩=>?_)) hm
 subst e
 cases r3
 refine wpAny_truthy_bool ?_
 cases k with
 | false=>exact ite_ff ⟨.bl false,H3,I3,rfl,q3⟩
 | true=>exact ite_tt (chain_last (thn (hc zk s3 σ H3 _ I3 q3) fun w' s4 ⟨z',H4,I4,r4,q4⟩=>ho' zk s4 σ H4 y z' u w' Q I4 r2 r4 q4))
theorem zh1 {op op':CmpOp} {r r':R2} (ho:OpR X (compareOp op) r) (ho':OpR X (compareOp op') r') (ha:PE X a ta) (hb:PE X b tb) (hc:PE X c tc)
  (hm:lastMarks [op,op'] [b,c] = false:=by with_unfolding_all rfl):PT X (.Compare a [op,op'] [b,c] pos) (zok (zmP r r' ta tb tc)):=by
 intro zk s σ H Q I h
 refine isTrue_chain (thn (ha zk s σ H _ I h) fun v s1 ⟨x,H1,I1,r1,q1⟩=>test_link (thn (hb zk s1 σ H1 _ I1 q1) fun u s2 ⟨y,H2,I2,r2,q2⟩ =>
  thn (ho zk s2 σ H2 x y v u _ I2 r1 r2 q2) fun d s3 ⟨z,H3,I3,r3,k,e,q3⟩=>?_)) hm
 subst e
 cases r3
 refine wpAny_truthy_bool ?_
 cases k with
 | false =>
  obtain ⟨k',e',q'⟩:=q3
  cases e'
  exact ite_ff ⟨H3,I3,q'⟩
 | true =>
  refine ite_tt (test_last (thn (hc zk s3 σ H3 _ I3 q3) fun w' s4 ⟨z',H4,I4,r4,q4⟩=>thn (ho' zk s4 σ H4 y z' u w' _ I4 r2 r4 q4) fun d' s5 ⟨z2,H5,I5,r5,k2,e2,q5⟩=>?_))
  subst e2
  cases r5
  exact wpAny_truthy_bool ⟨H5,I5,q5⟩
def TruV (K:W.Frag) (x:V) (H:Hp) (k:Bool):Prop :=
 match x with
 | .non=>k = false
 | .bl b=>k = b
 | .int i=>k = (i != 0)
 | .str y=>y.length <= sizeLine/\k = ((y.length:Int) != 0)
 | .byt y=>y.size <= sizeLine/\k = ((y.size:Int) != 0)
 | .ref p=>(∃ xs,SqL K H p xs/\k = !xs.isEmpty)\/(∃ xs,SqT K H p xs/\k = !xs.isEmpty)\/∃ kvs,H p = some (.dK kvs)/\k = !kvs.isEmpty
 | _=>False
theorem zlV {κ:Type} {kvs:List (κ × V)} {vs:List (κ × Value)} (r:KV kvs vs):(!vs.isEmpty) = !kvs.isEmpty:=by
 cases r <;> rfl
theorem zhg {xs:List V} {its:List Value} (r:Vals xs its):(!its.toArray.isEmpty) = !xs.isEmpty:=by
 cases r <;> simp
theorem line63:(sizeLine:Nat) < 2 ^ 63:=by rw [sizeLine_eq]; decide
theorem zuj:TruR X (fun x H Q=>∃ k,TruV X.K x H k/\Q k H):=by
 intro zk s σ H x v Q I rx h
 obtain ⟨k,e,q⟩:=h
 have hl:=line63
 have hs:sizeLine = 16777216:=sizeLine_eq
 cases x with
 | non =>
  cases rx
  have e':k = false:=e
  subst e'
  exact truthy_none ⟨H,I,q⟩
 | bl b =>
  cases rx
  have e':k = b:=e
  subst e'
  exact wpAny_truthy_bool ⟨H,I,q⟩
 | int i =>
  obtain ⟨t,rfl⟩:=rx
  have e':k = (i != 0):=e
  subst e'
  exact PySem.P.truthy_int ⟨H,I,q⟩
 | str y =>
  obtain ⟨t,rfl⟩:=rx
  obtain ⟨hy,e'⟩:y.length <= sizeLine/\k = ((y.length:Int) != 0):=e
  subst e'
  exact PySem.P.truthy_str (by omega) ⟨H,I.tok _,q⟩
 | byt y =>
  obtain ⟨t,rfl⟩:=rx
  obtain ⟨hy,e'⟩:y.size <= sizeLine/\k = ((y.size:Int) != 0):=e
  subst e'
  exact PySem.W.truthy_bytes (by omega) ⟨H,I.tok _,q⟩
 | ref p =>
  cases rx
  have e':(∃ xs,SqL X.K H p xs/\k = !xs.isEmpty)\/(∃ xs,SqT X.K H p xs/\k = !xs.isEmpty)\/∃ kvs,H p = some (.dK kvs)/\k = !kvs.isEmpty:=e
  rcases e' with ⟨xs,hx,e'⟩ | ⟨xs,hx,e'⟩ | ⟨kvs,hx,e'⟩
  ·subst e'
   obtain ⟨its,r,pl,hz⟩:=I.list hx
   have hlen:=r.length
   exact wpAny_truthy_list pl.isList (by simp only [List.size_toArray]; omega) ⟨H,I.tok _,by rw [zhg r]; exact q⟩
  ·subst e'
   obtain ⟨its,r,pl,hz⟩:=I.tuple hx
   have hlen:=r.length
   exact truthy_tuple pl (by simp only [List.size_toArray]; omega) ⟨H,I.tok _,by rw [zhg r]; exact q⟩
  ·subst e'
   obtain ⟨hz,hS,vs,r,m⟩:kvs.length <= sizeLine/\(p == sysModules) = false/\∃ vs,KV kvs vs/\s.heap.DictOf (zak X.prog X.w) p vs:=I.hok p _ hx
   have hlen:kvs.length = vs.length:=Paired.length r
   exact wpAny_truthy_dict hS m (by omega) ⟨H,I.tok _,by rw [zlV r]; exact q⟩
 | _=>exact (show False from e).elim
theorem zbe (ha:PE X a ta) (he:∀ whole,isTrue a X.env whole = (do let v <- whole; standAt a.pos; holding [v] (truthy v))) :
  PT X a (fun σ H Q=>ta σ H fun x H'=>∃ k,TruV X.K x H' k/\Q k H'):=by
 intro zk s σ H Q I h
 exact isTrue_plain (thn (ha zk s σ H _ I h) fun v s1 ⟨x,H1,I1,r1,q1⟩=>zuj zk s1 σ H1 x v Q I1 r1 q1) (he _)
theorem zlA:OpR X (binaryOp .Add) (fun x y H Q=>∃ i j,x = .str i/\y = .str j/\i.length + j.length <= sizeLine/\Q (.str (i ++ j)) H):=by
 intro zk s σ H x y v u Q I rx ry h
 obtain ⟨i,j,rfl,rfl,hz,q⟩:=h
 obtain ⟨t,rfl⟩:=rx
 obtain ⟨t',rfl⟩:=ry
 exact add_str (fun t' tk=>⟨.str (i ++ j),H,I.tok _,⟨_,rfl⟩,q⟩) hz
theorem vals1 {x:V} {us:List Value} (r:Vals [x] us):∃ u,us = [u]/\RelV x u:=by
 cases r with
 | cons r1 r2=>cases r2; exact ⟨_,rfl,r1⟩
theorem vals2 {x y:V} {us:List Value} (r:Vals [x,y] us):∃ u w',us = [u,w']/\RelV x u/\RelV y w':=by
 cases r with
 | cons r1 r2 =>
  cases r2 with
  | cons r3 r4=>cases r4; exact ⟨_,_,rfl,r1,r3⟩
theorem zjb (hc:X.calm = true):CallR X (.builtin "max") (fun xs H Q=>∃ i j,xs = [.int i,.int j]/\Q (.int (if j > i then j else i)) H):=by
 intro zk s σ H xs us Q I r h
 obtain ⟨i,j,rfl,q⟩:=h
 obtain ⟨u,w',rfl,⟨t,rfl⟩,⟨t',rfl⟩⟩:=vals2 r
 refine max_two_ints (I.ok.hd hc) fun h' tk k=>⟨_,H,I.kept k,?_,q⟩
 by_cases hj:j > i
 ·rw [if_pos hj,if_pos hj]; exact ⟨_,rfl⟩
 ·rw [if_neg hj,if_neg hj]; exact ⟨_,rfl⟩
theorem zmz:CallR X (.type "int") (fun xs H Q=>(∃ i,xs = [.int i]/\Q (.int i) H)\/∃ k,xs = [.bl k]/\Q (.int (if k then 1 else 0)) H):=by
 intro zk s σ H xs us Q I r h
 rcases h with ⟨i,rfl,q⟩ | ⟨k,rfl,q⟩
 ·obtain ⟨u,rfl,t,rfl⟩:=vals1 r
  exact call_int_int ⟨.int i,H,I,⟨_,rfl⟩,q⟩
 ·obtain ⟨u,rfl,r1⟩:=vals1 r
  cases r1
  exact call_int_bool ⟨.int (if k then 1 else 0),H,I.tok _,⟨_,rfl⟩,q⟩
end
end
section
structure ObjM (h:Heap) (x dx C:Addr) (mA:Str->Option Value):Prop where
 obj:h.get? x = some (PySem.W.instObj C dx)
 ns:h.Ns1 dx mA
 ne:dx ≠ x
theorem zmn {h:Heap} {dx:Addr} {mA:Str->Option Value} (n:h.Ns1 dx mA):∃ od,h.get? dx = some od/\∀ name,PySem.W.lookIn name od = some (mA name):=by
 obtain ⟨o,es,ep,ho,hd,hk,_,hm⟩:=n
 refine ⟨o,ho,fun name=>?_⟩
 have e:=hm name
 unfold nsFind findBy at e
 rw [<- Array.find?_toList] at e
 unfold PySem.W.lookIn
 rw [hd]
 dsimp only
 split
 ·rename_i y q
  rw [q] at e
  exact congrArg some e
 ·rename_i q
  rw [q] at e
  have a:es.toList.any (·.refKey) = false:=by
   rw [List.any_eq_false]
   intro y hy
   obtain ⟨z,t,hkey⟩:=hk y (Array.mem_toList_iff.mp hy)
   simp [DictEntry.refKey,hkey]
  have a':¬ es.toList.any (·.refKey) = true:=by rw [a]; exact Bool.false_ne_true
  rw [if_neg a']
  exact congrArg some e
theorem ObjM.look {h:Heap} {x dx C:Addr} {mA:Str->Option Value} (I:ObjM h x dx C mA):∃ od,PySem.W.InstAt h x (PySem.W.instObj C dx) C (some od)/\∀ name,PySem.W.lookIn name od = some (mA name) :=
 let ⟨od,ho,hl⟩:=zmn I.ns
 ⟨od,⟨I.obj,rfl,rfl,ho⟩,hl⟩
def zjT (f:Str) (v:V):List (Str × V)->List (Str × V)
 | []=>[(f,v)]
 | (g,x) :: r=>if g = f then (g,v) :: r else (g,x) :: zjT f v r
theorem zem (f g:Str) (v:V):∀ fs:List (Str × V),(zjT f v fs).lookup g = if g = f then some v else fs.lookup g
 | []=>by
  show List.lookup g [(f,v)] = _
  by_cases h:g = f
  ·have hb:(g == f) = true:=beq_iff_eq.mpr h
   simp only [List.lookup,hb,if_pos h]
  ·have hb:(g == f) = false:=beq_eq_false_iff_ne.mpr h
   simp only [List.lookup,hb,if_neg h]
 | (k,x) :: r=>by
  have ih:=zem f g v r
  rw [show zjT f v ((k,x) :: r) = (if k = f then (k,v) :: r else (k,x) :: zjT f v r) from rfl]
  by_cases hk:k = f
  ·rw [if_pos hk]
   by_cases h:g = k
   ·have hb:(g == k) = true:=beq_iff_eq.mpr h
    simp only [List.lookup,hb,if_pos (h.trans hk)]
   ·have hb:(g == k) = false:=beq_eq_false_iff_ne.mpr h
    simp only [List.lookup,hb,if_neg (fun e:g = f=>h (e.trans hk.symm))]
  ·rw [if_neg hk]
   by_cases h:g = k
   ·have hb:(g == k) = true:=beq_iff_eq.mpr h
    simp only [List.lookup,hb,if_neg (fun e:g = f=>hk (h.symm.trans e))]
   ·have hb:(g == k) = false:=beq_eq_false_iff_ne.mpr h
    simp only [List.lookup,hb]
    exact ih
theorem zgb (f:Str) (v:V):∀ fs:List (Str × V),f ∈ (zjT f v fs).map (·.1)/\∀ g,g ∈ fs.map (·.1)->g ∈ (zjT f v fs).map (·.1)
 | []=>⟨by simp [zjT],fun g h=>by simp at h⟩
 | (k,x) :: r=>by
  obtain ⟨i1,i2⟩:=zgb f v r
  rw [show zjT f v ((k,x) :: r) = (if k = f then (k,v) :: r else (k,x) :: zjT f v r) from rfl]
  by_cases hk:k = f
  ·rw [if_pos hk]
   subst hk
   exact ⟨by simp,fun g h=>by simpa using h⟩
  ·rw [if_neg hk]
   refine ⟨?_,fun g h=>?_⟩
   ·rw [List.map_cons]
    exact List.mem_cons_of_mem _ i1
   ·rw [List.map_cons] at h ⊢
    rcases List.mem_cons.mp h with e | e
    ·exact List.mem_cons.mpr (.inl e)
    ·exact List.mem_cons_of_mem _ (i2 g e)
theorem RelO.some_of {v:V} {o:Option Value} (r:RelO (some v) o):∃ u,o = some u/\RelV v u:=by
 cases o with
 | none=>exact (show False from r).elim
 | some u=>exact ⟨u,rfl,r⟩
section
variable {P:Program} {w:World} {H H':Hp} {h h':Heap} {a C dx:Addr} {fs fs':List (Str × V)}
theorem zse (hok:HOk P w H h) (e:H a = some (.ins C dx fs)):∃ mA,ObjM h a dx C mA/\(∀ f,RelO (fs.lookup f) (mA f))/\PySem.Within mA (fs.map (·.1))/\fs.length <= 1000/\H dx = some (.own a):=by
 obtain ⟨d,z,ne,ob,mA,n,r,q⟩:=(show ObjOk P w H h a (.ins C dx fs) from hok a _ e)
 exact ⟨mA,⟨ob,n,ne⟩,r,q,z,d⟩
end
structure Cls (K:W.Frag) (C:Addr):Prop where
 pg:PySem.W.plainGet K C Str.empty = true
 hd:PySem.W.hasDictIn K C = true
 po:PySem.W.plainOver K C = true
 sa:PySem.W.findIn K (.ref C) "__setattr__" = some (some (.builtin "object.__setattr__"))
theorem Cls.get {K:W.Frag} {C:Addr} (c:Cls K C) (f:Str):PySem.W.plainGet K C f = true:=c.pg
def NoAttr (K:W.Frag) (C:Addr) (f:Str):Prop:=PySem.W.findIn K (.ref C) f = some none
section
variable {X:Cx} {zk:List (Addr × Obj)} {σ:St} {H:Hp} {s:Shared} {A:Around} {E:Value->Shared->Prop} {Q:Value->Shared->Prop} {c:Value} {b:Bool}
inductive TyOf (K:W.Frag) (H:Hp):V->Value->Prop where
 | non:TyOf K H .non (.type "NoneType")
 | bl (x:Bool):TyOf K H (.bl x) (.type "bool")
 | int (i:Int):TyOf K H (.int i) (.type "int")
 | str (x:Str):TyOf K H (.str x) (.type "str")
 | flt (x:UInt64):TyOf K H (.flt x) (.type "float")
 | lst {a:Addr} {xs:List V} (e:H a = some (.lst xs)):TyOf K H (.ref a) (.type "list")
 | frz {a:Addr} {o:Obj} {xs:List V} (e:H a = some (.frz o (.lst xs))):TyOf K H (.ref a) (.type "list")
 | tup {a:Addr} {xs:List V} (e:H a = some (.tup xs)):TyOf K H (.ref a) (.type "tuple")
 | dK {a:Addr} {kvs:List (Key × V)} (e:Rd H a (.dK kvs)):TyOf K H (.ref a) (.type "dict")
 | dT {a:Addr} {kvs:List (List Key × V)} (e:H a = some (.dT kvs)):TyOf K H (.ref a) (.type "dict")
 | ins {a C dx:Addr} {fs:List (Str × V)} (e:H a = some (.ins C dx fs)) (cl:Cls K C) (ha:PySem.W.findIn K (.ref C) "__class__" = some (some (.builtin "object.__class__")))
   (hn:PySem.W.specialIn K (.builtin "object.__class__") "__get__" = some (some (.builtin "getset_descriptor.__get__"))) (htk:PySem.W.takesIn K (.builtin "object.__class__") = some true)
   (hm:PySem.W.mroIn K C (.type "object") = some true):TyOf K H (.ref a) (.ref C)
theorem zmW {x:V} {u t:Value} (I:Inv X zk σ H s) (rx:RelV x u) (ty:TyOf X.K H x t) (e:PySem.W.kitOne X.K t c = some b) (h:∀ tk,Q (.bool b) { s with toks:=tk }) :
  wpAny (model X.prog X.w) A (call (.builtin "isinstance") [u,c]) Q E s:=by
 cases ty with
 | non=>cases (show u = Value.none from rx); exact PySem.W.kia_one PySem.W.kitx_none I.kIn True.intro e (fun z=>nomatch z) h
 | bl y=>cases (show u = Value.bool y from rx); exact PySem.W.kia_one PySem.W.kitx_bool I.kIn True.intro e (fun z=>nomatch z) h
 | int i=>obtain ⟨t,q⟩:=(show ∃ t,u = Value.int i t from rx); cases q; exact PySem.W.kia_one PySem.W.kitx_int I.kIn True.intro e (fun z=>nomatch z) h
 | str y=>obtain ⟨t,q⟩:=(show ∃ t,u = Value.str y t from rx); cases q; exact PySem.W.kia_one PySem.W.kitx_str I.kIn True.intro e (fun z=>nomatch z) h
 | flt y=>obtain ⟨t,q⟩:=(show ∃ t,u = Value.float y t from rx); cases q; exact PySem.W.kia_one PySem.W.kitx_float I.kIn True.intro e (fun z=>nomatch z) h
 | @lst a xs ea =>
  cases (show u = Value.ref a from rx)
  obtain ⟨_,_,n,_,h1⟩:=(show ObjOk X.prog X.w H s.heap a (.lst xs) from I.hok a _ ea)
  exact PySem.W.kia_one PySem.W.kitx_list I.kIn ⟨_,h1,rfl⟩ e (fun z=>nomatch z) h
 | @frz a ob xs ea =>
  cases (show u = Value.ref a from rx)
  obtain ⟨_,_,_,n,_,h1⟩:=(show ObjOk X.prog X.w H s.heap a (.frz ob (.lst xs)) from I.hok a _ ea)
  exact PySem.W.kia_one PySem.W.kitx_list I.kIn ⟨_,h1,rfl⟩ e (fun z=>nomatch z) h
 | @tup a xs ea =>
  cases (show u = Value.ref a from rx)
  obtain ⟨_,_,_,p⟩:=(show ObjOk X.prog X.w H s.heap a (.tup xs) from I.hok a _ ea)
  obtain ⟨o,h1,h2,_⟩:=p
  exact PySem.W.kia_one PySem.W.kitx_tuple I.kIn ⟨o,h1,h2⟩ e (fun z=>nomatch z) h
 | @dK a kvs ea =>
  cases (show u = Value.ref a from rx)
  obtain ⟨_,_,vs,_,p⟩:=(show ObjOk X.prog X.w H s.heap a (.dK kvs) from ea.ok I.hok)
  obtain ⟨o,es,ep,h1,h2,_⟩:=p
  exact PySem.W.kia_one PySem.W.kitx_dict I.kIn ⟨o,h1,h2.1⟩ e (fun z=>nomatch z) h
 | @dT a kvs ea =>
  cases (show u = Value.ref a from rx)
  obtain ⟨_,_,xs,_,o,es,ep,h1,h2,_⟩:=(show ObjOk X.prog X.w H s.heap a (.dT kvs) from I.hok a _ ea)
  exact PySem.W.kia_one PySem.W.kitx_dict I.kIn ⟨o,h1,h2.1⟩ e (fun z=>nomatch z) h
 | @ins a C dx fs ea cl ha hn htk hm =>
  cases (show u = Value.ref a from rx)
  obtain ⟨mA,O,_⟩:=zse I.hok ea
  obtain ⟨od,J,_⟩:=O.look
  exact PySem.W.kia_one (PySem.W.kitx_own (cl.get _) cl.hd ha hn htk hm) I.kIn J e (fun z=>nomatch z) h
end
end
section
structure Room (k:Nat) (A:Around):Prop where
 hd:A.handled = none
 dp:A.depth + 3 * k + 5 < recursionLimit
 un:A.units + 16 * k + 200 < cLine
theorem Room.mono {j k:Nat} {A:Around} (r:Room k A) (h:j <= k):Room j A:=⟨r.hd,by have:=r.dp; omega,by have:=r.un; omega⟩
theorem Room.deeper {k:Nat} {A:Around} (r:Room (k + 1) A) (env:Env):Room k (A.deeper env) :=
 ⟨r.hd,by have:=r.dp; show A.depth + 1 + 3 * k + 5 < _; omega,by have:=r.un; show A.units + 3 + 16 * k + 200 < _; omega⟩
theorem zlD {A:Around} {C:Addr} {us:List Value} {kw:List (Str × Value)}:(A.under (.builtin "type.__call__" ⟨.ref C :: us,kw⟩)).depth = A.depth + 1:=by
 first | rfl | simp [Around.under,Code.weight,Code.isCreation,Code.isGuard,Code.isCaller,Code.frames,Code.isFrame,guardIds]
theorem zlM {A:Around} {C:Addr} {us:List Value} {kw:List (Str × Value)}:(A.under (.builtin "type.__call__" ⟨.ref C :: us,kw⟩)).units = A.units + 1:=by
 first | rfl | simp [Around.under,Code.cUnits,Code.frames,Code.isFrame]
theorem Room.make {k:Nat} {A:Around} (r:Room (k + 1) A) (C:Addr) (us:List Value) (kw:List (Str × Value)):Room k (A.under (.builtin "type.__call__" ⟨.ref C :: us,kw⟩)) :=
 ⟨r.hd,by have:=r.dp; rw [zlD]; omega,by have:=r.un; rw [zlM]; omega⟩
theorem Room.depth {k:Nat} {A:Around} (r:Room k A):A.depth < recursionLimit:=by have:=r.dp; omega
theorem Room.units {k:Nat} {A:Around} (r:Room k A):A.units + 64 < cLine:=by have:=r.un; omega
def zsu:TA:=fun _ H Q=>Q [] H
def zl2 (ta:TE) (tr:TA):TA:=fun σ H Q=>ta σ H fun x H1=>tr σ H1 fun xs H2=>Q (x :: xs) H2
section
variable {X:Cx} {e:Expr} {es:List Expr} {te:TE} {t:TA} {pos:Pos}
theorem zg:PA X [] zsu:=fun _ _ _ _ H Q I h=>Calls.spliced_nil ⟨[],H,I,.nil,h⟩
theorem zc (ha:PE X e te) (hr:PA X es t) (hs:starEach (e :: es) X.env = (false,eval e X.env) :: starEach es X.env:=by rfl):PA X (e :: es) (zl2 te t):=by
 intro pos zk s σ H Q I h
 rw [hs]
 show wpAny _ _ (spliced ((false,eval e X.env) :: backTo pos (starEach es X.env))) _ _ s
 refine Calls.spliced_cons (thn (ha zk s σ H _ I h) fun u s1 ⟨x,H1,I1,r1,q1⟩=>?_)
 exact thn (hr pos zk s1 σ H1 _ I1 q1) fun us s2 ⟨xs,H2,I2,r2,q2⟩=>⟨x :: xs,H2,I2,.cons r1 r2,q2⟩
def zvQ (t:TA):TE:=fun σ H Q=>t σ H fun xs H1=>xs.length <= sizeLine/\∀ p,H1 p = none->Q (.ref p) (upd H1 p (.tup xs))
def zss (t:TA):TE:=fun σ H Q=>t σ H fun xs H1=>xs.length <= sizeLine/\∀ p,H1 p = none->Q (.ref p) (upd H1 p (.lst xs))
theorem zaY {x1} (h:PA X es t):PE X (.Tuple es x1 pos) (zvQ t):=by
 intro zk s σ H Q I hq
 refine wpAny_Tuple_spliced (thn (h pos zk s σ H _ I hq) fun us s1 ⟨xs,H1,I1,r,z,q⟩=>⟨by rw [<- r.length]; exact z,?_⟩)
 have hf:H1 s1.heap.objs.size = none:=I1.hok.fresh (Nat.le_refl _)
 refine ⟨.ref s1.heap.objs.size,upd H1 s1.heap.objs.size (.tup xs),I1.laid (t':=s1.toks) (fun b u e=>Heap.get?_push_of_some _ e) (Nat.le_refl _) ?_,rfl,q _ hf⟩
 exact ⟨⟨z,_,Heap.get?_push_size _ rfl,rfl⟩,us,r,⟨_,Heap.get?_push_size _ rfl,rfl,_,rfl⟩⟩
theorem zaG (h:PA X es t):PE X (.List es pos) (zss t):=by
 intro zk s σ H Q I hq
 refine wpAny_List_spliced (thn (h pos zk s σ H _ I hq) fun us s1 ⟨xs,H1,I1,r,z,q⟩=>⟨by rw [<- r.length]; exact z,?_⟩)
 have hf:H1 s1.heap.objs.size = none:=I1.hok.fresh (Nat.le_refl _)
 refine ⟨.ref s1.heap.objs.size,upd H1 s1.heap.objs.size (.lst xs),I1.laid (t':=s1.toks) (fun b u e=>Heap.get?_push_of_some _ e) (Nat.le_refl _) ?_,rfl,q _ hf⟩
 exact ⟨z,us,0,r,Heap.get?_push_size _ rfl⟩
end
abbrev Sp:=List V->Hp->VK->XK->Prop
abbrev CXT:=List Env->Hp->Shared->XK->Value->Shared->Prop
structure Env0 (P:Program) (w:World) (K:W.Frag) (mg:Str->Option Value) (base:Heap) (A:Around) (outer:List Env) (s:Shared) (H:Hp):Prop where
 frames:A.frames = some outer
 mod:Mod K mg base
 bs:∀ b o,base.get? b = some o->s.heap.get? b = some o/\H b = none
 bsz:base.objs.size <= s.heap.objs.size
 funs:s.heap.FunFrames base outer
 frf:∀ b ∈ frs outer,H b = none
 hok:HOk P w H s.heap
 bare:AllBare s.gens
def CE (outer:List Env) (P:Program) (w:World) (H:Hp) (s:Shared) (Q:VK) (u:Value) (s':Shared):Prop :=
 ∃ v H',s'.os = s.os/\AllBare s'.gens/\Un (frs outer) [] H H' s.heap s'.heap/\HOk P w H' s'.heap/\RelV v u/\Q v H'
def CR (CX:CXT) (outer:List Env) (P:Program) (w:World) (H:Hp) (s:Shared) (Q:VK) (E:XK) (r:Result) (s':Shared):Prop :=
 match r with
 | .ok (.ret u)=>CE outer P w H s Q u s'
 | .ok _=>False
 | .error e=>CX outer H s E e s'
structure FnOk (P:Program) (w:World) (K:W.Frag) (mg:Str->Option Value) (base:Heap) (CX:CXT) (k:Nat) (f:Addr) (fd:FuncData) (ps:List Str) (sp:Sp):Prop where
 len:∀ vs H Q E,sp vs H Q E->vs.length = ps.length
 run:∀ (A:Around) (outer:List Env) (s:Shared) (H:Hp) (args:Args) (us:List Value) (vs:List V) (Q:VK) (E:XK),Room k A->Env0 P w K mg base A outer s H->BindsTo s fd args (ps.zip us)->Vals vs us->sp vs H Q E ->
  codeAny (model P w) A (.call (.ref f) args) (CR CX outer P w H s Q E) s
theorem Env0.make {P:Program} {w:World} {K:W.Frag} {mg:Str->Option Value} {base:Heap} {A:Around} {outer:List Env} {s:Shared} {H:Hp} (e:Env0 P w K mg base A outer s H) (C:Addr) (us:List Value) (kw:List (Str × Value)) :
  Env0 P w K mg base (A.under (.builtin "type.__call__" ⟨.ref C :: us,kw⟩)) outer s H:=⟨by first | exact e.frames | (simpa [Around.under,Code.envs,Code.isFrame,pushEnvs] using e.frames),e.mod,e.bs,e.bsz,e.funs,e.frf,e.hok,e.bare⟩
section
variable {X:Cx} {zk:List (Addr × Obj)} {σ:St} {H:Hp} {s s':Shared}
theorem Inv.env0 (I:Inv X zk σ H s):Env0 X.prog X.w X.K X.mg X.base X.A X.stack s H :=
 ⟨I.ok.frames,I.ok.mod,I.bs,Nat.le_trans I.ok.bsz I.sz,I.stack,I.stkFree,I.hok,I.bare⟩
theorem Inv.after {Q:VK} {u:Value} (I:Inv X zk σ H s) (h:CE X.stack X.prog X.w H s Q u s'):EP X zk σ Q u s':=by
 obtain ⟨v,H',os,bare,un,hok,r,q⟩:=h
 obtain ⟨hh,g,d,t,os'⟩:=s'
 obtain rfl:os' = s.os:=os
 exact ⟨v,H',I.call (h':=hh) (g':=g) (d':=d) (t':=t) (ch:=[]) un hok bare (fun b z=>absurd z (by simp)),r,q⟩
end
def zi9 (sp:Sp) (dvs:List V) (E:XK) (t:TA):TE:=fun σ H Q=>t σ H fun vs H1=>sp (vs ++ dvs) H1 Q E
def Binds (K:W.Frag) (fd:FuncData) (ps:List Str) (ds:List Value):Prop :=
 ∀ (s:Shared) (us:List Value),K.In s.heap->(us ++ ds).length = ps.length->BindsTo s fd ⟨us,[]⟩ (ps.zip (us ++ ds))
theorem Binds.all {K:W.Frag} {fd:FuncData} {ps:List Str} (h:∀ us:List Value,us.length = ps.length->bindArgs fd ⟨us,[]⟩ = pure (ps.zip us)):Binds K fd ps []:=fun s us _ hl=>by
 rw [List.append_nil] at hl ⊢
 exact .of_eq (h us hl)
def Passes (CX:CXT) (X:Cx) (E:XK):Prop:=∀ (zk:List (Addr × Obj)) (σ:St) (H:Hp) (s:Shared) (e:Value) (s':Shared),Inv X zk σ H s->CX X.stack H s E e s'->X.xe e s'
section
variable {X:Cx} {CX:CXT} {k:Nat} {f C:Addr} {fd:FuncData} {ps:List Str} {sp:Sp} {dvs:List V} {ds:List Value} {E:XK} {x m:Str} {p pos apos:Pos} {e o:Expr} {es:List Expr} {ta:TE} {t:TA}
theorem zti {zk:List (Addr × Obj)} {σ:St} {H:Hp} {s:Shared} {Q:VK} {us:List Value} {vs:List V} (F:FnOk X.prog X.w X.K X.mg X.base CX k f fd ps sp) (hr:Room k X.A) (hb:Binds X.K fd ps ds) (hd:Vals dvs ds) (hx:Passes CX X E)
  (I:Inv X zk σ H s) (r:Vals vs us) (h:sp (vs ++ dvs) H Q E):wpAny (model X.prog X.w) X.A (call (.ref f) us) (EP X zk σ Q) X.xe s:=by
 have r2:Vals (vs ++ dvs) (us ++ ds):=r.append hd
 have hl:(us ++ ds).length = ps.length:=by rw [<- r2.length]; exact F.len _ _ _ _ h
 refine wpAny_call (codeAny_mono (F.run X.A X.stack s H ⟨us,[]⟩ (us ++ ds) (vs ++ dvs) Q E hr I.env0 (hb s us I.kIn hl) r2 h) fun r s' hq=>?_)
 cases r with
 | error e=>exact hx zk σ H s e s' I hq
 | ok fl =>
  cases fl with
  | ret u=>exact I.after hq
  | next=>exact False.elim hq
  | brk=>exact False.elim hq
  | cont=>exact False.elim hq
theorem zjW (F:FnOk X.prog X.w X.K X.mg X.base CX k f fd ps sp) (hr:Room k X.A) (hg:Gl X x) (hm:X.mg x = some (.ref f)) (hk:PySem.W.keepIn X.K (.ref f) = true) (hb:Binds X.K fd ps ds) (hd:Vals dvs ds) (hx:Passes CX X E)
  (ha:PA X (e :: es) t) (hdb:(x == ("__debug__":Str)) = false:=by decide) (he:starEach (e :: es) X.env = (false,eval e X.env) :: starEach es X.env:=by rfl) (hpl:(backTo pos (starEach es X.env)).any (·.1) = false:=by rfl) :
  PE X (.Call (.Name x p) (e :: es) [] pos) (zi9 sp dvs E t):=by
 intro zk s σ H Q I h
 refine wpAny_Call_Name_kw (zfa I hg hm ?_ hdb)
 refine PySem.W.callWith_K (h₀:=X.base) I.ok.mod.kin hk (thn (ha pos zk s σ H _ I h) fun us s1 ⟨vs,H1,I1,r,q⟩=>⟨I1.kIn,?_⟩) he hpl
 exact zti F hr hb hd hx I1 r q
end
structure FnScope (N P:List Str) (sc:Scope):Prop where
 kind:sc.kind = .function
 co:sc.isCoroutine = false
 gen:sc.isGenerator = false
 nd:N.Nodup
 pre:N.take P.length = P
 par:∀ x ∈ P,sc.names.lookup x = some .local\/sc.names.lookup x = some .cell
 nofree:∀ y ∈ sc.names,y.2 ≠ .free
theorem ziK {kindOf:Str->Option NameKind} {x:Str}:∀ {binds:List (Str × Value)} {m:Str->Option Value},(∀ v,(x,v) ∉ binds)->bindL kindOf binds m x = m x
 | [],_,_=>rfl
 | (n,v) :: r,m,h=>by
  unfold bindL
  rw [ziK fun w hw=>h w (List.mem_cons_of_mem _ hw)]
  split
  ·have:x ≠ n:=by rintro rfl; exact h v List.mem_cons_self
   simp [this]
  ·rfl
theorem zig {kindOf:Str->Option NameKind} {x:Str}:∀ {binds:List (Str × Value)} {m:Str->Option Value},(∀ v,(x,v) ∉ binds)->bindC kindOf binds m x = m x
 | [],_,_=>rfl
 | (n,v) :: r,m,h=>by
  unfold bindC
  rw [zig fun w hw=>h w (List.mem_cons_of_mem _ hw)]
  split
  ·rfl
  ·have:x ≠ n:=by rintro rfl; exact h v List.mem_cons_self
   simp [this]
theorem ziY {kindOf:Str->Option NameKind} {x:Str} {v:Value}:∀ {P:List Str} {vs:List Value} {i:Nat} {m:Str->Option Value},P.Nodup->P[i]? = some x->vs[i]? = some v->kindOf x = some .local ->
  bindL kindOf (P.zip vs) m x = some v
 | [],_,_,_,_,h,_,_=>by simp at h
 | _ :: _,[],_,_,_,_,h,_=>by simp at h
 | p :: P,w :: vs,0,m,nd,h1,h2,hk=>by
  simp at h1 h2; subst h1; subst h2
  show bindL kindOf ((p,w) :: P.zip vs) m p = _
  unfold bindL
  rw [ziK fun v hv=>(List.nodup_cons.mp nd).1 (List.of_mem_zip hv).1,if_pos hk]
  simp
 | p :: P,w :: vs,i + 1,m,nd,h1,h2,hk=>by
  show bindL kindOf ((p,w) :: P.zip vs) m x = _
  unfold bindL
  exact ziY (i:=i) (List.nodup_cons.mp nd).2 (by simpa using h1) (by simpa using h2) hk
theorem zi1 {kindOf:Str->Option NameKind} {x:Str} {v:Value}:∀ {P:List Str} {vs:List Value} {i:Nat} {m:Str->Option Value},P.Nodup->P[i]? = some x->vs[i]? = some v->kindOf x ≠ some .local ->
  bindC kindOf (P.zip vs) m x = some v
 | [],_,_,_,_,h,_,_=>by simp at h
 | _ :: _,[],_,_,_,_,h,_=>by simp at h
 | p :: P,w :: vs,0,m,nd,h1,h2,hk=>by
  simp at h1 h2; subst h1; subst h2
  show bindC kindOf ((p,w) :: P.zip vs) m p = _
  unfold bindC
  rw [zig fun v hv=>(List.nodup_cons.mp nd).1 (List.of_mem_zip hv).1,if_neg hk]
  simp
 | p :: P,w :: vs,i + 1,m,nd,h1,h2,hk=>by
  show bindC kindOf ((p,w) :: P.zip vs) m x = _
  unfold bindC
  exact zi1 (i:=i) (List.nodup_cons.mp nd).2 (by simpa using h1) (by simpa using h2) hk
def start (N:List Str) (vs:List V):St:=vs.map some ++ List.replicate (N.length - vs.length) none
def zhc (CX:CXT) (P:Program) (w:World) (K:W.Frag) (mg:Str->Option Value) (base:Heap) (N:List Str) (qual:Str) (scope:Scope) (f:Addr) (cd:Value) (A:Around) (outer:List Env) (s:Shared) (H:Hp) (E:XK):Cx where
 prog:=P
 w:=w
 K:=K
 mg:=mg
 base:=base
 A:=A.deeper (envOfC qual scope s.heap.objs.size f cd)
 N:=N
 s₀:=s
 H₀:=H
 env:=envOfC qual scope s.heap.objs.size f cd
 outer:=outer
 stack:=envOfC qual scope s.heap.objs.size f cd :: outer
 ex:=[]
 calm:=true
 fn:=fun _=>true
 pn:=[]
 xe:=fun e s'=>wpAny (model P w) (A.deeper (envOfC qual scope s.heap.objs.size f cd)) (leaving (envOfC qual scope s.heap.objs.size f cd) e) (fun _ s''=>CX outer H s E e s'') (fun e' s''=>CX outer H s E e' s'') s'
theorem zle {sc:Scope} {n:Nat} {x:Str} (h:sc.names.lookup x = some .cell):∃ c,(cellsFrom n sc.names []).lookup x = some c:=by
 have q:=PySem.W.cellsFrom_some sc.names n [] (.inl h)
 exact Option.isSome_iff_exists.mp q
theorem ziT {CX:CXT} {P:Program} {w:World} {K:W.Frag} {mg:Str->Option Value} {base:Heap} {N ps:List Str} {qual:Str} {scope:Scope} {f:Addr} {cd:Value} {A:Around} {outer:List Env} {s s1:Shared} {H:Hp} {E:XK} {us:List Value} {vs:List V}
  (S:FnScope N ps scope) (hd:A.handled = none) (e0:Env0 P w K mg base A outer s H) (hl:vs.length = ps.length) (r:Vals vs us)
  (x:InCallC s s.heap.objs.size (bindL (envOfC qual scope s.heap.objs.size f cd).kindOf (ps.zip us) fun _=>none) (cellsFrom (s.heap.objs.size + 1) scope.names []) (bindC (envOfC qual scope s.heap.objs.size f cd).kindOf (ps.zip us) fun _=>none) s1) :
  Inv (zhc CX P w K mg base N qual scope f cd A outer s H E) [] (start N vs) H s1:=by
 have hpl:ps.length <= N.length:=by have:=congrArg List.length S.pre; rw [List.length_take] at this; omega
 obtain ⟨h1,tk,rfl,hk⟩:=x.done
 have noA:∀ b:Addr,b ∉ (zhc CX P w K mg base N qual scope f cd A outer s H E).ex:=fun b z=>absurd (show b ∈ ([]:List Addr) from z) (by simp)
 refine ⟨⟨e0.mod,S.kind,rfl,rfl,Nat.le_refl _,fun y z c h1 h2=>?_,fun y hy=>?_,fun y c _ h=>?_,fun _=>hd,Around.frames_deeper e0.frames,.inr ⟨rfl,rfl⟩,fun b z=>absurd z (noA b),e0.bs,e0.bsz,fun b _ _=>noA b,fun b z=>absurd z (noA b),e0.funs,e0.frf⟩,
  rfl,e0.bare,Un.kept hk,⟨_,x.toInCall.ns,fun i y v h1 h2 h3=>?_⟩,fun y c h=>⟨_,x.cell y c h⟩,e0.hok.fresh (Nat.le_refl _),fun y c h=>?_,fun p hp=>absurd (show p ∈ ([]:List (Addr × Obj)) from hp) (by simp),e0.hok.kept hk,?_⟩
 ·exact name_of_addr x.apart (PySem.mem_of_lookup h1) (PySem.mem_of_lookup h2)
 ·have hy:scope.names.lookup y = some .cell\/scope.names.lookup y = some .free:=hy
  rcases hy with hy | hy
  ·exact zle hy
  ·exact absurd rfl (S.nofree _ (PySem.mem_of_lookup hy))
 ·exact Nat.le_of_lt (x.above y c (PySem.mem_of_lookup h))
 ·have hi:i < vs.length:=by
   unfold start at h2
   by_cases hi:i < vs.length
   ·exact hi
   ·rw [List.getElem?_append_right (by simpa using hi)] at h2
    rw [List.getElem?_replicate] at h2
    split at h2 <;> cases h2
  have ha:vs[i]? = some v:=by
   unfold start at h2
   rw [List.getElem?_append_left (by simpa using hi),List.getElem?_map] at h2
   cases e:vs[i]? with
   | none=>rw [e] at h2; cases h2
   | some a=>rw [e] at h2; cases h2; rfl
  obtain ⟨u,hu,rv⟩:=r.get ha
  have hp:ps[i]? = some y:=by
   rw [<- S.pre,List.getElem?_take_of_lt (by omega)]; exact h1
  have ndP:ps.Nodup:=by rw [<- S.pre]; exact S.nd.sublist (List.take_sublist _ _)
  refine ⟨u,rv,?_⟩
  rcases S.par y (List.mem_of_getElem? hp) with k | k
  ·exact .inl ⟨k,ziY ndP hp hu k⟩
  ·obtain ⟨c,e⟩:=zle (n:=s.heap.objs.size + 1) k
   refine .inr ⟨.inl k,c,e,?_⟩
   have q:=x.cell y c e
   rw [zi1 ndP hp hu (by show scope.names.lookup y ≠ _; rw [k]; decide)] at q
   exact q
 ·exact e0.hok.fresh (Nat.le_of_lt (x.above y c (PySem.mem_of_lookup h)))
 ·unfold start
  show _ = N.length
  rw [List.length_append,List.length_map,List.length_replicate]
  omega
theorem zuh {CX:CXT} {P:Program} {w:World} {K:W.Frag} {mg:Str->Option Value} {base:Heap} {k:Nat} {f:Addr} {name qual:Str} {params:Arguments} {body:List Stmt} {scope:Scope} {dV kV doc pm cdv ct oc:Value} {an od:Option Addr}
  {osl:Array (Option Value)} {N ps:List Str} {sp:Sp} (lk:K.lookup f = some ⟨oc,od,.func (PySem.W.fnOf name qual params body scope dV kV doc pm an cdv ct),osl⟩) (hcd:PySem.W.codeIn K cdv qual = true) (S:FnScope N ps scope)
  (len:∀ vs H Q E,sp vs H Q E->vs.length = ps.length)
  (hbody:∀ (A:Around) (outer:List Env) (s:Shared) (H:Hp) (vs:List V) (Q:VK) (E:XK),Room k (A.deeper (envOfC qual scope s.heap.objs.size f cdv))->sp vs H Q E ->
   ∃ t,PSs (zhc CX P w K mg base N qual scope f cdv A outer s H E) body t/\t { nx:=fun _ H'=>Q .non H',rt:=Q } (start N vs) H) :
  FnOk P w K mg base CX (k + 1) f (PySem.W.fnOf name qual params body scope dV kV doc pm an cdv ct) ps sp:=by
 refine ⟨len,fun A outer s H args us vs Q E hr e0 hb r hsp=>?_⟩
 have hl:=len _ _ _ _ hsp
 have KX:K.In s.heap:=e0.mod.kin.keeps fun b o e=>(e0.bs b o e).1
 have lim:s.heap.NoLimit:=e0.mod.nolimit.keeps fun b o e=>(e0.bs b o e).1
 have hkind:∀ y ∈ ps.zip us,scope.names.lookup y.1 = some .local\/(scope.names.lookup y.1 = some .cell/\((cellsFrom (s.heap.objs.size + 1) scope.names []).lookup y.1).isSome = true):=fun ⟨n,v⟩ hy=>by
  rcases S.par n (List.of_mem_zip hy).1 with q | q
  ·exact .inl q
  ·exact .inr ⟨q,PySem.W.cellsFrom_some _ _ _ (.inl q)⟩
 refine codeAny_call_function hr.depth (KX _ _ lk) rfl S.co S.gen rfl (PySem.W.codeRec_of KX hcd) (hb _ _ _ _ ?_)
 refine wpAny_newFunctionEnv_cells S.kind hkind fun env he s1 x=>?_
 subst he
 refine ⟨lim.keeps x.toInCall.keep,codeAny_func ?_⟩
 obtain ⟨t,ht,hq⟩:=hbody A outer s H vs Q E (hr.deeper _) hsp
 have I:Inv (zhc CX P w K mg base N qual scope f cdv A outer s H E) [] (start N vs) H s1:=ziT S hr.hd e0 hl r x
 refine wpAny_mono (ht [] s1 (start N vs) H _ I hq) (fun fl s' hs=>?_) fun e s' hs=>hs
 have fin:∀ {σ':St} {H':Hp} {v:V} {u:Value},Inv (zhc CX P w K mg base N qual scope f cdv A outer s H E) [] σ' H' s'->RelV v u->Q v H'->CE outer P w H s Q u s' :=
  fun {σ' H' v u} J rv q=>⟨v,H',J.os,J.bare,J.base,J.hok,rv,q⟩
 cases fl with
 | ret u =>
  obtain ⟨v,σ',H',J,rv,q⟩:=hs
  exact fin J rv q
 | next =>
  obtain ⟨σ',H',J,q⟩:=hs
  exact fin (v:=V.non) (u:=Value.none) J rfl q
 | brk =>
  obtain ⟨_,_,_,q⟩:=hs
  exact False.elim q
 | cont =>
  obtain ⟨_,_,_,q⟩:=hs
  exact False.elim q
end
section
section
variable {X:Cx} {x:Str} {p pos:Pos} {e:Expr} {es:List Expr} {t:TA} {id T:String} {r:List V->Hp->VK->Prop}
def tCB (r:List V->Hp->VK->Prop) (t:TA):TE:=fun σ H Q=>t σ H fun vs H1=>r vs H1 Q
theorem zw (hc:CallR X (.builtin id) r) (hg:Gl X x) (hm:X.mg x = none) (hv:bootBuiltins x = some (.builtin id)) (ha:PA X (e :: es) t) (hn:x ≠ "__name__":=by decide) (hdb:(x == ("__debug__":Str)) = false:=by decide)
  (he:starEach (e :: es) X.env = (false,eval e X.env) :: starEach es X.env:=by rfl) (hpl:(backTo pos (starEach es X.env)).any (·.1) = false:=by rfl):PE X (.Call (.Name x p) (e :: es) [] pos) (tCB r t):=by
 intro zk s σ H Q I h
 refine wpAny_Call_Name_kw (zfS I hg hm hv ?_ hn hdb)
 exact PyProof.Rows.callWith_builtin1 (thn (ha pos zk s σ H _ I h) fun us s1 ⟨vs,H1,I1,r1,q1⟩=>hc zk s1 σ H1 vs us Q I1 r1 q1) he hpl
theorem zbE (hc:CallR X (.type T) r) (hg:Gl X x) (hm:X.mg x = none) (hv:bootBuiltins x = some (.type T)) (ha:PA X (e :: es) t) (hn:x ≠ "__name__":=by decide) (hdb:(x == ("__debug__":Str)) = false:=by decide)
  (he:starEach (e :: es) X.env = (false,eval e X.env) :: starEach es X.env:=by rfl) (hpl:(backTo pos (starEach es X.env)).any (·.1) = false:=by rfl):PE X (.Call (.Name x p) (e :: es) [] pos) (tCB r t):=by
 intro zk s σ H Q I h
 refine wpAny_Call_Name_kw (zfS I hg hm hv ?_ hn hdb)
 exact PyProof.Rows.callWith_type1 (thn (ha pos zk s σ H _ I h) fun us s1 ⟨vs,H1,I1,r1,q1⟩=>hc zk s1 σ H1 vs us Q I1 r1 q1) he hpl
end
end
end L2
namespace HT
open PySem PyProof.Rows
def lexLt:List Int->List Int->Bool
 | [],[]=>false
 | [],_ :: _=>true
 | _ :: _,[]=>false
 | x :: xs,y :: ys=>if x = y then lexLt xs ys else decide (x < y)
theorem lexLt_cons (x y:Int) (xs ys:List Int):lexLt (x :: xs) (y :: ys) = if x = y then lexLt xs ys else decide (x < y):=rfl
theorem zib:lexLt [] [] = false:=rfl
theorem zgW (y:Int) (ys:List Int):lexLt [] (y :: ys) = true:=rfl
theorem zg1 (x:Int) (xs:List Int):lexLt (x :: xs) [] = false:=rfl
theorem zo0 (A:Around) (s:Shared) (a:Int) (t:Tok) (c:Int) (u:Tok):∃ e,SeqAt.EqAt A s (.int a t) (.int c u) e/\(e = true ↔ a = c) :=
 ⟨(a == c),SeqAt.EqAt.int_int a t c u,by simp⟩
theorem zoW (A:Around) (s:Shared) (a:Int) (t:Tok) (c:Int) (u:Tok) (prog:Program) (w:World) (E:Value->Shared->Prop) (Q:Value->Shared->Prop) (h:Q (.bool (decide (a < c))) s) :
  wpAny (model prog w) A (richCompare .Lt (.int a t) (.int c u)) Q E s :=
 (PyProof.Rows.lt_int h:wpAny (model prog w) A (compareOp .Lt (.int a t) (.int c u)) Q E s)
section
open PySem.SeqAt
open PySem.AutoSeq1 (wpAny_loadPart')
open PySem.MeetsSeq PySem.MeetsSeq2 PySem.MeetsSeq3
theorem zhU (l b:Addr) (items items2:Array Value) (n n2:Nat) (dd dd2:Option Addr) (sl sl2:Array (Option Value)) (ns ms:List Int) (hi:IntsAre items.toList ns) (hj:IntsAre items2.toList ms) :
  Meets (Builtin.«tuple.__lt__» ⟨[.ref l,.ref b],[]⟩)
   (fun _ R s=>s.heap.get? l = some { cls:=.type "tuple",dict:=dd,data:=.seq items n,slots:=sl }/\s.heap.get? b = some { cls:=.type "tuple",dict:=dd2,data:=.seq items2 n2,slots:=sl2 } /\
    R (.ok (.ret (.bool (lexLt ns ms)))) s) :=
 .of_wp fun prog w A R s h=>by
  obtain ⟨hp,g,d,tk,os⟩:=s; obtain ⟨hl,hb,h⟩:=h
  have f2:=AutoSeq1.sub_tuple_tuple
  have z1:items.size = ns.length:=by rw [<- hi.length]; simp
  have z2:items2.size = ms.length:=by rw [<- hj.length]; simp
  wp_walk using wpAny_loadPart' hl,wpAny_loadPart' hb,wpAny_forIn_list _ (fun rest b s'=>b.1 = none/\s' = ⟨hp,g,d,tk,os⟩/\∃ (vs ws:List Value) (ns' ms':List Int),rest = vs.zip ws /\
   IntsAre vs ns'/\IntsAre ws ms'/\ns'.length + items2.size = ms'.length + items.size/\R (.ok (.ret (.bool (lexLt ns' ms')))) ⟨hp,g,d,tk,os⟩) _
  case turn =>
   rintro ⟨y,x⟩ rest b s' ⟨hb',rfl,vs,ws,ns',ms',hz,hvi,hwi,hlen,hR⟩
   cases hvi with
   | nil=>rw [List.zip_nil_left] at hz; cases hz
   | cons a t hvi' =>
    cases hwi with
    | nil=>rw [List.zip_nil_right] at hz; cases hz
    | cons c u hwi' =>
     rw [List.zip_cons_cons] at hz
     injection hz with hyx hrest
     injection hyx with hy hx
     subst hy hx
     rw [lexLt_cons] at hR
     simp only [List.length_cons] at hlen
     obtain ⟨e,he,hiff⟩:=zo0 A.in1 ⟨hp,g,d,tk,os⟩ a t c u
     refine wpAny_bind (he prog w _ _ ?_)
     cases e with
     | true =>
      rw [if_pos (hiff.mp rfl)] at hR
      wp_walk
      exact ⟨rfl,rfl,_,_,_,_,hrest,hvi',hwi',by omega,hR⟩
     | false =>
      rw [if_neg (fun q=>absurd (hiff.mpr q) Bool.false_ne_true)] at hR
      have hri:=zoW A.in1 ⟨hp,g,d,tk,os⟩ a t c u prog w
      wp_walk using hri
      exact ⟨_,rfl,by simpa using hR⟩
  case fin =>
   rintro ⟨b1,b2⟩ s' ⟨hb',rfl,vs,ws,ns',ms',hz,hvi,hwi,hlen,hR⟩
   simp only at hb'
   subst hb'
   have hv:lexLt ns' ms' = decide (items.size < items2.size):=by
    cases hvi with
    | nil =>
     cases hwi with
     | nil =>
      simp only [List.length_nil] at hlen
      rw [zib]
      exact (decide_eq_false (by omega)).symm
     | cons c u hw =>
      simp only [List.length_nil,List.length_cons] at hlen
      rw [zgW]
      exact (decide_eq_true (by omega)).symm
    | cons a t hv =>
     cases hwi with
     | nil =>
      simp only [List.length_nil,List.length_cons] at hlen
      rw [zg1]
      exact (decide_eq_false (by omega)).symm
     | cons c u hw =>
      rw [List.zip_cons_cons] at hz
      cases hz
   rw [hv] at hR
   wp_walk
   exact ⟨_,rfl,by simpa [Builtin.Tuple.tupleCompareSizes] using hR⟩
  case h =>
   exact ⟨rfl,rfl,items.toList,items2.toList,ns,ms,rfl,hi,hj,by omega,h⟩
end
section
variable {prog:Program} {w:World} {A:Around} {E:Value->Shared->Prop} {s:Shared}
theorem lt_tupInts {l b:Addr} {items items2:Array Value} {ns ms:List Int} {Q:Value->Shared->Prop} (hl:IsTup s.heap l items) (hb:IsTup s.heap b items2) (hi:IntsAre items.toList ns) (hj:IntsAre items2.toList ms)
  (hu:A.units < cLine) (h:Q (.bool (lexLt ns ms)) s):wpAny (model prog w) A (compareOp .Lt (.ref l) (.ref b)) Q E s:=by
 obtain ⟨⟨cls,dd,data,sl⟩,ho,hc,n,hd⟩:=id hl
 obtain ⟨⟨cls2,dd2,data2,sl2⟩,ho2,hc2,n2,hd2⟩:=id hb
 simp only at hc hd hc2 hd2
 subst hc hd hc2 hd2
 exact richCompare_meets_room (op:=.Lt) ⟨_,ho,rfl⟩ ⟨_,ho2,rfl⟩ PySem.F.slot_tuple_lt PySem.F.entry_tuple_lt (PySem.F.args_tuple_lt_2 _ _) (zhU l b items items2 n n2 dd dd2 sl sl2 ns ms hi hj)
  ⟨ho,ho2,show Value.bool (lexLt ns ms) ≠ Value.notImplemented/\Q (.bool (lexLt ns ms)) s from ⟨(fun x=>nomatch x),h⟩⟩ hu
theorem cat_tup {t b:Addr} {vs ws:List Value} {Q:Value->Shared->Prop} (ht:IsTup s.heap t vs.toArray) (hb:IsTup s.heap b ws.toArray) (hv:vs ≠ [])
  (h1:ws = []->Q (.ref t) s) (h2:ws ≠ []->Q (.ref s.heap.objs.size) { s with heap:=s.heap.push { cls:=.type "tuple",data:=.seq (vs ++ ws).toArray } })
  (hsz:vs.length + ws.length <= sizeLine):wpAny (model prog w) A (binaryOp .Add (.ref t) (.ref b)) Q E s:=by
 obtain ⟨⟨cls,dd,data,sl⟩,ho,hc,n,hd⟩:=id ht
 obtain ⟨⟨cls2,dd2,data2,sl2⟩,ho2,hc2,n2,hd2⟩:=id hb
 simp only at hc hd hc2 hd2
 subst hc hd hc2 hd2
 have e:vs.toArray ++ ws.toArray = (vs ++ ws).toArray:=by simp
 by_cases hw:ws = []
 ·exact concat_meets ⟨_,ho,rfl⟩ ⟨_,ho2,rfl⟩ noFill_tuple_add seq_tuple_add PySem.F.slot_tuple_add PySem.F.entry_tuple_add (PySem.F.args_tuple_add_2 _ _)
   (tuple_addW1 t b vs.toArray ws.toArray n n2 dd dd2 sl sl2 (by simpa using hv) (by simp [hw])) ⟨ho,ho2,h1 hw⟩
 ·refine concat_meets ⟨_,ho,rfl⟩ ⟨_,ho2,rfl⟩ noFill_tuple_add seq_tuple_add PySem.F.slot_tuple_add PySem.F.entry_tuple_add (PySem.F.args_tuple_add_2 _ _)
   (tuple_addW2 t b vs.toArray ws.toArray n n2 dd dd2 sl sl2 (by simpa using hv) (by simpa using hw) (by rw [List.size_toArray,List.size_toArray]; exact hsz)) ⟨ho,ho2,?_⟩
  rw [e]
  exact h2 hw
def sIx (n d:Nat):Option Int->Nat
 | none=>d
 | some v=>if v < 0 then (v + (n:Int)).toNat else min v.toNat n
theorem sIx_nat (n d k:Nat):sIx n d (some (k:Int)) = min k n:=by
 show (if (k:Int) < 0 then ((k:Int) + (n:Int)).toNat else min (k:Int).toNat n) = min k n
 rw [if_neg (by omega),Int.toNat_natCast]
theorem zt8 (n d:Nat) (hd:d <= n) (o:Option Int):sIx n d o <= n:=by
 cases o with
 | none=>exact hd
 | some v =>
  show (if v < 0 then (v + (n:Int)).toNat else min v.toNat n) <= n
  by_cases hv:v < 0
  ·rw [if_pos hv]; omega
  ·rw [if_neg hv]; exact Nat.min_le_right _ _
theorem zmY (v:Int) (n d:Nat):(if v < 0 then max (v + (n:Int)) 0 else min v (n:Int)) = ((sIx n d (some v):Nat):Int):=by
 show (if v < 0 then max (v + (n:Int)) 0 else min v (n:Int)) = (((if v < 0 then (v + (n:Int)).toNat else min v.toNat n):Nat):Int)
 by_cases hv:v < 0
 ·simp only [if_pos hv]; omega
 ·simp only [if_neg hv]; omega
theorem zlx (lo hi:Option Int) (n:Nat):Builtin.Slice.sliceAdjust lo hi 1 (n:Int) = (((sIx n 0 lo:Nat):Int),((sIx n n hi:Nat):Int)):=by
 have h1:¬ ((1:Int) < 0):=by omega
 unfold Builtin.Slice.sliceAdjust
 simp only [h1,if_false]
 refine Prod.ext ?_ ?_
 ·cases lo with
  | none=>rfl
  | some v=>exact zmY v n 0
 ·cases hi with
  | none=>rfl
  | some v=>exact zmY v n n
theorem zlP (i j:Nat):Builtin.Slice.slicePlaces (i:Int) (j:Int) 1 = j - i:=by
 unfold Builtin.Slice.slicePlaces
 have h1:(1:Int) > 0:=by omega
 simp only [h1,if_true,Int.ediv_one]
 split <;> omega
theorem zg9 {v:Value} {o:Option Int} {Q:Option Int->Shared->Prop} (p:IsPart v o) (h:Q o s):wpAny (model prog w) A (Builtin.Slice.slicePartIndex v) Q E s:=by
 cases p with
 | none=>exact slicePart_none h
 | int i t=>exact slicePart_int h
theorem zdo {sl:Addr} {vl vu:Value} {lo hi:Option Int} {n:Nat} {Q:Int × Int × Nat->Shared->Prop} (hs:s.heap.IsSliceOf sl vl vu .none) (pl:IsPart vl lo) (pu:IsPart vu hi)
  (h:Q (((sIx n 0 lo:Nat):Int),1,sIx n n hi - sIx n 0 lo) s):wpAny (model prog w) A (Builtin.Slice.sliceApplied (.ref sl) (pure (n:Int))) Q E s:=by
 obtain ⟨os,hos,hcs,hds⟩:=id hs
 unfold Builtin.Slice.sliceApplied Builtin.Slice.sliceFields
 refine wpAny_bind (wpAny_bind (wpAny_field hos hds (x:=vl) rfl (wpAny_bind (wpAny_field hos hds (x:=vu) rfl (wpAny_bind (wpAny_field hos hds (x:=.none) rfl (wpAny_pure ?_)))))))
 refine wpAny_bind (slicePart_none ?_)
 show wpAny _ _ (if ((1:Int) == 0) = true then _ else _) _ _ s
 rw [if_neg (by decide)]
 refine wpAny_bind (zg9 pl (wpAny_bind (zg9 pu (wpAny_bind (wpAny_pure ?_)))))
 show wpAny _ _ (match Builtin.Slice.sliceAdjust lo hi 1 (n:Int) with | (lo,hi)=>pure (lo,(1:Int),Builtin.Slice.slicePlaces lo hi 1)) _ _ s
 rw [zlx lo hi n]
 show wpAny _ _ (pure (((sIx n 0 lo:Nat):Int),(1:Int),Builtin.Slice.slicePlaces ((sIx n 0 lo:Nat):Int) ((sIx n n hi:Nat):Int) 1)) _ _ s
 rw [zlP]
 exact wpAny_pure h
theorem zoP (xs:Array Value) (i k:Nat):((List.range k).filterMap fun (m:Nat)=>xs[((i:Int) + (m:Int) * 1).toNat]?).toArray = ((xs.toList.drop i).take k).toArray:=by
 have e:(fun (m:Nat)=>xs[((i:Int) + (m:Int) * 1).toNat]?) = fun m=>xs[i + m]?:=by
  funext m
  have:((i:Int) + (m:Int) * 1).toNat = i + m:=by omega
  rw [this]
 rw [e]
 have:=pick_run xs i k
 rw [List.filterMap_map] at this
 have e2:((fun x=>xs[x]?) ∘ fun x=>i + x) = fun m=>xs[i + m]?:=rfl
 rw [e2] at this
 rw [this]
theorem getItem_tuple_cut {t sl:Addr} {items:Array Value} {vl vu:Value} {lo hi:Option Int} {Q:Value->Shared->Prop} (ht:IsTup s.heap t items) (hs:s.heap.IsSliceOf sl vl vu .none) (pl:IsPart vl lo) (pu:IsPart vu hi)
  (hw:¬ (sIx items.size 0 lo = 0/\sIx items.size items.size hi = items.size))
  (h:Q (.ref s.heap.objs.size) { s with heap:=s.heap.push { cls:=.type "tuple",data:=.seq ((items.toList.drop (sIx items.size 0 lo)).take (sIx items.size items.size hi - sIx items.size 0 lo)).toArray } })
  (hsz:items.size <= sizeLine):wpAny (model prog w) A (getItem (.ref t) (.ref sl)) Q E s:=by
 have htake:sizeOk (.seq ((items.toList.drop (sIx items.size 0 lo)).take (sIx items.size items.size hi - sIx items.size 0 lo)).toArray):=by
  show ((items.toList.drop (sIx items.size 0 lo)).take (sIx items.size items.size hi - sIx items.size 0 lo)).toArray.size <= sizeLine
  rw [List.size_toArray,List.length_take,List.length_drop,Array.length_toList]
  omega
 have hj:sIx items.size items.size hi <= items.size:=zt8 _ _ (Nat.le_refl _) hi
 obtain ⟨os,hos,hcs,hds⟩:=id hs
 have hTs:s.TypeIs (.ref sl) "slice":=⟨os,hos,hcs⟩
 unfold getItem
 try with_reducible refine wpAny_holding ?_
 first | refine wpAny_bind (wpAny_pure ?_) | skip
 refine wpAny_bind (wpAny_sequenceKey ht.typeIs (by decide) ?_)
 refine wpAny_bind (wpAny_callSpecial?_slot (name:=Str.ofString "__getitem__") ht.typeIs PyProof.Rows.slot_tuple_getitem
  (wpAny_call_entry PyProof.Rows.slot_tuple_getitem ht.typeIs entry_tuple_getitem ?_ (args_tuple_getitem _ _)))
 show wpAny _ _ (Builtin.Tuple.tupleItemsOf (.ref t) >>= _) _ _ s
 refine wpAny_bind (tupleItemsOf_ ht ?_)
 refine wpAny_bind (wpAny_typeOf hTs ?_)
 rw [if_pos (by decide)]
 refine wpAny_bind (zdo hs pl pu ?_)
 have hno:¬ ((((sIx items.size 0 lo:Nat):Int) == 0 && (1:Int) == 1 && (sIx items.size items.size hi - sIx items.size 0 lo) == items.size) = true):=by
  intro q
  rw [Bool.and_eq_true,Bool.and_eq_true] at q
  have q1:((sIx items.size 0 lo:Nat):Int) = 0:=eq_of_beq q.1.1
  have q2:sIx items.size items.size hi - sIx items.size 0 lo = items.size:=eq_of_beq q.2
  exact hw ⟨by omega,by omega⟩
 show wpAny _ _ (if (((sIx items.size 0 lo:Nat):Int) == 0 && (1:Int) == 1 && (sIx items.size items.size hi - sIx items.size 0 lo) == items.size) = true then _ else _) _ _ s
 rw [if_neg hno,zoP]
 first
  | exact wpAny_bind (m:=Builtin.Tuple.tupleExact _) (wpAny_newObj_type (wpAny_pure ⟨_,rfl,wpAny_pure h⟩) htake)
  | exact wpAny_bind (m:=Builtin.Tuple.tupleExact _) (wpAny_newObj_type (wpAny_bind (wpAny_pure (wpAny_pure ⟨_,rfl,wpAny_pure h⟩))) htake)
  | exact wpAny_bind (wpAny_bind (m:=Builtin.Tuple.tupleExact _) (wpAny_newObj_type (wpAny_pure (wpAny_pure ⟨_,rfl,wpAny_pure h⟩)) htake))
  | exact wpAny_bind (wpAny_bind (m:=Builtin.Tuple.tupleExact _) (wpAny_newObj_type (wpAny_pure ⟨_,rfl,wpAny_pure h⟩) htake))
end
end HT
namespace L2
open PySem PySem.Spec PyProof.Rows
section
abbrev TO:=St->Hp->(Option Int->Hp->Prop)->Prop
def PO (X:Cx) (e:Option Expr) (t:TO):Prop :=
 ∀ (zk:List (Addr × Obj)) (s:Shared) (σ:St) (H:Hp) (Q:Option Int->Hp->Prop),Inv X zk σ H s->t σ H Q ->
  wpAny (model X.prog X.w) X.A (evalPart e X.env) (fun u s'=>∃ o H',Inv X zk σ H' s'/\IsPart u o/\Q o H') X.xe s
def znU:TO:=fun _ H Q=>Q none H
def zlY (t:TE):TO:=fun σ H Q=>t σ H fun x H1=>∃ i,x = .int i/\Q (some i) H1
theorem zbM {ns:List Int}:∀ {us:List Value},Vals (ns.map V.int) us->IntsAre us ns:=by
 induction ns with
 | nil=>intro us r; rw [List.map_nil] at r; cases r; exact .nil
 | cons n ns ih =>
  intro us r
  rw [List.map_cons] at r
  cases r with
  | cons r1 r2 =>
   obtain ⟨t,e⟩:=r1
   subst e
   exact .cons n t (ih r2)
section
variable {X:Cx} {e:Expr} {te:TE} {lo hi:Option Expr} {tl th:TO} {pos p2:Pos}
theorem zgx:PO X none znU:=by
 intro zk s σ H Q I h
 rw [evalPart_none]
 exact wpAny_pure ⟨none,H,I,.none,h⟩
theorem zed (h:PE X e te):PO X (some e) (zlY te):=by
 intro zk s σ H Q I hw
 rw [evalPart_some]
 refine thn (h zk s σ H _ I hw) fun u s1 ⟨x,H1,I1,r1,q1⟩=>?_
 obtain ⟨i,rfl,q⟩:=q1
 obtain ⟨t,rfl⟩:=r1
 exact ⟨some i,H1,I1,.int i t,q⟩
def SlR (X:Cx) (r:V->Option Int->Option Int->Hp->VK->Prop):Prop :=
 ∀ (zk:List (Addr × Obj)) (s:Shared) (σ:St) (H:Hp) (x:V) (v vl vu:Value) (lo hi:Option Int) (sl:Addr) (Q:VK),Inv X zk σ H s->RelV x v->s.heap.IsSliceOf sl vl vu .none->IsPart vl lo->IsPart vu hi->r x lo hi H Q ->
  ∃ T id,typeLookup (.type T) "__getitem__" = pure (some (.builtin id))/\s.TypeIs v T/\wpAny (model X.prog X.w) X.A (getItem v (.ref sl)) (EP X zk σ Q) X.xe s
theorem SlR.or {r r':V->Option Int->Option Int->Hp->VK->Prop} (h:SlR X r) (h':SlR X r'):SlR X (fun x lo hi H Q=>r x lo hi H Q\/r' x lo hi H Q):=by
 intro zk s σ H x v vl vu lo hi sl Q I rx hs pl pu q
 rcases q with q | q
 ·exact h zk s σ H x v vl vu lo hi sl Q I rx hs pl pu q
 ·exact h' zk s σ H x v vl vu lo hi sl Q I rx hs pl pu q
def tSl (r:V->Option Int->Option Int->Hp->VK->Prop) (te:TE) (tl th:TO):TE:=fun σ H Q=>te σ H fun x H1=>tl σ H1 fun l H2=>th σ H2 fun u H3=>r x l u H3 Q
theorem zd3 {r:V->Option Int->Option Int->Hp->VK->Prop} (hr:SlR X r) (he:PE X e te) (hl:PO X lo tl) (hu:PO X hi th):PE X (.Subscript e (.Slice lo hi none p2) pos) (tSl r te tl th):=by
 intro zk s σ H Q I h
 refine Subscript_ (thn (he zk s σ H _ I h) fun v s1 ⟨x,H1,I1,r1,q1⟩=>?_)
 refine wpAny_Slice (thn (hl zk s1 σ H1 _ I1 q1) fun vl s2 ⟨l,H2,I2,pl,q2⟩=>thn (hu zk s2 σ H2 _ I2 q2) fun vu s3 ⟨u,H3,I3,pu,q3⟩=>?_)
 rw [evalPart_none]
 refine wpAny_pure ?_
 have I4:Inv X zk σ H3 { s3 with heap:=s3.heap.push { cls:=.type "slice",data:=.fields #[vl,vu,.none] } }:=I3.kept (t':=s3.toks) fun b ob q=>Heap.get?_push_of_some _ q
 obtain ⟨T,id,hT,ht,hg⟩:=hr zk { s3 with heap:=s3.heap.push { cls:=.type "slice",data:=.fields #[vl,vu,.none] } } σ H3 x v vl vu l u s3.heap.objs.size Q I4 r1 (Heap.IsSliceOf.new ..) pl pu q3
 show wpAny (model X.prog X.w) X.A (subscriptTail e (.Slice lo hi none p2) v (.ref s3.heap.objs.size)) (EP X zk σ Q) X.xe { s3 with heap:=s3.heap.push { cls:=.type "slice",data:=.fields #[vl,vu,.none] } }
 exact tail_any (ops:=[.ref s3.heap.objs.size,v]) ht hT hg (by with_unfolding_all rfl)
def zkj (xs:List V) (lo hi:Option Int):List V:=(xs.drop (HT.sIx xs.length 0 lo)).take (HT.sIx xs.length xs.length hi - HT.sIx xs.length 0 lo)
theorem zek (xs:List V) (lo hi:Option Int):(zkj xs lo hi).length <= xs.length:=by
 unfold zkj
 rw [List.length_take,List.length_drop]
 omega
def zvB (K:W.Frag):V->Option Int->Option Int->Hp->VK->Prop:=fun x lo hi H Q=>∃ a xs,x = .ref a/\SqT K H a xs /\
 ¬ (HT.sIx xs.length 0 lo = 0/\HT.sIx xs.length xs.length hi = xs.length)/\∀ p,H p = none->Q (.ref p) (upd H p (.tup (zkj xs lo hi)))
theorem zq2:SlR X (zvB X.K):=by
 intro zk s σ H x v vl vu lo hi sl Q I rx hs pl pu h
 obtain ⟨a,xs,rfl,hx,hw,q⟩:=h
 cases rx
 obtain ⟨its,r,ht,hz⟩:=I.tuple hx
 have hlen:its.toArray.size = xs.length:=by rw [List.size_toArray]; exact r.length.symm
 refine ⟨"tuple",_,PyProof.Rows.slot_tuple_getitem.lookup,ht.typeIs,?_⟩
 refine HT.getItem_tuple_cut ht hs pl pu (by rw [hlen]; exact hw) ?_ (by rw [hlen]; exact hz)
 rw [hlen]
 refine ⟨.ref s.heap.objs.size,_,I.laid (t':=s.toks) (o:=.tup (zkj xs lo hi)) (fun b ob q=>Heap.get?_push_of_some _ q) (Nat.le_refl _) ?_,rfl,q _ (I.hok.fresh (Nat.le_refl _))⟩
 exact ⟨⟨Nat.le_trans (zek xs lo hi) hz,_,Heap.get?_push_size _ rfl,rfl⟩,_,(r.drop (HT.sIx xs.length 0 lo)).take (HT.sIx xs.length xs.length hi - HT.sIx xs.length 0 lo),IsTup.new _ _⟩
def zrQ (K:W.Frag):R2:=fun x y H Q=>∃ a b xs ys,x = .ref a/\y = .ref b/\SqT K H a xs/\SqT K H b ys/\xs ≠ []/\xs.length + ys.length <= sizeLine /\
 (ys = []->Q (.ref a) H)/\(ys ≠ []->∀ p,H p = none->Q (.ref p) (upd H p (.tup (xs ++ ys))))
theorem Vals.nil_iff {xs:List V} {us:List Value} (r:Vals xs us):us = [] ↔ xs = []:=by
 cases r with
 | nil=>simp
 | cons _ _=>simp
theorem zrG:OpR X (binaryOp .Add) (zrQ X.K):=by
 intro zk s σ H x y v u Q I rx ry h
 obtain ⟨a,b,xs,ys,rfl,rfl,ha,hb,hx,hz,q1,q2⟩:=h
 cases rx
 cases ry
 obtain ⟨its,r1,p1,_⟩:=I.tuple ha
 obtain ⟨its2,r2,p2,_⟩:=I.tuple hb
 refine HT.cat_tup p1 p2 (fun z=>hx (r1.nil_iff.mp z)) (fun z=>⟨.ref a,H,I,rfl,q1 (r2.nil_iff.mp z)⟩) (fun z=>?_) (by rw [<- r1.length,<- r2.length]; exact hz)
 refine ⟨.ref s.heap.objs.size,_,I.laid (t':=s.toks) (o:=.tup (xs ++ ys)) (fun b ob q=>Heap.get?_push_of_some _ q) (Nat.le_refl _) ?_,rfl,q2 (fun w=>z (r2.nil_iff.mpr w)) _ (I.hok.fresh (Nat.le_refl _))⟩
 exact ⟨⟨by rw [List.length_append]; exact hz,_,Heap.get?_push_size _ rfl,rfl⟩,_,r1.append r2,IsTup.new _ _⟩
end
end
section
def ixN (n:Nat) (i:Int):Option Nat:=if 0 <= i then (if i < n then some i.toNat else none) else if -(n:Int) <= i then some (i + n).toNat else none
def atI {α:Type} (xs:List α) (i:Int):Option α:=(ixN xs.length i).bind fun j=>xs[j]?
theorem zml {n:Nat} {i:Int} {j:Nat} (h:ixN n i = some j):seqIndex? i n = some j/\j < n/\-(n:Int) <= i/\i < n:=by
 unfold ixN at h
 by_cases h0:0 <= i
 ·rw [if_pos h0] at h
  by_cases h1:i < n
  ·rw [if_pos h1] at h
   have e:i.toNat = j:=Option.some.inj h
   exact ⟨by rw [seqIndex_of h0 h1,e],by omega,by omega,h1⟩
  ·rw [if_neg h1] at h; cases h
 ·rw [if_neg h0] at h
  by_cases h1:-(n:Int) <= i
  ·rw [if_pos h1] at h
   have e:(i + n).toNat = j:=Option.some.inj h
   exact ⟨by rw [seqIndex_neg (by omega) h1,e],by omega,h1,by omega⟩
  ·rw [if_neg h1] at h; cases h
theorem zjx {α:Type} {xs:List α} {i:Int} {v:α} (h:atI xs i = some v):∃ j,seqIndex? i xs.length = some j/\xs[j]? = some v/\j < xs.length/\-(xs.length:Int) <= i/\i < xs.length:=by
 unfold atI at h
 cases e:ixN xs.length i with
 | none=>rw [e] at h; cases h
 | some j =>
  rw [e] at h
  obtain ⟨h1,h2,h3,h4⟩:=zml e
  exact ⟨j,h1,h,h2,h3,h4⟩
theorem zct {α:Type} {xs:List α} {j:Nat} {v:α} (h:xs[j]? = some v):atI xs (j:Int) = some v:=by
 have hj:j < xs.length:=(List.getElem?_eq_some_iff.mp h).1
 have e:ixN xs.length (j:Int) = some j:=by
  unfold ixN
  rw [if_pos (by omega),if_pos (by omega)]; simp
 unfold atI; rw [e]; exact h
theorem zk0 {α:Type} (xs:List α) (v:α):atI (xs ++ [v]) (-1) = some v:=by
 have hl:(xs ++ [v]).length = xs.length + 1:=by simp
 have e:ixN (xs ++ [v]).length (-1) = some xs.length:=by
  unfold ixN
  rw [hl,if_neg (by decide),if_pos (by omega)]
  congr 1
  omega
 unfold atI
 rw [e]
 show (xs ++ [v])[xs.length]? = some v
 simp
def PlainIx (b:Expr):Prop:=∀ o i,subscripted b false o i = operate [o,i] (getItem o i)
def IxR (X:Cx) (r:R2):Prop :=
 ∀ (value slice:Expr) (zk:List (Addr × Obj)) (s:Shared) (σ:St) (H:Hp) (x y:V) (v u:Value) (Q:VK),Inv X zk σ H s->RelV x v->RelV y u->r x y H Q ->
  subscripted slice false v u = operate [v,u] (getItem v u)->wpAny (model X.prog X.w) X.A (subscriptTail value slice v u) (EP X zk σ Q) X.xe s
def MtR (X:Cx) (id:String) (r:V->List V->Hp->VK->Prop):Prop :=
 ∀ (zk:List (Addr × Obj)) (s:Shared) (σ:St) (H:Hp) (x:V) (xs:List V) (v:Value) (us:List Value) (Q:VK),Inv X zk σ H s->RelV x v->Vals xs us->r x xs H Q ->
  wpAny (model X.prog X.w) X.A (call (.builtin id) (v :: us)) (EP X zk σ Q) X.xe s
section
variable {X:Cx} {a b:Expr} {ta tb:TE} {pos:Pos}
theorem IxR.or {r r':R2} (h:IxR X r) (h':IxR X r'):IxR X (fun x y H Q=>r x y H Q\/r' x y H Q):=by
 intro value slice zk s σ H x y v u Q I rx ry q hs
 rcases q with q | q
 ·exact h value slice zk s σ H x y v u Q I rx ry q hs
 ·exact h' value slice zk s σ H x y v u Q I rx ry q hs
theorem zQ {r:R2} (hr:IxR X r) (ha:PE X a ta) (hb:PE X b tb) (hs:PlainIx b):PE X (.Subscript a b pos) (tOp r ta tb):=by
 intro zk s σ H Q I h
 exact Subscript_ (zvk ha hb I h fun v u s2 x y H2 I2 rx ry q=>hr a b zk s2 σ H2 x y v u Q I2 rx ry q (hs _ _))
def zvo (K:W.Frag):R2:=fun x y H Q=>∃ p xs i v,x = .ref p/\y = .int i/\SqL K H p xs/\atI xs i = some v/\Q v H
def zvq (K:W.Frag):R2:=fun x y H Q=>∃ p xs i v,x = .ref p/\y = .int i/\SqT K H p xs/\atI xs i = some v/\Q v H
def zvr:R2:=fun x y H Q=>∃ z i c,x = .str z/\y = .int i/\z.length <= sizeLine/\atI z.cps.toList i = some c/\Q (.str ⟨#[c]⟩) H
theorem zmI:IxR X (zvo X.K):=by
 intro value slice zk s σ H x y v u Q I rx ry h hs
 obtain ⟨p,xs,i,z,rfl,rfl,hq,he,q⟩:=h
 cases rx
 obtain ⟨t,rfl⟩:=ry
 obtain ⟨its,r,pl,hz⟩:=I.list hq
 obtain ⟨j,h1,h2,h3,h4,h5⟩:=zjx he
 obtain ⟨w,ew,rw'⟩:=r.get h2
 have hl:=r.length
 have hn:=line63
 have fin:EP X zk σ Q w s:=⟨z,H,I,rw',q⟩
 by_cases h0:0 <= i
 ·have hj:i.toNat = j:=by
   rw [seqIndex_of h0 h5] at h1
   exact Option.some.inj h1
  exact item_listR pl.isList h0 (by omega) (by rw [hj]; simpa using ew) fin hs
 ·have hj:(i + (its.toArray.size:Int)).toNat = j:=by
   rw [seqIndex_neg (by omega) h4] at h1
   rw [List.size_toArray,<- hl]
   exact Option.some.inj h1
  exact subscriptTail_builtinR (x:=w) pl.isList.typeIs slot_list_getitem.lookup
   (wpAny_getItem_list_neg (Q:=fun r s'=>r = w/\EP X zk σ Q r s') pl.isList (by omega) (by rw [List.size_toArray] <;> omega) (by omega) (by rw [hj]; simpa using ew) ⟨rfl,fin⟩) hs
theorem zsM:IxR X (zvq X.K):=by
 intro value slice zk s σ H x y v u Q I rx ry h hs
 obtain ⟨p,xs,i,z,rfl,rfl,hq,he,q⟩:=h
 cases rx
 obtain ⟨t,rfl⟩:=ry
 obtain ⟨its,r,pl,hz⟩:=I.tuple hq
 obtain ⟨j,h1,h2,h3,h4,h5⟩:=zjx he
 obtain ⟨w,ew,rw'⟩:=r.get h2
 have hl:=r.length
 have hn:=line63
 have fin:EP X zk σ Q w s:=⟨z,H,I,rw',q⟩
 exact subscriptTail_builtinR (x:=w) pl.typeIs slot_tuple_getitem.lookup
  (getItem_tuple (j:=j) (Q:=fun r s'=>r = w/\EP X zk σ Q r s') pl (by omega) (by omega) (by rw [List.size_toArray,<- hl]; exact h1) (by simpa using ew) ⟨rfl,fin⟩) hs
theorem ztb:IxR X zvr:=by
 intro value slice zk s σ H x y v u Q I rx ry h hs
 obtain ⟨z,i,c,rfl,rfl,hz,he,q⟩:=h
 obtain ⟨t,rfl⟩:=rx
 obtain ⟨t',rfl⟩:=ry
 obtain ⟨j,h1,h2,h3,h4,h5⟩:=zjx he
 have hl:z.cps.toList.length = z.length:=by simp [Str.length]
 rw [hl] at h1 h4 h5
 have hn:=line63
 exact tail_any (typeIs_str s z t) slot_str_getitem.lookup (getItem_str (c:=c) (by
  have e1:decide (i < -(2 ^ 63:Int)) = false:=decide_eq_false (by omega)
  have e2:decide (i ≥ 2 ^ 63) = false:=decide_eq_false (by omega)
  rw [e1,e2,Bool.or_false]) (by rw [h1]; simpa using h2) ⟨.str ⟨#[c]⟩,H,I.tok _,⟨_,rfl⟩,q⟩) hs
def rIx (K:W.Frag):R2:=fun x y H Q=>zvo K x y H Q\/zvq K x y H Q\/zvr x y H Q
theorem zD:IxR X (rIx X.K):=zmI.or (zsM.or ztb)
theorem zlQ (its:List Value) (n j:Nat) (u:Value):Obj.mapSeq (·.setIfInBounds j u) { cls:=.type "list",data:=.seq its.toArray n } = { cls:=.type "list",data:=.seq (its.set j u).toArray n }:=by
 simp [Obj.mapSeq]
theorem Inv.lst {zk:List (Addr × Obj)} {σ:St} {H:Hp} {s:Shared} {p:Addr} {xs:List V} (I:Inv X zk σ H s) (h:H p = some (.lst xs)) :
  ∃ (its:List Value) (n:Nat),Vals xs its/\s.heap.get? p = some { cls:=.type "list",data:=.seq its.toArray n }/\xs.length <= sizeLine:=by
 obtain ⟨z,its,n,r,e⟩:=I.hok p _ h
 exact ⟨its,n,r,e,z⟩
theorem Inv.lstUpd {zk:List (Addr × Obj)} {σ:St} {H:Hp} {s:Shared} {p:Addr} {xs ys:List V} {its its':List Value} {n n':Nat} {f:Obj->Obj} (I:Inv X zk σ H s) (h:H p = some (.lst xs))
  (ho:s.heap.get? p = some { cls:=.type "list",data:=.seq its.toArray n }) (hf:f { cls:=.type "list",data:=.seq its.toArray n } = { cls:=.type "list",data:=.seq its'.toArray n' }) (r:Vals ys its') (hz:ys.length <= sizeLine) (t:Nat) :
  Inv X zk σ (upd H p (.lst ys)) { s with heap:=s.heap.update p f,toks:=t }:=by
 have e:(s.heap.update p f).get? p = some { cls:=.type "list",data:=.seq its'.toArray n' }:=by
  rw [Heap.get?_update_self f ho (by rw [hf] <;> rfl),hf]
 refine I.write (x:=p) (e:=p) (by rw [h]; trivial) (.inl rfl) (fun b u hb q=>(Heap.get?_update_other _ _ (Ne.symm hb)).trans q) ⟨_,e⟩ ?_
 exact ⟨hz,its',n',r,e⟩
def zuQ:V->V->V->Hp->(Hp->Prop)->Prop:=fun o i v H Q=>∃ p xs k j,o = .ref p/\i = .int k/\H p = some (.lst xs)/\ixN xs.length k = some j/\Q (upd H p (.lst (xs.set j v)))
theorem zkc:PSet X zuQ:=by
 intro zk s σ H o i v ov iv u Q I ro ri rv h
 obtain ⟨p,xs,k,j,rfl,rfl,hp,hj,q⟩:=h
 cases ro
 obtain ⟨t,rfl⟩:=ri
 obtain ⟨its,n,r,ho,hz⟩:=I.lst hp
 obtain ⟨h1,h2,h3,h4⟩:=zml hj
 have hl:=r.length
 have hn:=line63
 have I':Inv X zk σ (upd H p (.lst (xs.set j v))) { s with heap:=s.heap.update p (Obj.mapSeq (·.setIfInBounds j u)) } :=
  I.lstUpd hp ho (zlQ its n j u) (r.set rv j) (by rw [List.length_set]; exact hz) s.toks
 by_cases h0:0 <= k
 ·have hk:k.toNat = j:=by
   rw [seqIndex_of h0 h4] at h1
   exact Option.some.inj h1
  exact PySem.W.ki_setAt ho h0 (by omega) (by rw [List.size_toArray,<- hl]; exact h4) (by rw [hk]; exact ⟨_,I',q⟩)
 ·have hk:(k + (its.toArray.size:Int)).toNat = j:=by
   rw [seqIndex_neg (by omega) h3] at h1
   rw [List.size_toArray,<- hl]
   exact Option.some.inj h1
  exact PySem.W.ki_setBack ho (by omega) (by rw [List.size_toArray,<- hl]; exact h3) (by omega) (by rw [hk]; exact ⟨_,I',q⟩)
theorem ziB (lo hi:Option Int) (n:Nat):(sliceBounds lo hi none n).1 = ((HT.sIx n 0 lo:Nat):Int)/\(sliceBounds lo hi none n).2.1 = ((HT.sIx n n hi:Nat):Int)/\(sliceBounds lo hi none n).2.2 = 1:=by
 refine ⟨?_,?_,rfl⟩
 ·cases lo with
  | none=>simp [sliceBounds,HT.sIx]
  | some i =>
   simp only [sliceBounds,HT.sIx,Option.getD_none,show (1:Int) > 0 by decide,if_true]
   by_cases h:i < 0
   ·simp only [h,if_true] <;> omega
   ·simp only [h,if_false] <;> omega
 ·cases hi with
  | none=>simp [sliceBounds,HT.sIx]
  | some i =>
   simp only [sliceBounds,HT.sIx,Option.getD_none,show (1:Int) > 0 by decide,if_true]
   by_cases h:i < 0
   ·simp only [h,if_true] <;> omega
   ·simp only [h,if_false] <;> omega
theorem zh0 (its:List Value) (lo hi:Option Int):slicePick its.toArray lo hi none = ((its.drop (HT.sIx its.length 0 lo)).take (HT.sIx its.length its.length hi - HT.sIx its.length 0 lo)).toArray:=by
 obtain ⟨h1,h2,h3⟩:=ziB lo hi its.toArray.size
 unfold slicePick
 rw [h1,h2,h3]
 simp only [sliceRange_one,pick_run,List.size_toArray] <;> rfl
def zsS (K:W.Frag):V->Option Int->Option Int->Hp->VK->Prop:=fun x lo hi H Q=>∃ a xs,x = .ref a/\SqL K H a xs/\∀ p,H p = none->Q (.ref p) (upd H p (.lst (zkj xs lo hi)))
theorem zmO:SlR X (zsS X.K):=by
 intro zk s σ H x v vl vu lo hi sl Q I rx hs pl pu h
 obtain ⟨a,xs,rfl,hx,q⟩:=h
 cases rx
 obtain ⟨its,r,ht,hz⟩:=I.list hx
 have hlen:=r.length
 refine ⟨"list",_,slot_list_getitem.lookup,ht.isList.typeIs,?_⟩
 refine wpAny_getItem_list_slice ht.isList hs pl pu .none (by simp) ?_ (by rw [List.size_toArray] <;> omega)
 rw [zh0,<- hlen]
 refine ⟨.ref s.heap.objs.size,_,I.laid (t':=s.toks) (o:=.lst (zkj xs lo hi)) (fun b ob q=>Heap.get?_push_of_some _ q) (Nat.le_refl _) ?_,rfl,q _ (I.hok.fresh (Nat.le_refl _))⟩
 exact ⟨Nat.le_trans (zek xs lo hi) hz,_,0,(r.drop (HT.sIx xs.length 0 lo)).take (HT.sIx xs.length xs.length hi - HT.sIx xs.length 0 lo),Heap.get?_push_size _ rfl⟩
theorem zfn:CallR X (.builtin "len") (fun xs H Q=>∃ p ys,xs = [.ref p]/\(SqL X.K H p ys\/SqT X.K H p ys)/\Q (.int ys.length) H):=by
 intro zk s σ H xs us Q I r h
 obtain ⟨p,ys,rfl,hq,q⟩:=h
 obtain ⟨u,rfl,rx⟩:=vals1 r
 cases rx
 have hn:=line63
 rcases hq with hq | hq
 ·obtain ⟨its,r',pl,hz⟩:=I.list hq
  have hlen:=r'.length
  exact Calls.call_len_list pl.isList (by simp only [List.size_toArray] <;> omega) ⟨.int ys.length,H,I.tok _,⟨s.toks + 1,by rw [List.size_toArray,hlen]⟩,q⟩
 ·obtain ⟨its,r',pl,hz⟩:=I.tuple hq
  have hlen:=r'.length
  exact len_tuple pl (by simp only [List.size_toArray] <;> omega) ⟨.int ys.length,H,I.tok _,⟨s.toks + 1,by rw [List.size_toArray,hlen]⟩,q⟩
theorem zi2:CallR X (.builtin "len") (fun xs H Q=>∃ z,xs = [.str z]/\z.length <= sizeLine/\Q (.int z.length) H):=by
 intro zk s σ H xs us Q I r h
 obtain ⟨z,rfl,hz,q⟩:=h
 obtain ⟨u,rfl,t,rfl⟩:=vals1 r
 have hn:=line63
 exact len_str (by omega) ⟨.int z.length,H,I.tok _,⟨_,rfl⟩,q⟩
theorem CallR.or {f:Value} {r r':List V->Hp->VK->Prop} (h:CallR X f r) (h':CallR X f r'):CallR X f (fun xs H Q=>r xs H Q\/r' xs H Q):=by
 intro zk s σ H xs us Q I rs q
 rcases q with q | q
 ·exact h zk s σ H xs us Q I rs q
 ·exact h' zk s σ H xs us Q I rs q
theorem zc1:CallR X (.type "tuple") (fun xs H Q=>∃ p ys,xs = [.ref p]/\((SqL X.K H p ys/\∀ l,H l = none->Q (.ref l) (upd H l (.tup ys)))\/(SqT X.K H p ys/\Q (.ref p) H))):=by
 intro zk s σ H xs us Q I r h
 obtain ⟨p,ys,rfl,h⟩:=h
 obtain ⟨u,rfl,rx⟩:=vals1 r
 cases rx
 rcases h with ⟨hq,q⟩ | ⟨hq,q⟩
 ·obtain ⟨its,r',pl,hz⟩:=I.list hq
  have hlen:=r'.length
  refine call_tuple_list pl.isList (fun h' kp=>?_) (by simp only [List.size_toArray] <;> omega)
  have I1:Inv X zk σ H { s with heap:=h' }:=I.kept (t':=s.toks) kp
  have I2:Inv X zk σ (upd H h'.objs.size (.tup ys)) { s with heap:=h'.push { cls:=.type "tuple",data:=.seq its.toArray } } :=
   I1.laid (t':=s.toks) (fun b o e=>Heap.get?_push_of_some _ e) (Nat.le_refl _) (show ObjOk X.prog X.w _ _ _ (.tup ys) from ⟨⟨hz,_,Heap.get?_push_size _ rfl,rfl⟩,its,r',IsTup.new _ _⟩)
  exact ⟨.ref h'.objs.size,_,I2,rfl,q _ (I1.hok.fresh (Nat.le_refl _))⟩
 ·obtain ⟨its,r',pl,hz⟩:=I.tuple hq
  exact call_tuple_same pl ⟨.ref p,H,I,rfl,q⟩
def tyV (K:W.Frag) (T:String) (x:V) (H:Hp):Prop:=match x with
 | .str _=>T = "str"
 | .int _=>T = "int"
 | .ref p=>(T = "list"/\∃ xs,SqL K H p xs)\/(T = "tuple"/\∃ o,K.lookup p = some o/\o.cls = .type "tuple"/\o.dict = none) \/
   (T = "dict"/\((∃ kvs,H p = some (.dK kvs))\/∃ kvs,H p = some (.dT kvs)))\/(T = "set"/\∃ S n,H p = some (.set S n))
 | _=>False
theorem zqM {zk:List (Addr × Obj)} {σ:St} {H:Hp} {s:Shared} {T:String} {x:V} {v:Value} (I:Inv X zk σ H s) (r:RelV x v) (ty:tyV X.K T x H) :
  s.TypeIs v T/\∀ a,v = .ref a->∃ ob,s.heap.get? a = some ob/\ob.dict = none:=by
 cases x with
 | str z =>
  obtain ⟨t,rfl⟩:=r
  cases (show T = "str" from ty)
  exact ⟨typeIs_str s z t,fun _ e=>nomatch e⟩
 | int i =>
  obtain ⟨t,rfl⟩:=r
  cases (show T = "int" from ty)
  exact ⟨typeIs_int s i t,fun _ e=>nomatch e⟩
 | ref p =>
  cases r
  rcases ty with ⟨rfl,xs,hq⟩ | ⟨rfl,o,hk,hc,hd⟩ | ⟨rfl,hk⟩ | ⟨rfl,S,n,hk⟩
  ·obtain ⟨its,_,pl,_⟩:=I.list hq
   refine ⟨pl.isList.typeIs,fun a e=>?_⟩
   cases e
   obtain ⟨o,n,e,c,hd,_⟩:=pl
   exact ⟨o,e,hd⟩
  ·refine ⟨⟨o,I.kIn p o hk,hc⟩,fun a e=>?_⟩
   cases e
   exact ⟨o,I.kIn _ o hk,hd⟩
  ·have z:∃ o,s.heap.get? p = some o/\o.ExactDict:=by
    rcases hk with ⟨kvs,hk⟩ | ⟨kvs,hk⟩
    ·obtain ⟨_,_,_,_,o,_,_,e,ex,_⟩:=I.hok p _ hk
     exact ⟨o,e,ex⟩
    ·obtain ⟨_,_,_,_,o,_,_,e,ex,_⟩:=I.hok p _ hk
     exact ⟨o,e,ex⟩
   obtain ⟨o,e,ex⟩:=z
   refine ⟨⟨o,e,ex.1⟩,fun a e2=>?_⟩
   cases e2
   exact ⟨o,e,ex.2.1⟩
  ·obtain ⟨o,_,_,_,e,ex,_⟩:=I.hok p _ hk
   refine ⟨⟨o,e,ex.1⟩,fun a e2=>?_⟩
   cases e2
   exact ⟨o,e,ex.2.1⟩
 | _=>exact False.elim ty
def zv7 (K:W.Frag) (T:String) (r:V->List V->Hp->VK->Prop) (to:TE):TE:=fun σ H Q=>to σ H fun x H1=>tyV K T x H1/\r x [] H1 Q
def tBM (K:W.Frag) (T:String) (r:V->List V->Hp->VK->Prop) (to:TE) (t:TA):TE:=fun σ H Q=>to σ H fun x H1=>tyV K T x H1/\t σ H1 fun xs H2=>r x xs H2 Q
variable {o e:Expr} {es:List Expr} {to:TE} {t:TA} {name:Str} {apos cpos:Pos} {T id:String} {r:V->List V->Hp->VK->Prop}
theorem znR (pa:PlainAttrs T) (slot:Slot T name id) (hty:typeOf (.builtin id) = pure (.type "method_descriptor")) (hm:MtR X id r) (ho:PE X o to)
  (hbase:attributeBase o name X.env (eval o X.env) = eval o X.env:=by rfl) (hline:(apos.endLine == cpos.line) = true:=by rfl):PE X (.Call (.Attribute o name apos) [] [] cpos) (zv7 X.K T r to):=by
 intro zk s σ H Q I h
 refine wpAny_Call_method0_late hbase hline (thn (ho zk s σ H _ I h) fun v s1 ⟨x,H1,I1,r1,ty,q1⟩=>?_)
 obtain ⟨h1,h2⟩:=zqM I1 r1 ty
 exact ⟨T,id,pa,slot,hty,h1,h2,Calls.callWith_builtin rfl (PySem.evalArgs_none (hm zk s1 σ H1 x [] v [] Q I1 r1 .nil q1))⟩
theorem ziu (pa:PlainAttrs T) (slot:Slot T name id) (hty:typeOf (.builtin id) = pure (.type "method_descriptor")) (hm:MtR X id r) (ho:PE X o to) (ha:PA X (e :: es) t)
  (hbase:attributeBase o name X.env (eval o X.env) = eval o X.env:=by rfl)
  (hfew:((backTo cpos (starEach (e :: es) X.env)).all (fun x=>!x.1) && (backToKw cpos (keywordEach [] X.env)).all (fun x=>x.1.isSome)
   && decide ((e :: es).length + ([]:List Keyword).length + (if ([]:List Keyword).isEmpty then 0 else 1) < 30)) = true:=by rfl)
  (hline:(apos.endLine == cpos.line) = true:=by rfl) (hs:starEach (e :: es) X.env = (false,eval e X.env) :: starEach es X.env:=by rfl) (hplain:(backTo cpos (starEach es X.env)).any (·.1) = false:=by rfl) :
  PE X (.Call (.Attribute o name apos) (e :: es) [] cpos) (tBM X.K T r to t):=by
 intro zk s σ H Q I h
 refine wpAny_Call_method_late hbase hfew hline rfl (thn (ho zk s σ H _ I h) fun v s1 ⟨x,H1,I1,r1,ty,q1⟩=>?_)
 obtain ⟨h1,h2⟩:=zqM I1 r1 ty
 refine ⟨T,id,pa,slot,hty,h1,h2,?_⟩
 have hA:=ha cpos zk s1 σ H1 _ I1 q1
 rw [hs] at hA ⊢
 refine Calls.callWith_builtin (by show (false || (backTo cpos (starEach es X.env)).any (·.1)) = false; rw [hplain] <;> rfl) (Calls.evalArgs_plain ?_)
 exact thn hA fun us s2 ⟨vs,H2,I2,r2,q2⟩=>hm zk s2 σ H2 x vs v us Q I2 r1 r2 q2
end
end
section
def MtM (X:Cx) (id:String) (r:V->List V->Hp->VK->Prop):Prop :=
 ∀ (zk:List (Addr × Obj)) (s:Shared) (σ:St) (H:Hp) (x:V) (xs:List V) (v:Value) (us:List Value) (Q:VK),Inv X zk σ H s->RelV x v->Vals xs us->r x xs H Q ->
  wpAny (model X.prog X.w) X.A (call (.builtin id) (v :: us)) (EP X zk σ Q) X.xe s
theorem Vals.one:∀ {x:V} {us:List Value},Vals [x] us->∃ u,us = [u]/\RelV x u
 | _,_,.cons r .nil=>⟨_,rfl,r⟩
theorem Vals.zero:∀ {us:List Value},Vals [] us->us = []
 | _,.nil=>rfl
theorem Vals.reverse {xs:List V} {us:List Value} (h:Vals xs us):Vals xs.reverse us.reverse:=by
 induction h with
 | nil=>exact .nil
 | cons r t ih=>rw [List.reverse_cons,List.reverse_cons]; exact Vals.append ih (.cons r .nil)
theorem Vals.rep {xs:List V} {us:List Value} (h:Vals xs us):∀ k:Nat,Vals (List.replicate k xs).flatten (List.replicate k us).flatten
 | 0=>.nil
 | k + 1=>by
  rw [List.replicate_succ,List.replicate_succ,List.flatten_cons,List.flatten_cons]
  exact Vals.append h (Vals.rep h k)
theorem ziD (its:List Value):∀ (k:Nat) (acc:List Value),
  List.foldl (fun x1 x2=>x1 ++ x2) acc.toArray (List.replicate k its.toArray) = (acc ++ (List.replicate k its).flatten).toArray
 | 0,acc=>by simp
 | k + 1,acc=>by
  have e:acc.toArray ++ its.toArray = (acc ++ its).toArray:=by simp
  have e2:(acc ++ its) ++ (List.replicate k its).flatten = acc ++ (List.replicate (k + 1) its).flatten:=by
   rw [List.replicate_succ,List.flatten_cons,List.append_assoc]
  rw [<- e2,<- ziD its k (acc ++ its),<- e,List.replicate_succ,List.foldl_cons]
section
variable {X:Cx} {zk:List (Addr × Obj)} {σ:St} {H:Hp} {s:Shared} {l b:Addr} {xs ys zs:List V}
theorem Inv.lset {its its':List Value} {n:Nat} {f:Array Value->Array Value} {t':Nat} (I:Inv X zk σ H s) (hH:H l = some (.lst xs))
  (e:s.heap.get? l = some { cls:=.type "list",data:=.seq its.toArray n }) (hf:f its.toArray = its'.toArray) (hv:Vals ys its') (hz:ys.length <= sizeLine) :
  Inv X zk σ (upd H l (.lst ys)) { s with heap:=s.heap.update l (Obj.mapSeq f),toks:=t' }:=by
 have q:=PySem.IsL.update e f
 rw [hf] at q
 refine I.write (x:=l) (e:=l) (by rw [hH]; exact trivial) (.inl rfl) (fun b' u hb hu=>(Heap.get?_update_other s.heap (Obj.mapSeq f) (Ne.symm hb)).trans hu) ⟨_,q⟩ ?_
 exact ⟨hz,its',_,hv,q⟩
theorem Inv.lnew {its:List Value} {t':Nat} (I:Inv X zk σ H s) (hv:Vals ys its) (hz:ys.length <= sizeLine) :
  Inv X zk σ (upd H s.heap.objs.size (.lst ys)) { s with heap:=s.heap.push { cls:=.type "list",data:=.seq its.toArray },toks:=t' } :=
 I.laid (fun _ _ q=>Heap.get?_push_of_some _ q) (Nat.le_refl _) ⟨hz,its,0,hv,Heap.get?_push_size _ rfl⟩
theorem Inv.fresh (I:Inv X zk σ H s):H s.heap.objs.size = none:=I.hok.fresh (Nat.le_refl _)
theorem Inv.lstM (I:Inv X zk σ H s) (hH:H l = some (.lst xs)):xs.length <= sizeLine/\∃ (its:List Value) (n:Nat),Vals xs its/\xs.length = its.length/\s.heap.get? l = some { cls:=.type "list",data:=.seq its.toArray n }:=by
 obtain ⟨z,its,n,r,e⟩:=I.hok l _ hH
 exact ⟨z,its,n,r,r.length,e⟩
theorem zj5 {n:Nat} (h:n <= sizeLine):Builtin.List.listTooLong n = false:=by
 unfold Builtin.List.listTooLong
 exact decide_eq_false (by omega)
end
section
variable {X:Cx}
def zmk:V->List V->Hp->VK->Prop:=fun x vs H Q=>∃ l xs y,x = .ref l/\vs = [y]/\H l = some (.lst xs)/\xs.length < sizeLine/\Q .non (upd H l (.lst (xs ++ [y])))
theorem zdJ:MtM X "list.append" zmk:=by
 intro zk s σ H x vs v us Q I rx rv h
 obtain ⟨l,xs,y,rfl,rfl,hH,hz,q⟩:=h
 cases rx
 obtain ⟨u,rfl,ru⟩:=rv.one
 obtain ⟨z,its,n,r,hl,e⟩:=I.lstM hH
 refine call_meets F.slot_list_append ⟨_,e,rfl⟩ F.entry_list_append (F.args_list_append_2 _ _) (PySem.list_append l its.toArray n u (by rw [List.size_toArray]; omega)) ⟨e,?_⟩
 refine ⟨.non,_,I.lset (its':=its ++ [u]) hH e (by simp) (r.append (.cons ru .nil)) ?_,rfl,q⟩
 rw [List.length_append,List.length_singleton]
 omega
def znp:V->List V->Hp->VK->Prop:=fun x vs H Q=>∃ l b xs zs,x = .ref l/\vs = [.ref b]/\H l = some (.lst xs)/\H b = some (.lst zs)/\xs.length + zs.length <= sizeLine/\Q .non (upd H l (.lst (xs ++ zs)))
theorem zmZ:MtM X "list.extend" znp:=by
 intro zk s σ H x vs v us Q I rx rv h
 obtain ⟨l,b,xs,zs,rfl,rfl,hH,hB,hz,q⟩:=h
 cases rx
 obtain ⟨u,rfl,ru⟩:=rv.one
 cases ru
 obtain ⟨z,its,n,r,hl,e⟩:=I.lstM hH
 obtain ⟨z2,its2,n2,r2,hl2,e2⟩:=I.lstM hB
 have hsz:its.toArray.size + its2.toArray.size <= sizeLine:=by rw [List.size_toArray,List.size_toArray]; omega
 have hlong:¬ (!its.toArray.isEmpty && Builtin.List.listTooLong (its.toArray.size + its2.toArray.size)) = true:=by
  rw [zj5 hsz,Bool.and_false]
  exact Bool.false_ne_true
 refine call_meets F.slot_list_extend ⟨_,e,rfl⟩ F.entry_list_extend (F.args_list_extend_2 _ _)
  (AutoSeq1.list_extend_list_list_0 l its.toArray n b its2.toArray n2 hlong (by rw [List.size_toArray]; omega) (by omega)) ⟨e,e2,?_⟩
 refine ⟨.non,_,I.lset (its':=its ++ its2) hH e (by simp) (r.append r2) ?_,rfl,q⟩
 rw [List.length_append]
 omega
def zkv:V->List V->Hp->VK->Prop:=fun x vs H Q=>∃ l xs,x = .ref l/\vs = []/\H l = some (.lst xs)/\Q .non (upd H l (.lst xs.reverse))
theorem zfi:MtM X "list.reverse" zkv:=by
 intro zk s σ H x vs v us Q I rx rv h
 obtain ⟨l,xs,rfl,rfl,hH,q⟩:=h
 cases rx
 have hus:=rv.zero
 subst hus
 obtain ⟨z,its,n,r,hl,e⟩:=I.lstM hH
 refine call_meets F.slot_list_reverse ⟨_,e,rfl⟩ F.entry_list_reverse (F.args_list_reverse_1 _) (AutoSeq1.list_reverse_list_0 l its.toArray n (by rw [List.size_toArray]; omega)) ⟨e,?_⟩
 refine ⟨.non,_,I.lset (its':=its.reverse) hH e (by simp) r.reverse ?_,rfl,q⟩
 rw [List.length_reverse]
 omega
def zsw:R2:=fun x y H Q=>∃ l b xs zs,x = .ref l/\y = .ref b/\H l = some (.lst xs)/\H b = some (.lst zs)/\xs.length + zs.length <= sizeLine/\∀ p,H p = none->Q (.ref p) (upd H p (.lst (xs ++ zs)))
theorem zop:OpR X (binaryOp .Add) zsw:=by
 intro zk s σ H x y v u Q I rx ry h
 obtain ⟨l,b,xs,zs,rfl,rfl,hH,hB,hz,q⟩:=h
 cases rx
 cases ry
 obtain ⟨z,its,n,r,hl,e⟩:=I.lstM hH
 obtain ⟨z2,its2,n2,r2,hl2,e2⟩:=I.lstM hB
 refine PySem.P.add_list e e2 ?_ (by rw [List.size_toArray,List.size_toArray]; omega)
 have ea:its.toArray ++ its2.toArray = (its ++ its2).toArray:=by simp
 rw [ea]
 exact ⟨.ref _,_,I.lnew (t':=s.toks) (r.append r2) (by rw [List.length_append]; omega),rfl,q _ I.fresh⟩
def zvK:R2:=fun x y H Q=>∃ l k xs,x = .ref l/\y = .int k/\H l = some (.lst xs)/\-(2 ^ 63) <= k/\k < 2 ^ 63/\xs.length * k.toNat <= sizeLine /\
 ∀ p,H p = none->Q (.ref p) (upd H p (.lst (List.replicate k.toNat xs).flatten))
theorem zrA {α:Type} (xs:List α) (k:Nat):(List.replicate k xs).flatten.length = k * xs.length:=by
 induction k with
 | zero=>simp
 | succ k ih=>rw [List.replicate_succ,List.flatten_cons,List.length_append,ih,Nat.succ_mul,Nat.add_comm]
theorem zsV:OpR X (binaryOp .Mult) zvK:=by
 intro zk s σ H x y v u Q I rx ry h
 obtain ⟨l,k,xs,rfl,rfl,hH,h1,h2,hz,q⟩:=h
 cases rx
 obtain ⟨t,rfl⟩:=ry
 obtain ⟨z,its,n,r,hl,e⟩:=I.lstM hH
 have hlen:its.toArray.size * k.toNat <= sizeLine:=by rw [List.size_toArray,<- hl]; exact hz
 have hcap:¬ its.toArray.size * k.toNat > (2 ^ 63 - 1) / 8:=by
  have:(sizeLine:Nat) <= (2 ^ 63 - 1) / 8:=by decide
  omega
 have hfit:¬ (!Builtin.List.listFitsIndex k) = true:=by
  rw [fitsIndex_both h1 h2]
  exact Bool.false_ne_true
 have hlong:¬ Builtin.List.listTooLong (its.toArray.size * k.toNat) = true:=by
  rw [zj5 hlen]
  exact Bool.false_ne_true
 have hnew:List.foldl (fun x1 x2=>x1 ++ x2) #[] (List.replicate (if its.toArray.isEmpty = true then 0 else k.toNat) its.toArray) = (List.replicate k.toNat its).flatten.toArray:=by
  have f0:∀ m:Nat,List.foldl (fun x1 x2=>x1 ++ x2) #[] (List.replicate m its.toArray) = (List.replicate m its).flatten.toArray:=fun m=>by
   have:=ziD its m []
   rw [List.nil_append] at this
   exact this
  rw [f0]
  cases its with
  | nil=>simp
  | cons a r'=>rw [if_neg (by simp)]
 refine wpAny_binaryOp_repeat_ref (T:="list") (U:="int") (by decide) ⟨_,e,rfl⟩ (fun s'=>typeIs_int s' k t) noFill_list_mul F.fills_int_mul F.slot_int_rmul repeat_list F.slot_int_index.lookup
  (call_meets F.slot_int_rmul (typeIs_int s k t) F.entry_int_rmul (F.args_int_rmul_2 _ _) (int___rmul___int_list k t l its.toArray n)
   ⟨e,rfl,⟨_,e,rfl⟩,call_meets F.slot_list_mul ⟨_,e,rfl⟩ F.entry_list_mul (F.args_list_mul_2 _ _) (AutoListH.list___mul___list_int_3 l its.toArray n k t hfit hcap hlong) ⟨e,?_⟩⟩)
 rw [hnew]
 exact ⟨.ref _,_,I.lnew (t':=s.toks) (r.rep k.toNat) (by rw [zrA,Nat.mul_comm]; exact hz),rfl,q _ I.fresh⟩
end
section
variable {prog:Program} {w:World} {A:Around} {E:Value->Shared->Prop} {s:Shared}
set_option maxRecDepth 100000 in
end
end
section
section
variable {κ:Type} [DecidableEq κ]
def zl4 (kvs:List (κ × V)) (k:κ):Option V:=(kvs.find? fun kv=>decide (kv.1 = k)).map (·.2)
def zfg (kvs:List (κ × V)) (k:κ) (v:V):List (κ × V) :=
 if (kvs.any fun kv=>decide (kv.1 = k)) = true then kvs.map (fun kv=>if kv.1 = k then (kv.1,v) else kv) else kvs ++ [(k,v)]
theorem zfC {p:κ × V} {r:List (κ × V)} {k:κ} (e:p.1 = k):zl4 (p :: r) k = some p.2:=by simp [zl4,List.find?_cons,e]
theorem zfD {p:κ × V} {r:List (κ × V)} {k:κ} (e:¬ p.1 = k):zl4 (p :: r) k = zl4 r k:=by simp [zl4,List.find?_cons,e]
theorem zkw (k:κ):∀ kvs:List (κ × V),(kvs.any fun kv=>decide (kv.1 = k)) = (zl4 kvs k).isSome
 | []=>rfl
 | p :: r=>by
  rw [List.any_cons]
  by_cases e:p.1 = k
  ·simp only [zfC e,decide_eq_true e,Bool.true_or,Option.isSome_some]
  ·rw [zfD e,decide_eq_false e,Bool.false_or]; exact zkw k r
theorem zei (kvs:List (κ × V)) (k:κ) (v:V):(zfg kvs k v).length <= kvs.length + 1:=by
 unfold zfg
 split
 ·rw [List.length_map]; omega
 ·rw [List.length_append,List.length_cons,List.length_nil]; omega
theorem RelO.isSome_eq {o:Option V} {u:Option Value} (r:RelO o u):o.isSome = u.isSome:=by
 cases o with
 | none=>cases u with
  | none=>rfl
  | some _=>exact (show False from r).elim
 | some _=>cases u with
  | none=>exact (show False from r).elim
  | some _=>rfl
theorem RelO.getD {o:Option V} {u:Option Value} {d:V} {d':Value} (r:RelO o u) (rd:RelV d d'):RelV (o.getD d) (u.getD d'):=by
 cases o with
 | none=>cases u with
  | none=>exact rd
  | some _=>exact (show False from r).elim
 | some _=>cases u with
  | none=>exact (show False from r).elim
  | some _=>exact r
theorem KV.val {kvs:List (κ × V)} {vs:List (κ × Value)} (r:KV kvs vs) (k:κ):RelO (zl4 kvs k) (valueAt vs k):=by
 unfold KV at r
 induction r with
 | nil=>exact True.intro
 | @cons p q ps qs h t ih =>
  obtain ⟨h1,h2⟩:=h
  by_cases e:p.1 = k
  ·have e':q.1 = k:=h1.symm.trans e
   have b:valueAt (q :: qs) k = some q.2:=by simp [valueAt,List.find?_cons,e']
   rw [zfC e,b]; exact h2
  ·have e':¬ q.1 = k:=fun z=>e (h1.trans z)
   have b:valueAt (q :: qs) k = valueAt qs k:=by simp [valueAt,List.find?_cons,e']
   rw [zfD e,b]; exact ih
theorem KV.any {kvs:List (κ × V)} {vs:List (κ × Value)} (r:KV kvs vs) (k:κ):(kvs.any fun kv=>decide (kv.1 = k)) = vs.any fun kv=>decide (kv.1 = k):=by
 unfold KV at r
 induction r with
 | nil=>rfl
 | cons h t ih=>rw [List.any_cons,List.any_cons,ih,h.1]
theorem KV.repl {kvs:List (κ × V)} {vs:List (κ × Value)} (r:KV kvs vs) (k:κ) {y:V} {u:Value} (ry:RelV y u) :
  KV (kvs.map fun kv=>if kv.1 = k then (kv.1,y) else kv) (vs.map fun kv=>if kv.1 = k then (kv.1,u) else kv):=by
 unfold KV at r ⊢
 induction r with
 | nil=>exact .nil
 | @cons p q ps qs h t ih =>
  rw [List.map_cons,List.map_cons]
  refine .cons ?_ ih
  obtain ⟨h1,h2⟩:=h
  by_cases e:p.1 = k
  ·rw [if_pos e,if_pos (h1.symm.trans e)]; exact ⟨h1,ry⟩
  ·rw [if_neg e,if_neg (fun z=>e (h1.trans z))]; exact ⟨h1,h2⟩
theorem KV.put {kvs:List (κ × V)} {vs:List (κ × Value)} (r:KV kvs vs) (k:κ) {y:V} {u:Value} (ry:RelV y u):KV (zfg kvs k y) (stored vs k u):=by
 unfold zfg stored
 rw [r.any k]
 by_cases e:(vs.any fun kv=>decide (kv.1 = k)) = true
 ·rw [if_pos e,if_pos e]; exact r.repl k ry
 ·rw [if_neg e,if_neg e]; exact Paired.snoc r ⟨rfl,ry⟩
theorem KV.length {kvs:List (κ × V)} {vs:List (κ × Value)} (r:KV kvs vs):kvs.length = vs.length:=Paired.length r
end
theorem zjF {P:Program} {w:World} {k:Key} {u:Value} (r:RelV (kV k) u):(zak P w).is k u = true:=by
 cases k with
 | inl i=>obtain ⟨t,e⟩:=(show ∃ t,u = Value.int i t from r); subst e; exact zjL P w i t
 | inr x=>obtain ⟨t,e⟩:=(show ∃ t,u = Value.str x t from r); subst e; exact zjz P w x t
theorem ziy {P:Program} {w:World}:∀ {ks:List Key} {us:List Value},Vals (ks.map kV) us->ItemsAre (zak P w) ks us
 | [],_,r=>by rw [List.map_nil] at r; cases r; exact .nil
 | k :: ks,_,r=>by
  rw [List.map_cons] at r
  cases r with
  | cons h t=>exact .cons (zjF h) (ziy t)
abbrev KT (H:Hp):List (List Key × V)->List (List Key × Addr × Value)->Prop:=Paired fun p q=>p.1 = q.1/\H q.2.1 = some (.tup (p.1.map kV))/\RelV p.2 q.2.2
theorem KT.val {H:Hp} {kvs:List (List Key × V)} {xs:List (List Key × Addr × Value)} (r:KT H kvs xs) (k:List Key):RelO (zl4 kvs k) ((atKey xs k).map (·.2)):=by
 induction r with
 | nil=>exact True.intro
 | @cons p q ps qs h t ih =>
  obtain ⟨h1,_,h2⟩:=h
  by_cases e:p.1 = k
  ·have e':q.1 = k:=h1.symm.trans e
   have b:atKey (q :: qs) k = some q.2:=by simp [atKey,List.find?_cons,e']
   rw [zfC e,b]; exact h2
  ·have e':¬ q.1 = k:=fun z=>e (h1.trans z)
   have b:atKey (q :: qs) k = atKey qs k:=by simp [atKey,List.find?_cons,e']
   rw [zfD e,b]; exact ih
theorem KT.repl {H:Hp} {kvs:List (List Key × V)} {xs:List (List Key × Addr × Value)} (r:KT H kvs xs) (k:List Key) {y:V} {u:Value} (ry:RelV y u) :
  KT H (kvs.map fun kv=>if kv.1 = k then (kv.1,y) else kv) (xs.map (putAt k u)):=by
 induction r with
 | nil=>exact .nil
 | @cons p q ps qs h t ih =>
  rw [List.map_cons,List.map_cons]
  refine .cons ?_ ih
  obtain ⟨h1,h2,h3⟩:=h
  unfold putAt
  by_cases e:p.1 = k
  ·rw [if_pos e,if_pos (h1.symm.trans e)]; exact ⟨h1,h2,ry⟩
  ·rw [if_neg e,if_neg (fun z=>e (h1.trans z))]; exact ⟨h1,h2,h3⟩
theorem KT.put {H:Hp} {kvs:List (List Key × V)} {xs:List (List Key × Addr × Value)} (r:KT H kvs xs) (k:List Key) {b:Addr} {y:V} {u:Value} (hb:H b = some (.tup (k.map kV))) (ry:RelV y u) :
  KT H (zfg kvs k y) (storedH xs k b u):=by
 have e:(kvs.any fun kv=>decide (kv.1 = k)) = (atKey xs k).isSome:=by
  rw [zkw,(r.val k).isSome_eq,Option.isSome_map]
 unfold zfg storedH
 rw [e]
 by_cases q:(atKey xs k).isSome = true
 ·rw [if_pos q,if_pos q]; exact r.repl k ry
 ·rw [if_neg q,if_neg q]; exact Paired.snoc r ⟨rfl,hb,ry⟩
theorem KT.keeps {H H':Hp} {kvs:List (List Key × V)} {xs:List (List Key × Addr × Value)} (r:KT H kvs xs) (ht:∀ b ys,H b = some (.tup ys)->H' b = some (.tup ys)):KT H' kvs xs :=
 Paired.mapP r fun _ _ z=>⟨z.1,ht _ _ z.2.1,z.2.2⟩
section
variable {P:Program} {w:World} {H:Hp} {h:Heap} {a:Addr}
theorem ztg {u:HO} (ok:HOk P w H h) (e:Rd H a u):ObjOk P w H h a u:=e.ok ok
theorem zlm {kvs:List (Key × V)} (ok:HOk P w H h) (e:Rd H a (.dK kvs)):kvs.length <= sizeLine/\(a == sysModules) = false/\∃ vs,KV kvs vs/\h.DictOf (zak P w) a vs :=
 show ObjOk P w H h a (.dK kvs) from ztg ok e
theorem zt4 {kvs:List (Key × V)} (ok:HOk P w H h) (e:H a = some (.dK kvs)):kvs.length <= sizeLine/\(a == sysModules) = false/\∃ vs,KV kvs vs/\h.DictOf (zak P w) a vs:=zlm ok (.inl e)
theorem zix {ks:List Key} (ok:HOk P w H h) (e:H a = some (.tup (ks.map kV))):(tupleKind (zak P w)).is h ks a:=by
 obtain ⟨_,its,r,o,h1,h2,n,h3⟩:=(show ObjOk P w H h a (.tup (ks.map kV)) from ok a _ e)
 exact ⟨o,its.toArray,n,h1,h2,h3,by simpa using ziy r⟩
theorem zlH {kvs:List (List Key × V)} (ok:HOk P w H h) (e:Rd H a (.dT kvs)):kvs.length <= sizeLine/\(a == sysModules) = false /\
  ∃ xs,KT H kvs xs/\h.DictOfH (tupleKind (zak P w)) a xs:=by
 obtain ⟨z,y,xs,r,o,es,ep,h1,h2,h3,h4,h5⟩:=(show ObjOk P w H h a (.dT kvs) from ztg ok e)
 refine ⟨z,y,xs,r,o,es,ep,h1,h2,h3,h4,fun x hx=>?_,h5⟩
 have all:∀ {l:List (List Key × V)} {m:List (List Key × Addr × Value)},KT H l m->∀ x ∈ m,(tupleKind (zak P w)).is h x.1 x.2.1:=by
  intro l m q
  induction q with
  | nil=>intro x hx; exact nomatch hx
  | @cons p q ps qs hq t ih =>
   intro x hx
   rcases List.mem_cons.mp hx with e | hx
   ·subst e
    exact zix ok (by rw [<- hq.1]; exact hq.2.1)
   ·exact ih x hx
 exact all r x hx
theorem zvs {kvs:List (List Key × V)} (ok:HOk P w H h) (e:H a = some (.dT kvs)):kvs.length <= sizeLine/\(a == sysModules) = false /\
  ∃ xs,KT H kvs xs/\h.DictOfH (tupleKind (zak P w)) a xs:=zlH ok (.inl e)
end
def DGet (H:Hp) (a:Addr) (y:V) (r:Option V):Prop :=
 (∃ kvs k,Rd H a (.dK kvs)/\y = kV k/\r = zl4 kvs k)\/∃ kvs k b,Rd H a (.dT kvs)/\y = .ref b/\H b = some (.tup (k.map kV))/\r = zl4 kvs k
def DPut (H:Hp) (a:Addr) (y v:V) (H':Hp):Prop :=
 (∃ kvs k,H a = some (.dK kvs)/\y = kV k/\kvs.length < sizeLine/\H' = upd H a (.dK (zfg kvs k v))) \/
 ∃ kvs k b,H a = some (.dT kvs)/\y = .ref b/\H b = some (.tup (k.map kV))/\kvs.length < sizeLine/\H' = upd H a (.dT (zfg kvs k v))
theorem DPut.k {H:Hp} {a:Addr} {kvs:List (Key × V)} {k:Key} {v:V} (e:H a = some (.dK kvs)) (hl:kvs.length < sizeLine):DPut H a (kV k) v (upd H a (.dK (zfg kvs k v))):=.inl ⟨kvs,k,e,rfl,hl,rfl⟩
theorem DPut.t {H:Hp} {a b:Addr} {kvs:List (List Key × V)} {k:List Key} {v:V} (e:H a = some (.dT kvs)) (eb:H b = some (.tup (k.map kV))) (hl:kvs.length < sizeLine) :
  DPut H a (.ref b) v (upd H a (.dT (zfg kvs k v))):=.inr ⟨kvs,k,b,e,rfl,eb,hl,rfl⟩
section
variable {X:Cx} {zk:List (Addr × Obj)} {σ:St} {H:Hp} {s:Shared} {a:Addr} {y v:V} {u r:Value} {o:Option V} {A:Around} {E:Value->Shared->Prop}
theorem Inv.big (I:Inv X zk σ H s):sysModules < s.heap.objs.size:=by
 have h:mainGlobals < s.heap.objs.size:=(I.mod.glob.keeps I.bk).lt
 exact Nat.lt_trans (by decide) h
theorem zn2 {Q:Value->Shared->Prop} (hu:A.units + 1 < cLine) (I:Inv X zk σ H s) (g:DGet H a y (some v)) (ry:RelV y u) (h:∀ w' s',Inv X zk σ H s'->RelV v w'->Q w' s') :
  wpAny (model X.prog X.w) A (getItem (.ref a) u) Q E s:=by
 rcases g with ⟨kvs,k,e,ey,l⟩ | ⟨kvs,k,b,e,ey,eb,l⟩
 ·subst ey
  obtain ⟨z,hd,vs,rel,dd⟩:=zlm I.hok e
  obtain ⟨w',hw,rw'⟩:=RelO.some_of (v:=v) (o:=valueAt vs k) (by rw [l]; exact rel.val k)
  exact wpAny_getItem_of (zjF ry) dd.mapOf hw (h w' _ (I.tok _) rw')
 ·subst ey
  cases (show u = Value.ref b from ry)
  obtain ⟨z,hd,xs,rel,dd⟩:=zlH I.hok e
  obtain ⟨w',hw,rw'⟩:=RelO.some_of (v:=v) (o:=(atKey xs k).map (·.2)) (by rw [l]; exact rel.val k)
  obtain ⟨p,hp,hp2⟩:=Option.map_eq_some_iff.mp hw
  refine wpAny_getItem_heap (tupleKind_room_in1 hu) (zix I.hok eb) dd hp ?_
  rw [hp2]
  exact h w' _ (I.tok _) rw'
theorem zrR {Q:Value->Shared->Prop} (hu:A.units + 1 < cLine) (I:Inv X zk σ H s) (g:DGet H a y o) (ry:RelV y u) (h:∀ s',Inv X zk σ H s'->Q (.bool (!o.isSome)) s') :
  wpAny (model X.prog X.w) A (compareOp .NotIn u (.ref a)) Q E s:=by
 rcases g with ⟨kvs,k,e,ey,l⟩ | ⟨kvs,k,b,e,ey,eb,l⟩
 ·subst ey
  obtain ⟨z,hd,vs,rel,dd⟩:=zlm I.hok e
  refine wpAny_notIn_of (zjF ry) hd dd.mapOf ?_
  rw [<- (rel.val k).isSome_eq,<- l]
  exact h _ (I.tok _)
 ·subst ey
  cases (show u = Value.ref b from ry)
  obtain ⟨z,hd,xs,rel,dd⟩:=zlH I.hok e
  refine wpAny_notIn_heap (tupleKind_room_in1 hu) (zix I.hok eb) hd dd ?_
  have q:=(rel.val k).isSome_eq
  rw [Option.isSome_map] at q
  rw [<- q,<- l]
  exact h _ (I.tok _)
theorem zjS {h':Heap} {t':Nat} {ob:HO} (I:Inv X zk σ H s) (mu:Mut (H a)) (hs:Heap.SameBut a s.heap h') (he:∃ q,h'.get? a = some q) (new:ObjOk X.prog X.w (upd H a ob) h' a ob) :
  Inv X zk σ (upd H a ob) { s with heap:=h',toks:=t' } :=
 I.write (x:=a) (e:=a) mu (.inl rfl) (fun b q hb z=>(hs.2 b hb).trans z) he new
theorem zp7 {P:Program} {w:World} {H':Hp} {h':Heap} {kvs:List (Key × V)} {vs:List (Key × Value)} (z:kvs.length <= sizeLine) (hd:(a == sysModules) = false) (rel:KV kvs vs) (dd:h'.DictOf (zak P w) a vs) :
  ObjOk P w H' h' a (.dK kvs):=⟨z,hd,vs,rel,dd⟩
theorem zog {H':Hp} {Q:Unit->Shared->Prop} (hu:A.units + 1 < cLine) (I:Inv X zk σ H s) (g:DPut H a y v H') (ry:RelV y u) (rv:RelV v r) (h:∀ s',Inv X zk σ H' s'->Q () s') :
  wpAny (model X.prog X.w) A (setItem (.ref a) u r) Q E s:=by
 rcases g with ⟨kvs,k,e,ey,l,eH⟩ | ⟨kvs,k,b,e,ey,eb,l,eH⟩
 ·subst ey eH
  obtain ⟨z,hd,vs,rel,dd⟩:=zt4 I.hok e
  have hz:vs.length <= sizeLine:=by rw [<- rel.length]; exact z
  have hl:(zfg kvs k v).length <= sizeLine:=by have:=zei kvs k v; omega
  refine wpAny_setItem_pairs (hsz:=hz) (zjF ry) dd fun h' dd' hs=>h _ ?_
  have he:∃ q,h'.get? a = some q:=let ⟨q,_,_,hq,_⟩:=dd'; ⟨q,hq⟩
  exact zjS I (by rw [e]; exact True.intro) hs he (zp7 hl hd (rel.put k rv) dd')
 ·subst ey eH
  cases (show u = Value.ref b from ry)
  obtain ⟨z,hd,xs,rel,dd⟩:=zvs I.hok e
  have hz:xs.length <= sizeLine:=by rw [<- Paired.length rel]; exact z
  have hl:(zfg kvs k v).length <= sizeLine:=by have:=zei kvs k v; omega
  refine wpAny_setItem_heap (hsz:=hz) (tupleKind_room_in1 hu) (zix I.hok eb) dd fun h' dd' hs=>h _ ?_
  obtain ⟨q,es,ep,hq,h2,h3,h4,_,h5⟩:=dd'
  refine zjS I (by rw [e]; exact True.intro) hs ⟨q,hq⟩ ⟨hl,hd,_,(rel.put k eb rv).keeps fun c ys ec=>?_,q,es,ep,hq,h2,h3,h4,h5⟩
  rw [zO (zvx ec e (fun z=>nomatch z))]
  exact ec
end
def NoSl (i:Expr):Prop:=∀ ov iv,subscripted i false ov iv = operate [ov,iv] (getItem ov iv)
theorem zr2 {prog:Program} {w:World} {A:Around} {E:Value->Shared->Prop} {s:Shared} {env:Env} {value slice:Expr} {pos:Pos} {T id:String} {Q:Value->Shared->Prop}
  (hl:typeLookup (.type T) "__getitem__" = pure (some (.builtin id))) (hs:NoSl slice)
  (h:wpAny (model prog w) A (eval value env) (fun o s₁=>wpAny (model prog w) A (eval slice env) (fun i s₂=>s₂.TypeIs o T/\wpAny (model prog w) A (getItem o i) Q E s₂) E s₁) E s) :
  wpAny (model prog w) A (eval (.Subscript value slice pos) env) Q E s:=by
 refine Subscript_ (wpAny_mono h (fun o s₁ h₁=>wpAny_mono h₁ (fun i s₂ h₂=>?_) fun _ _ x=>x) fun _ _ x=>x)
 obtain ⟨hT,h₂⟩:=h₂
 unfold subscriptTail
 refine wpAny_bind ?_
 rw [getitemInPython_of_ne hT.not_modules]
 refine wpAny_bind (wpAny_specialOf hT hl ?_)
 have fin:wpAny (model prog w) A (subscripted slice false o i) (fun r s₃=>wpAny (model prog w) A (letTemporaryGo value o r >>= fun _=>pure r) Q E s₃) E s₂:=by
  rw [hs o i]
  exact wpAny_operating (wpAny_mono h₂ (fun r s₃ h₃=>wpAny_bind (wpAny_letTemporaryGo (wpAny_pure h₃))) fun _ _ x=>x)
 first
  | exact wpAny_pure (wpAny_bind fin)
  | exact wpAny_bind (wpAny_pure (wpAny_bind fin))
  | exact wpAny_bind fin
theorem zj1 {X:Cx} {zk:List (Addr × Obj)} {σ:St} {H:Hp} {s:Shared} {a:Addr} {y:V} {o:Option V} (I:Inv X zk σ H s) (g:DGet H a y o):s.TypeIs (.ref a) "dict":=by
 rcases g with ⟨kvs,k,e,_,_⟩ | ⟨kvs,k,b,e,_,_,_⟩
 ·obtain ⟨_,_,vs,_,dd⟩:=zlm I.hok e
  exact dd.typeIs
 ·obtain ⟨_,_,xs,_,dd⟩:=zlH I.hok e
  exact dd.typeIs
def ztH (td ty:TE):TE:=fun σ H Q=>td σ H fun x H1=>ty σ H1 fun y H2=>∃ a v,x = .ref a/\DGet H2 a y (some v)/\Q v H2
def zui (td ty tv:TE):TS:=fun D σ H=>tv σ H fun v H1=>td σ H1 fun x H2=>ty σ H2 fun y H3=>∃ a H4,x = .ref a/\DPut H3 a y v H4/\D.nx σ H4
section
variable {X:Cx} {o i e value:Expr} {pos pos' tpos:Pos} {td ty tv:TE}
theorem zmH (hu:X.A.units + 1 < cLine) (ho:PE X o td) (hi:PE X i ty) (hs:NoSl i):PE X (.Subscript o i pos) (ztH td ty):=by
 intro zk s σ H Q I h
 refine zr2 PySem.F.slot_dict_getitem.lookup hs (thn (ho zk s σ H _ I h) fun u s1 ⟨x,H1,I1,rx,q1⟩=>thn (hi zk s1 σ H1 _ I1 q1) fun iv s2 ⟨y,H2,I2,ry,a,v,ex,g,q2⟩=>?_)
 subst ex
 obtain rfl:u = Value.ref a:=rx
 exact ⟨zj1 I2 g,zn2 hu I2 g ry fun w' s3 I3 rw'=>⟨v,H2,I3,rw',q2⟩⟩
theorem zrt (hu:X.A.units + 1 < cLine) (ho:PE X o td) (hi:PE X i ty) (hv:PE X value tv) (hs:swapsWith value (some (.Subscript o i pos')) pos.line X.env = pure false) :
  PS X (.Assign [.Subscript o i pos'] value pos) (zui td ty tv):=by
 intro zk s σ H D I h
 refine wpAny_Assign_Subscript (thn (hv zk s σ H _ I h) fun r s1 ⟨v,H1,I1,rv,q1⟩=>thn (ho zk s1 σ H1 _ I1 q1) fun u s2 ⟨x,H2,I2,rx,q2⟩=>thn (hi zk s2 σ H2 _ I2 q2) fun iv s3 ⟨y,H3,I3,ry,a,H4,ex,g,q3⟩=>?_) hs
 subst ex
 obtain rfl:u = Value.ref a:=rx
 exact zog hu I3 g ry rv fun s4 I4=>⟨σ,H4,I4,q3⟩
end
theorem zkB {P:Program} {w:World} {H:Hp} (h:Heap) (hb:sysModules < h.objs.size):ObjOk P w H (h.push { cls:=.type "dict",data:=.dict #[] }) h.objs.size (.dK []) :=
 ⟨Nat.zero_le _,beq_eq_false_iff_ne.mpr (Ne.symm (Nat.ne_of_lt hb)),[],.nil,Heap.DictOf.new h⟩
def zn4:TE:=fun _ H Q=>∀ p,H p = none->Q (.ref p) (upd H p (.dK []))
section
variable {X:Cx} {pos:Pos}
theorem zkP:PE X (.Dict [] [] pos) zn4:=fun zk s σ H Q I h =>
 wpAny_Dict_empty ⟨.ref s.heap.objs.size,_,I.laid (a:=s.heap.objs.size) (o:=.dK []) (t':=s.toks) (fun _ _ q=>Heap.get?_push_of_some _ q) (Nat.le_refl _) (zkB s.heap I.big),rfl,h _ (I.hok.fresh (Nat.le_refl _))⟩
end
def zn0:List (TE × TE)->St->Hp->(List (V × V)->Hp->Prop)->Prop
 | [],_,H,Q=>Q [] H
 | (tk,tv) :: r,σ,H,Q=>tk σ H fun x H1=>tv σ H1 fun y H2=>zn0 r σ H2 fun ps H3=>Q ((x,y) :: ps) H3
abbrev VV:List (V × V)->List (Value × Value)->Prop:=Paired fun p q=>RelV p.1 q.1/\RelV p.2 q.2
def PPs (X:Cx) (pos:Pos) (keys:List (Option Expr)) (values:List Expr) (trs:List (TE × TE)):Prop :=
 ∀ (zk:List (Addr × Obj)) (s:Shared) (σ:St) (H:Hp) (Q:List (V × V)->Hp->Prop),Inv X zk σ H s->zn0 trs σ H Q ->
  wpAny (model X.prog X.w) X.A (evalPairs (pairTrees keys values X.env pos)) (fun vs s'=>∃ ps H',Inv X zk σ H' s'/\VV ps vs/\Q ps H') X.xe s
theorem zor {X:Cx} {pos:Pos}:PPs X pos [] [] []:=fun zk s σ H Q I h=>pairTrees_nil_walk ⟨[],H,I,.nil,h⟩
theorem zk4 {X:Cx} {pos:Pos} {k v:Expr} {ks:List (Option Expr)} {vs:List Expr} {tk tv:TE} {trs:List (TE × TE)} (hk:PE X k tk) (hv:PE X v tv) (hr:PPs X pos ks vs trs) :
  PPs X pos (some k :: ks) (v :: vs) ((tk,tv) :: trs):=fun zk s σ H Q I h =>
 pairTrees_cons_walk (thn (hk zk s σ H _ I h) fun u s1 ⟨x,H1,I1,rx,q1⟩=>thn (hv zk s1 σ H1 _ I1 q1) fun w2 s2 ⟨y,H2,I2,ry,q2⟩ =>
  thn (hr zk s2 σ H2 _ I2 q2) fun ws s3 ⟨ps,H3,I3,rel,q3⟩=>⟨(x,y) :: ps,H3,I3,.cons ⟨rx,ry⟩ rel,q3⟩)
def zfV (kvs more:List (Key × V)):List (Key × V):=more.foldl (fun acc kv=>zfg acc kv.1 kv.2) kvs
theorem KV.merge:∀ {more:List (Key × V)} {rs:List (Key × Value)} {kvs:List (Key × V)} {vs:List (Key × Value)},KV more rs->KV kvs vs->KV (zfV kvs more) (merged vs rs):=by
 intro more rs kvs vs r
 unfold KV at r
 induction r generalizing kvs vs with
 | nil=>intro q; exact q
 | @cons p q ps qs h t ih =>
  intro r0
  have e:KV (zfg kvs p.1 p.2) (stored vs q.1 q.2):=by
   have:=r0.put p.1 h.2
   rw [<- h.1]; exact this
  exact ih e
theorem zew:∀ (more kvs:List (Key × V)),(zfV kvs more).length <= kvs.length + more.length
 | [],kvs=>by show kvs.length <= kvs.length + 0; omega
 | p :: r,kvs=>by
  have h1:=zew r (zfg kvs p.1 p.2)
  have h2:=zei kvs p.1 p.2
  show (zfV (zfg kvs p.1 p.2) r).length <= _
  rw [List.length_cons]; omega
theorem zhi {P:Program} {w:World}:∀ {kvs:List (Key × V)} {ws:List (Value × Value)},VV (kvs.map fun kv=>(kV kv.1,kv.2)) ws->∃ rs,Carries (zak P w) ws rs/\KV kvs rs
 | [],_,r=>by rw [List.map_nil] at r; cases r; exact ⟨[],True.intro,.nil⟩
 | p :: kvs,_,r=>by
  rw [List.map_cons] at r
  cases r with
  | @cons a b as bs h t =>
   obtain ⟨rs,c,q⟩:=zhi (P:=P) (w:=w) t
   obtain ⟨b1,b2⟩:=b
   exact ⟨(p.1,b2) :: rs,⟨zjF h.1,rfl,c⟩,.cons ⟨rfl,h.2⟩ q⟩
def zsL (trs:List (TE × TE)):TE:=fun σ H Q=>∀ p,H p = none->zn0 trs σ (upd H p (.dK [])) fun ps H2=>H2 p = some (.dK [])/\∃ kvs:List (Key × V),ps = kvs.map (fun kv=>(kV kv.1,kv.2))/\kvs.length <= 15/\Q (.ref p) (upd H2 p (.dK (zfV [] kvs)))
theorem znV {X:Cx} {pos:Pos} {keys:List (Option Expr)} {values:List Expr} {trs:List (TE × TE)} (h:PPs X pos keys values trs) (hall:keys.all (·.isSome) = true) (hl:keys.length = values.length) (h0:keys ≠ [])
  (h15:keys.length <= 15):PE X (.Dict keys values pos) (zsL trs):=by
 intro zk s σ H Q I q
 have hn:=I.hok.fresh (Nat.le_refl s.heap.objs.size)
 have I1:=I.laid (a:=s.heap.objs.size) (o:=.dK []) (h':=s.heap.push { cls:=.type "dict",data:=.dict #[] }) (t':=s.toks) (fun _ _ q=>Heap.get?_push_of_some _ q) (Nat.le_refl _) (zkB s.heap I.big)
 refine wpAny_Dict_walk (knd:=zak X.prog X.w) hall hl h0 h15 (thn (h zk _ σ _ _ I1 (q _ hn)) fun ws s2 ⟨ps,H2,I2,rel,e,kvs,ep,lk,q2⟩=>?_)
 subst ep
 obtain ⟨rs,c,rk⟩:=zhi (P:=X.prog) (w:=X.w) rel
 obtain ⟨z,hd,vs0,r0,dd⟩:=zt4 I2.hok e
 cases r0
 refine ⟨rs,c,dd,fun h' dd' hs=>⟨.ref s.heap.objs.size,_,?_,rfl,q2⟩⟩
 have hz:(zfV [] kvs).length <= sizeLine:=by
  have h1:=zew kvs []
  rw [List.length_nil] at h1
  rw [sizeLine_eq]; omega
 have he:∃ q,h'.get? s.heap.objs.size = some q:=let ⟨q,_,_,hq,_⟩:=dd'; ⟨q,hq⟩
 exact zjS I2 (by rw [e]; exact True.intro) hs he (zp7 hz hd (rk.merge .nil) dd')
structure M1 (X:Cx) (o:Expr) (m:Str) (apos:Pos) (e:Expr) (cpos:Pos):Prop where
 base:attributeBase o m X.env (eval o X.env) = eval o X.env
 few:((backTo cpos (starEach [e] X.env)).all (fun x=>!x.1) && (backToKw cpos (keywordEach [] X.env)).all (fun x=>x.1.isSome)
  && decide (([e]:List Expr).length + ([]:List Keyword).length + (if ([]:List Keyword).isEmpty then 0 else 1) < 30)) = true
 line:(apos.endLine == cpos.line) = true
 trees:backTo cpos (starEach [e] X.env) = [(false,eval e X.env)]
structure M2 (X:Cx) (o:Expr) (m:Str) (apos:Pos) (e f:Expr) (cpos:Pos):Prop where
 base:attributeBase o m X.env (eval o X.env) = eval o X.env
 few:((backTo cpos (starEach [e,f] X.env)).all (fun x=>!x.1) && (backToKw cpos (keywordEach [] X.env)).all (fun x=>x.1.isSome)
  && decide (([e,f]:List Expr).length + ([]:List Keyword).length + (if ([]:List Keyword).isEmpty then 0 else 1) < 30)) = true
 line:(apos.endLine == cpos.line) = true
 trees:backTo cpos (starEach [e,f] X.env) = [(false,eval e X.env),(false,eval f X.env)]
def IsD (H:Hp) (a:Addr):Prop:=(∃ kvs,Rd H a (.dK kvs))\/∃ kvs,Rd H a (.dT kvs)
theorem zt2 {X:Cx} {zk:List (Addr × Obj)} {σ:St} {H:Hp} {s:Shared} {a:Addr} (I:Inv X zk σ H s) (d:IsD H a) :
  s.TypeIs (.ref a) "dict"/\(∀ b,Value.ref a = .ref b->∃ ob,s.heap.get? b = some ob/\ob.dict = none)/\(a == sysModules) = false:=by
 rcases d with ⟨kvs,e⟩ | ⟨kvs,e⟩
 ·obtain ⟨_,hd,vs,_,dd⟩:=zlm I.hok e
  refine ⟨dd.typeIs,fun b q=>?_,hd⟩
  cases q
  obtain ⟨ob,_,_,h1,h2,_⟩:=dd
  exact ⟨ob,h1,h2.2.1⟩
 ·obtain ⟨_,hd,xs,_,dd⟩:=zlH I.hok e
  refine ⟨dd.typeIs,fun b q=>?_,hd⟩
  cases q
  obtain ⟨ob,_,_,h1,h2,_⟩:=dd
  exact ⟨ob,h1,h2.2.1⟩
section
variable {X:Cx} {zk:List (Addr × Obj)} {σ:St} {H:Hp} {s:Shared} {a:Addr} {y d:V} {u r:Value} {o:Option V} {A:Around} {E:Value->Shared->Prop}
theorem ztZ {Q:Value->Shared->Prop} (hu:A.units + 1 < cLine) (I:Inv X zk σ H s) (g:DGet H a y o) (ry:RelV y u) (rd:RelV d r) (h:∀ w' s',Inv X zk σ H s'->RelV (o.getD d) w'->Q w' s') :
  wpAny (model X.prog X.w) A (call (.builtin "dict.get") [.ref a,u,r]) Q E s:=by
 rcases g with ⟨kvs,k,e,ey,l⟩ | ⟨kvs,k,b,e,ey,eb,l⟩
 ·subst ey
  obtain ⟨z,hd,vs,rel,dd⟩:=zlm I.hok e
  refine call_meetsIn PySem.F.slot_dict_get dd.typeIs PySem.F.entry_dict_get (PySem.F.args_dict_get_3 _ _ _) (meets_dict_get_default (zak X.prog X.w) a (zjF ry) hd r) ⟨_,dd.mapOf,h _ _ (I.tok _) ?_⟩
  rw [l]
  exact (rel.val k).getD rd
 ·subst ey
  cases (show u = Value.ref b from ry)
  obtain ⟨z,hd,xs,rel,dd⟩:=zlH I.hok e
  refine call_meetsIn PySem.F.slot_dict_get dd.typeIs PySem.F.entry_dict_get (PySem.F.args_dict_get_3 _ _ _) (meetsH_dict_get_default (tupleKind (zak X.prog X.w)) a b hd r) ⟨tupleKind_room_in1 hu,k,xs,zix I.hok eb,dd,h _ _ (I.tok _) ?_⟩
  rw [l]
  exact (rel.val k).getD rd
end
def zqF (td ty tx:TE):TE:=fun σ H Q=>td σ H fun x H1=>∃ a,x = .ref a/\IsD H1 a/\ty σ H1 fun y H2=>tx σ H2 fun z H3=>∃ o,DGet H3 a y o/\Q (o.getD z) H3
section
variable {X:Cx} {o e f:Expr} {apos cpos:Pos} {td ty tx:TE}
theorem zh9 (hu:X.A.units + 1 < cLine) (ho:PE X o td) (he:PE X e ty) (hf:PE X f tx) (m:M2 X o "get" apos e f cpos):PE X (.Call (.Attribute o "get" apos) [e,f] [] cpos) (zqF td ty tx):=by
 intro zk s σ H Q I h
 refine wpAny_Call_method m.base m.few m.line PySem.F.plainAttrs_dict PySem.F.slot_dict_get PySem.F.type_dict_get (thn (ho zk s σ H _ I h) fun u s1 ⟨x,H1,I1,rx,a,ex,d,q1⟩=>?_)
 subst ex
 obtain rfl:u = Value.ref a:=rx
 obtain ⟨t1,t2,_⟩:=zt2 I1 d
 refine ⟨t1,t2,?_⟩
 rw [m.trees]
 refine Calls.callWith_builtin rfl (Calls.evalArgs_plain (Calls.spliced_cons (thn (he zk s1 σ H1 _ I1 q1) fun iv s2 ⟨y,H2,I2,ry,q2⟩ =>
  Calls.spliced_cons (thn (hf zk s2 σ H2 _ I2 q2) fun fv s3 ⟨z,H3,I3,rz,ov,g,q3⟩=>Calls.spliced_nil ?_))))
 exact ztZ hu I3 g ry rz fun w' s4 I4 rw'=>⟨_,H3,I4,rw',q3⟩
end
end
end L2
namespace Att
open PySem PySem.W PySem.Calls PyProof.Rows
theorem zfP {P:Params} {h:Heap}:∀ (ns:List Int) (vs:List Value),WellAll P h vs (ns.map WData.int)->IntsAre vs ns:=by
 intro ns
 induction ns with
 | nil =>
  intro vs w
  rw [List.map_nil] at w
  cases w
  exact .nil
 | cons n ns ih =>
  intro vs w
  rw [List.map_cons] at w
  cases w with
  | cons a b =>
   cases a
   exact .cons _ _ (ih _ b)
theorem zmd {l:OpenLaw} {n:Nat} (hn:l.most = some n) {P:Params} {h:Heap} {args:List WData} {vals:List Value}
  (hpre:l.row.toRowW.claim.pre args = true) (hwl:WellAll P h vals args) :
  ∃ a vs ns,vals = [Value.ref a]/\args = [WData.list (ns.map WData.int)]/\h.get? a = some { cls:=.type "list",data:=.seq vs.toArray }/\IntsAre vs ns/\ns.length <= n:=by
 have hsh:WShape.hasAll [] args [.list .int] = true:=(pre_splitW hpre).1
 have hc:l.pre.holds [] { args:=args } = true:=(pre_splitW hpre).2
 obtain ⟨d,r,rfl,h1,h2⟩:=hasAllW_cons hsh
 obtain rfl:=hasAllW_nil h2
 obtain ⟨xs,rfl,h3⟩:=hasW_list h1
 obtain ⟨ns,rfl⟩:=items_int h3
 have hlen:ns.length <= n:=by
  unfold OpenLaw.pre at hc
  have h4:(WTm.not (.lt (.lit (.int (n:Int))) (.len (.arg 0)))).holds [] { args:=[.list (ns.map .int)] } = true:=by
   have h4:=(holds_andW hc).1
   rw [hn] at h4
   exact h4
  have h5:=condW_of h4 (w_not (w_lt w_lit (w_len_list (w_arg rfl))))
  rw [List.length_map] at h5
  refine Nat.le_of_not_lt fun q=>?_
  have q':(n:Int) < ((ns.length:Nat):Int):=by omega
  first
   | (rw [decide_eq_true q'] at h5; exact absurd h5 (by decide))
   | (simp at h5; omega)
 cases hwl with
 | cons w1 w2 =>
  cases w2
  cases w1 with
  | list ho hall=>exact ⟨_,_,ns,rfl,rfl,ho,zfP ns _ hall,hlen⟩
theorem znT (l:OpenLaw) (args:List WData):l.row.toRowW.claim.post args (.bool true) args = true :=
 postW_of (r:=l.row.toRowW) (X:=(true == true))
  (show WShape.has [] (.bool true) .bool = true by first | rfl | decide | simp [WShape.has,WShape.arms,WShape.armsAll])
  (show (WTm.eq .res (.lit (.bool true))).value [] { args:=args,res:=some (.bool true),after:=args } = some (.bool (true == true)) from w_eq_bool (w_res rfl) w_lit) rfl
theorem attach_call {l:OpenLaw} {n:Nat} {q:Program} {loose:List Str} {XP:(Str->Option Value)->Heap->Prop} {YP:World->Heap->Prop} {d:DefRec}
  (hn:l.most = some n) (hdf:d.params.defaults = [])
  (call:∀ (w:World) (s₀ s₁:Shared) (mg mb:Str->Option Value) (fa:Addr) (o:Obj) (pm cd doc:Value) (a:Addr) (vs:List Value) (ns:List Int),
   Ground q loose [] XP w s₀ mg mb s₁.heap->YP w s₁.heap ->
   s₁.heap.get? fa = some o->o.data = .func (docDef d.name d.params d.body d.scope pm cd doc)->s₁.heap.CodeRec cd d.name->mg d.name = some (.ref fa) ->
   s₁.heap.get? a = some { cls:=.type "list",data:=.seq vs.toArray }->IntsAre vs ns->ns.length <= n->s₁.gens = #[] ->
   codeAny (model l.prog w) callerA (.call (.ref fa) ⟨[.ref a],[]⟩) (fun r s'=>r = .ok (.ret (.bool true))/\OldK s₁.heap s'.heap/\s'.os = s₁.os/\AllBare s'.gens) s₁) :
  WalkO q loose XP YP l.row.toRowW d [] (fun f vs=>PySem.call f vs):=by
 intro w s₀ s₁ mg mb G Y fa o pm cd doc dV kV ho hd hcd hD hmg hg args vals as hpre hlay hrd hwl hlo
 obtain rfl:dV = .none:=Dflts.none hD hdf
 obtain rfl:kV = .none:=Dflts.noKw hD
 obtain ⟨a,vs,ns,rfl,rfl,hobj,hints,hlen⟩:=zmd hn hpre hwl
 refine enter_call (codeAny_mono (call w s₀ s₁ mg mb fa o pm cd doc a vs ns G Y ho (fd_plain hd) hcd hmg hobj hints hlen hg) fun r s' hq=>?_)
 obtain ⟨rfl,h2,h3,h4⟩:=hq
 exact ⟨.inl ⟨.bool true,.bool true,[],rfl,fun _=>rfl,.bool true,znT l _,fun _=>⟨List.Pairwise.nil,fun _ hm=>(nomatch hm)⟩⟩,h2,h3,h4⟩
end Att
namespace L2
open PySem PySem.Spec PyProof.Rows
section
theorem ziZ:∀ {vs:List Value} {ns:List Int},IntsAre vs ns->Vals (ns.map V.int) vs
 | _,_,.nil=>.nil
 | _,_,.cons n t h=>.cons ⟨t,rfl⟩ (ziZ h)
def Only (H:Hp):Prop:=∀ b,H b = none\/∃ o xs,H b = some (.frz o (.lst xs))
theorem zpk {P:Program} {w:World} {K:W.Frag} {mg mb:Str->Option Value} {CX:CXT} {k:Nat} {fa a:Addr} {fd:FuncData} {x:Str} {sp:Sp} {s₁:Shared} {vs:List Value} {ns:List Int}
  (KX:K.In s₁.heap) (hns:s₁.heap.Ns mainGlobals mg) (hb:s₁.heap.Ns builtinsNs mb) (hbb:∀ x:Str,x ≠ "__name__"->mb x = bootBuiltins x) (hlim:s₁.heap.NoLimit) (hg:s₁.gens = #[])
  (ha:s₁.heap.get? a = some { cls:=.type "list",data:=.seq vs.toArray }) (hi:IntsAre vs ns) (hl:ns.length <= sizeLine) (hr:Room k callerA)
  (F:∀ base:Heap,K.In base->base.Ns mainGlobals mg->FnOk P w K mg base CX k fa fd [x] sp) (hbind:∀ (s:Shared) (u:Value),BindsTo s fd ⟨[u],[]⟩ [(x,u)])
  (hsp:∀ H:Hp,Only H->SqL K H a (ns.map V.int)->sp [.ref a] H (fun v _=>v = .bl true) fun _ _ _=>False)
  (hCX:∀ H e s',CX [] H s₁ (fun _ _ _=>False) e s'->False) :
  codeAny (model P w) callerA (.call (.ref fa) ⟨[.ref a],[]⟩) (fun r s'=>r = .ok (.ret (.bool true))/\OldK s₁.heap s'.heap/\s'.os = s₁.os/\AllBare s'.gens) s₁:=by
 have rv:=ziZ hi
 have lenV:=hi.length
 -- from an abstract heap in which nothing but the script may be tracked
 have core:∀ H:Hp,Only H->SqL K H a (ns.map V.int)->HOk P w H s₁.heap->(∀ b,H b ≠ none->b = a)->(H a ≠ none->K.lookup a = none) ->
   codeAny (model P w) callerA (.call (.ref fa) ⟨[.ref a],[]⟩) (fun r s'=>r = .ok (.ret (.bool true))/\OldK s₁.heap s'.heap/\s'.os = s₁.os/\AllBare s'.gens) s₁:=by
  intro H hO hS hok hA hK
  have base_of:∀ {b:Addr} {o:Obj},s₁.heap.get? b = some o->H b = none->(zpu s₁.heap H).get? b = some o:=fun e n=>zpv e n
  have noA:∀ {b:Addr} {o:Obj} {es:Array DictEntry} {ep:Nat},s₁.heap.get? b = some o->o.data = .dict es ep->H b = none:=fun {b o es ep} e d=>by
   cases q:H b with
   | none=>rfl
   | some u =>
    have e':b = a:=hA b (by rw [q]; simp)
    subst e'
    rw [ha] at e; cases e
    have d':Data.seq vs.toArray _ = Data.dict es ep:=d
    cases d'
  have nsK:∀ {b:Addr} {m:Str->Option Value},s₁.heap.Ns b m->(zpu s₁.heap H).Ns b m:=fun {b m} ⟨o,es,ep,e,d,r⟩=>⟨o,es,ep,base_of e (noA e d),d,r⟩
  have hKb:K.In (zpu s₁.heap H):=fun b o e=>base_of (KX b o e) (by
   cases q:H b with
   | none=>rfl
   | some u =>
    have e':b = a:=hA b (by rw [q]; simp)
    subst e'
    rw [hK (by rw [q]; simp)] at e; cases e)
  have hM:Mod K mg (zpu s₁.heap H):=⟨hKb,nsK hns,⟨mb,nsK hb,hbb⟩,let ⟨mc,h1,h2⟩:=hlim; ⟨mc,nsK h1,h2⟩⟩
  have e0:Env0 P w K mg (zpu s₁.heap H) callerA [] s₁ H:=⟨rfl,hM,fun b o e=>zre e,Nat.le_of_eq (zn6 _ _),trivial,fun b hb=>absurd (show b ∈ ([]:List Addr) from hb) (by simp),hok,.of_eq hg⟩
  refine codeAny_mono ((F _ hKb (nsK hns)).run callerA [] s₁ H ⟨[.ref a],[]⟩ [.ref a] [.ref a] _ _ hr e0 (hbind s₁ (.ref a)) (.cons rfl .nil) (hsp H hO hS)) fun r s' h=>?_
  cases r with
  | error e=>exact (hCX H e s' h).elim
  | ok fl =>
   cases fl with
   | next=>exact False.elim h
   | brk=>exact False.elim h
   | cont=>exact False.elim h
   | ret u =>
    obtain ⟨v,H',os,bare,un,hok',r',q⟩:=h
    have q':v = .bl true:=q
    subst q'
    obtain rfl:u = Value.bool true:=r'
    refine ⟨rfl,OldK.of_keep fun b o e=>?_,os,bare⟩
    cases q:H b with
    | none=>exact un.keep b o e q (by intro z; exact absurd (show b ∈ ([]:List Addr) from z) (by simp)) (by simp)
    | some u =>
     rcases hO b with z | ⟨ob,xs,z⟩
     ·rw [q] at z; cases z
     ·have z2:=un.frzs b ob _ z
      obtain ⟨e1,_⟩:=hok b _ z
      obtain ⟨e2,_⟩:=hok' b _ z2
      rw [e] at e1; cases e1
      exact e2
 cases hk:K.lookup a with
 | some o =>
  -- the script is one of the module's own objects
  have e:=KX a o hk
  rw [ha] at e
  cases e
  refine core (fun _=>none) (fun _=>.inl rfl) (.inr ⟨_,vs.toArray,_,hk,rfl,rfl,rfl,by rw [List.size_toArray,lenV]; exact hl,by simpa using rv⟩) (fun b u z=>by have z':(none:Option HO) = some u:=z; cases z') (fun b z=>absurd rfl z) fun z=>absurd rfl z
 | none =>
  refine core (fun b=>if b = a then some (.frz { cls:=.type "list",data:=.seq vs.toArray } (.lst (ns.map V.int))) else none) (fun b=>?_) (.inl (.inr ⟨{ cls:=.type "list",data:=.seq vs.toArray },if_pos rfl⟩)) (fun b u z=>?_) (fun b z=>?_) fun _=>hk
  ·by_cases hb:b = a
   ·exact .inr ⟨_,_,if_pos hb⟩
   ·exact .inl (if_neg hb)
  ·by_cases hb:b = a
   ·have z':=(if_pos hb).symm.trans z
    cases z'
    subst hb
    exact ⟨ha,by rw [List.length_map]; exact hl,vs,_,rv,ha⟩
   ·have z':=(if_neg hb).symm.trans z
    cases z'
  ·by_cases hb:b = a
   ·exact hb
   ·exact absurd (if_neg hb) z
end
section
abbrev KOf {K:W.Frag} {h:Heap} (_:K.In h):W.Frag:=K
theorem walk_of {l:PySem.W.OpenLaw} {n k:Nat} {q:Program} {loose:List Str} {XP:(Str->Option Value)->Heap->Prop} {YP:World->Heap->Prop} {d:DefRec} {K:Params->W.Frag} {CX:World->CXT} {sp:World->Sp} {x:Str}
  (hn:l.most = some n) (hn2:n <= sizeLine) (hdf:d.params.defaults = []) (hr:Room k callerA)
  (hY:∀ (w:World) (h:Heap),YP w h->(K w.params).In h)
  (F:∀ (w:World) (mg:Str->Option Value) (fa:Addr) (h:Heap),(K w.params).In h->h.Ns mainGlobals mg->mg d.name = some (.ref fa) ->
   ∃ fd:FuncData,(∀ (s:Shared) (u:Value),BindsTo s fd ⟨[u],[]⟩ [(x,u)]) /\
    ∀ base:Heap,(K w.params).In base->base.Ns mainGlobals mg->FnOk l.prog w (K w.params) mg base (CX w) k fa fd [x] (sp w))
  (hsp:∀ (w:World) (H:Hp) (a:Addr) (ns:List Int),ns.length <= n->Only H->SqL (K w.params) H a (ns.map V.int)->sp w [.ref a] H (fun v _=>v = .bl true) fun _ _ _=>False)
  (hCX:∀ (w:World) (H:Hp) (s:Shared) (e:Value) (s':Shared),CX w [] H s (fun _ _ _=>False) e s'->False) :
  PySem.W.WalkO q loose XP YP l.row.toRowW d [] (fun f vs=>PySem.call f vs):=by
 refine Att.attach_call hn hdf fun w s₀ s₁ mg mb fa o pm cd doc a vs ns G Y ho hd hcd hmg hobj hints hlen hg=>?_
 have KX:=hY w _ Y
 obtain ⟨fd,hb,hF⟩:=F w mg fa _ KX G.T.g hmg
 exact zpk KX G.T.g G.T.b G.T.builtins G.T.nolimit hg hobj hints (Nat.le_trans hlen hn2) hr hF hb (fun H hO hS=>hsp w H a ns hlen hO hS) fun H e s'=>hCX w H s₁ e s'
end
section
def zr5 (s:Stmt) (j:Nat):Stmt:=match s with
 | .ClassDef _ _ _ body _ _ _ _ _ _ _=>body.getD j (.Pass ⟨0,0,0,0⟩)
 | _=>.Pass ⟨0,0,0,0⟩
def zc6 (s:Stmt):Arguments:=match s with
 | .FunctionDef _ a _ _ _ _ _ _ _ _=>a
 | _=>{ posonlyargs:=[],args:=[],vararg:=none,kwonlyargs:=[],kw_defaults:=[],kwarg:=none,defaults:=[] }
def zba (s:Stmt):List Stmt:=match s with
 | .FunctionDef _ _ b _ _ _ _ _ _ _=>b
 | _=>[]
def zp (s:Stmt):Scope:=match s with
 | .FunctionDef _ _ _ _ _ _ sc _ _ _=>sc
 | _=>{ kind:=.function,names:=[],isGenerator:=false,isCoroutine:=false }
abbrev CX0:CXT:=fun _ _ _ _ _ _=>False
abbrev E0:XK:=fun _ _ _=>False
theorem pass0 {X:Cx}:Passes CX0 X E0:=fun _ _ _ _ _ _ _ h=>h.elim
structure Fun (K:W.Frag) (x qual:Str) (st:Stmt) (f:Addr) (fd:FuncData):Prop where
 ex:∃ (oc:Value) (od:Option Addr) (kV doc pm:Value) (an:Option Addr) (cdv ct:Value) (osl:Array (Option Value)),
  fd = PySem.W.fnOf x qual (zc6 st) (zba st) (zp st) .none kV doc pm an cdv ct/\K.lookup f = some ⟨oc,od,.func fd,osl⟩/\PySem.W.codeIn K cdv qual = true
 kp:PySem.W.keepIn K (.ref f) = true
section
variable {P:Program} {w:World} {K:W.Frag} {mg:Str->Option Value} {base:Heap}
theorem Fun.ok {x qual:Str} {st:Stmt} {f:Addr} {fd:FuncData} {N ps:List Str} {k:Nat} {sp:Sp} (F:Fun K x qual st f fd) (S:FnScope N ps (zp st)) (len:∀ vs H Q E,sp vs H Q E->vs.length = ps.length)
  (hbody:∀ (cdv:Value) (A:Around) (outer:List Env) (s:Shared) (H:Hp) (vs:List V) (Q:VK) (E:XK),Room k (A.deeper (envOfC qual (zp st) s.heap.objs.size f cdv))->sp vs H Q E ->
   ∃ t,PSs (zhc CX0 P w K mg base N qual (zp st) f cdv A outer s H E).nox (zba st) t/\t { nx:=fun _ H'=>Q .non H',rt:=Q } (start N vs) H):FnOk P w K mg base CX0 (k + 1) f fd ps sp:=by
 obtain ⟨oc,od,kV,doc,pm,an,cdv,ct,osl,rfl,lk,hcd⟩:=F.ex
 refine zuh lk hcd S len fun A outer s H vs Q E hr hsp=>?_
 obtain ⟨t,h,q⟩:=hbody cdv A outer s H vs Q E hr hsp
 exact ⟨t,h.nox,q⟩
theorem Fun.binds {x qual:Str} {st:Stmt} {f:Addr} {fd:FuncData} {ps:List Str} (F:Fun K x qual st f fd)
  (h:∀ (kV doc pm:Value) (an:Option Addr) (cdv ct:Value) (us:List Value),us.length = ps.length->bindArgs (PySem.W.fnOf x qual (zc6 st) (zba st) (zp st) .none kV doc pm an cdv ct) ⟨us,[]⟩ = pure (ps.zip us)):Binds K fd ps []:=by
 obtain ⟨oc,od,kV,doc,pm,an,cdv,ct,osl,rfl,lk,hcd⟩:=F.ex
 exact .all (h kV doc pm an cdv ct)
theorem zkD {x qual:Str} {st:Stmt} {f:Addr} {oc:Value} {od an:Option Addr} {osl:Array (Option Value)} {kV doc pm cdv ct:Value} (l:K.lookup f = some ⟨oc,od,.func (PySem.W.fnOf x qual (zc6 st) (zba st) (zp st) .none kV doc pm an cdv ct),osl⟩)
  (c:PySem.W.codeIn K cdv qual = true) (k:PySem.W.keepIn K (.ref f) = true):Fun K x qual st f (PySem.W.fnOf x qual (zc6 st) (zba st) (zp st) .none kV doc pm an cdv ct):=⟨⟨oc,od,kV,doc,pm,an,cdv,ct,osl,rfl,l,c⟩,k⟩
end
theorem zlq {A:Around} {k:Nat} (hr:Room k A):A.units + 1 < cLine:=Nat.lt_of_le_of_lt (Nat.add_le_add_left (by decide:1 <= 64) _) hr.units
theorem small1000 {n:Nat} (h:n <= 1000):n < sizeLine:=Nat.lt_of_le_of_lt h (by decide)
section
variable {X:Cx}
theorem pv (i:Nat) {x:Str} {pos:Pos} (hN:X.N[i]? = some x:=by rfl) (hv:Vis X.env.scope x:=by first | exact Or.inl rfl | exact Or.inr (Or.inl rfl) | exact Or.inr (Or.inr rfl)) (hd:(x == ("__debug__":Str)) = false:=by decide)
  (hcd:(x == ("__classdict__":Str)) = false:=by decide):PE X (.Name x pos) (zkn i):=zuO hN hv hd hcd
end
theorem zq1 {A B:Prop} (h:B):if false = true then A else B:=by
 rw [if_neg Bool.false_ne_true]
 exact h
theorem zqi {A B:Prop} (h:A):if true = true then A else B:=by
 rw [if_pos rfl]
 exact h
theorem ite2 {c A B:Prop} [Decidable c] (h1:c->A) (h2:¬ c->B):if c then A else B:=by
 by_cases h:c
 ·rw [if_pos h]
  exact h1 h
 ·rw [if_neg h]
  exact h2 h
def Same (H H':Hp):Prop:=∀ b o,H b = some o->H' b = some o
theorem Same.refl (H:Hp):Same H H:=fun _ _ h=>h
theorem Same.trans {H H1 H2:Hp} (a:Same H H1) (b:Same H1 H2):Same H H2:=fun c o h=>b c o (a c o h)
theorem Same.seq {K:W.Frag} {H H':Hp} {a:Addr} {xs:List V} (e:Same H H') (h:SqL K H a xs):SqL K H' a xs:=by
 rcases h with (h | ⟨o,h⟩) | h
 ·exact .inl (.inl (e _ _ h))
 ·exact .inl (.inr ⟨o,e _ _ h⟩)
 ·exact .inr h
end
section
section
variable {X:Cx}
def CDivX (i j:Int):Prop:=0 < j/\j.natAbs.log2 < 9000
theorem zoF:OpR X (binaryOp .FloorDiv) (rI CDivX fun i j=>.int (i / j)):=opI fun i j _ _ _ _ _ hc q=>by
 have h1:(0:Int) < j:=hc.1
 exact floordiv_int (by omega) (by rw [Int.fdiv_eq_ediv_of_nonneg i (by omega)]; exact q) (.inl (PyProof.noPylong_of_log2 hc.2))
theorem zrf:OpR X (binaryOp .Mult) (rI IntMulOk fun i j=>.int (i * j)):=opI fun _ _ _ _ _ _ _ hc q=>mul_int q hc
theorem zmL {k:Int} {n:Nat} (h:k.natAbs < 2 ^ n):Builtin.Int.intBits k <= n:=by
 unfold Builtin.Int.intBits
 split
 ·exact Nat.zero_le _
 ·rename_i h0
  have hk:k.natAbs ≠ 0:=by
   intro z
   apply h0
   rw [Int.natAbs_eq_zero.mp z]
   rfl
  have:=(Nat.log2_lt hk).mpr h
  omega
theorem zrF {i j:Int} (n m:Nat) (hi:i.natAbs < 2 ^ n) (hj:j.natAbs < 2 ^ m) (hn:n <= 2 ^ 20:=by decide) (hm:m <= 2 ^ 20:=by decide):IntMulOk i j :=
 .of_bits (Nat.le_trans (zmL hi) hn) (Nat.le_trans (zmL hj) hm)
theorem zcE {i j:Int} (h1:-(2 ^ 64) < i) (h2:i < 2 ^ 64):IntMulOk i j:=.of_left (intBits_le_64 h1 h2)
theorem zpY {i j:Int} (h1:-(2 ^ 64) < j) (h2:j < 2 ^ 64):IntMulOk i j:=.of_right (intBits_le_64 h1 h2)
theorem zcP {n:Int} {k:Nat} (h0:0 < n) (h:n < 2 ^ k):n.natAbs.log2 < k:=by
 refine (Nat.log2_lt (by omega)).mpr ?_
 have e:((2 ^ k:Nat):Int) = (2:Int) ^ k:=by simp
 omega
end
def kD:Key->PyData
 | .inl i=>.int i
 | .inr x=>.str x
def DOf (H:Hp) (a:Addr) (ks:List PyData) (vs:List V):Prop:=∃ (ob:Obj) (m:List (Key × V)),H a = some (.frz ob (.dK m))/\ks = m.map (fun p=>kD p.1)/\vs = m.map (·.2)
mutual
def Has (H:Hp):PyData->V->Prop
 | .none,v=>v = .non
 | .bool b,v=>v = .bl b
 | .int i,v=>v = .int i
 | .str x,v=>v = .str x
 | .list ds,v=>∃ a vs,v = .ref a/\H a = some (.lst vs)/\HasL H ds vs
 | .tuple ds,v=>∃ a vs,v = .ref a/\H a = some (.tup vs)/\HasL H ds vs
 | .dict kvs,v=>∃ a vs,v = .ref a/\DOf H a (kvs.map (·.1)) vs/\HasV H kvs vs
def HasL (H:Hp):List PyData->List V->Prop
 | [],vs=>vs = []
 | d :: ds,vs=>∃ v r,vs = v :: r/\Has H d v/\HasL H ds r
def HasV (H:Hp):List (PyData × PyData)->List V->Prop
 | [],vs=>vs = []
 | p :: ps,vs=>∃ v r,vs = v :: r/\HasP H p v/\HasV H ps r
def HasP (H:Hp):PyData × PyData->V->Prop
 | (_,d),v=>Has H d v
end
mutual
theorem Has.mono {H H':Hp} (s:Same H H'):∀ (d:PyData) (v:V),Has H d v->Has H' d v
 | .none,_,h=>by simp only [Has] at h ⊢; exact h
 | .bool _,_,h=>by simp only [Has] at h ⊢; exact h
 | .int _,_,h=>by simp only [Has] at h ⊢; exact h
 | .str _,_,h=>by simp only [Has] at h ⊢; exact h
 | .list ds,v,h=>by
  simp only [Has] at h ⊢
  obtain ⟨a,vs,e,q,l⟩:=h
  exact ⟨a,vs,e,s _ _ q,HasL.mono s ds vs l⟩
 | .tuple ds,v,h=>by
  simp only [Has] at h ⊢
  obtain ⟨a,vs,e,q,l⟩:=h
  exact ⟨a,vs,e,s _ _ q,HasL.mono s ds vs l⟩
 | .dict kvs,v,h=>by
  simp only [Has] at h ⊢
  obtain ⟨a,vs,e,q,l⟩:=h
  obtain ⟨ob,m,e1,e2⟩:=q
  exact ⟨a,vs,e,⟨ob,m,s _ _ e1,e2⟩,HasV.mono s kvs vs l⟩
theorem HasL.mono {H H':Hp} (s:Same H H'):∀ (ds:List PyData) (vs:List V),HasL H ds vs->HasL H' ds vs
 | [],_,h=>by simp only [HasL] at h ⊢; exact h
 | d :: ds,vs,h=>by
  simp only [HasL] at h ⊢
  obtain ⟨v,r,e,q,l⟩:=h
  exact ⟨v,r,e,Has.mono s d v q,HasL.mono s ds r l⟩
theorem HasV.mono {H H':Hp} (s:Same H H'):∀ (ds:List (PyData × PyData)) (vs:List V),HasV H ds vs->HasV H' ds vs
 | [],_,h=>by simp only [HasV] at h ⊢; exact h
 | d :: ds,vs,h=>by
  simp only [HasV] at h ⊢
  obtain ⟨v,r,e,q,l⟩:=h
  exact ⟨v,r,e,HasP.mono s d v q,HasV.mono s ds r l⟩
theorem HasP.mono {H H':Hp} (s:Same H H'):∀ (p:PyData × PyData) (v:V),HasP H p v->HasP H' p v
 | (_,d),v,h=>by
  simp only [HasP] at h ⊢
  exact Has.mono s d v h
end
section
variable {H:Hp} {v:V}
theorem zfG:Has H .none v ↔ v = .non:=by simp only [Has]
theorem zeP {b:Bool}:Has H (.bool b) v ↔ v = .bl b:=by simp only [Has]
theorem zcp {i:Int}:Has H (.int i) v ↔ v = .int i:=by simp only [Has]
theorem zdw {x:Str}:Has H (.str x) v ↔ v = .str x:=by simp only [Has]
theorem zbs {ds:List PyData}:Has H (.list ds) v ↔ ∃ a vs,v = .ref a/\H a = some (.lst vs)/\HasL H ds vs:=by simp only [Has]
theorem za7 {ds:List PyData}:Has H (.tuple ds) v ↔ ∃ a vs,v = .ref a/\H a = some (.tup vs)/\HasL H ds vs:=by simp only [Has]
theorem zla {kvs:List (PyData × PyData)}:Has H (.dict kvs) v ↔ ∃ a vs,v = .ref a/\DOf H a (kvs.map (·.1)) vs/\HasV H kvs vs:=by simp only [Has]
theorem zkV {vs:List V}:HasV H [] vs ↔ vs = []:=by simp only [HasV]
theorem zjm {p:PyData × PyData} {ds:List (PyData × PyData)} {vs:List V}:HasV H (p :: ds) vs ↔ ∃ v r,vs = v :: r/\Has H p.2 v/\HasV H ds r:=by
 obtain ⟨k,d⟩:=p
 simp only [HasV,HasP]
theorem zV {vs:List V}:HasL H [] vs ↔ vs = []:=by simp only [HasL]
theorem zI {d:PyData} {ds:List PyData} {vs:List V}:HasL H (d :: ds) vs ↔ ∃ v r,vs = v :: r/\Has H d v/\HasL H ds r:=by simp only [HasL]
theorem HasL.length:∀ {ds:List PyData} {vs:List V},HasL H ds vs->vs.length = ds.length
 | [],_,h=>by rw [zV.mp h]; rfl
 | d :: ds,vs,h=>by
  obtain ⟨v,r,e,_,l⟩:=zI.mp h
  rw [e,List.length_cons,List.length_cons,HasL.length l]
theorem HasL.get:∀ {ds:List PyData} {vs:List V} {i:Nat} {d:PyData},HasL H ds vs->ds[i]? = some d->∃ v,vs[i]? = some v/\Has H d v
 | [],_,_,_,_,e=>by simp at e
 | c :: ds,vs,0,d,h,e=>by
  obtain ⟨v,r,rfl,q,_⟩:=zI.mp h
  simp at e
  subst e
  exact ⟨v,rfl,q⟩
 | c :: ds,vs,i + 1,d,h,e=>by
  obtain ⟨v,r,rfl,_,l⟩:=zI.mp h
  obtain ⟨u,e1,e2⟩:=HasL.get (i:=i) (d:=d) l (by simpa using e)
  exact ⟨u,by simpa using e1,e2⟩
theorem HasL.append:∀ {ds es:List PyData} {vs us:List V},HasL H ds vs->HasL H es us->HasL H (ds ++ es) (vs ++ us)
 | [],es,vs,us,h,h'=>by rw [zV.mp h]; exact h'
 | d :: ds,es,vs,us,h,h'=>by
  obtain ⟨v,r,rfl,q,l⟩:=zI.mp h
  exact zI.mpr ⟨v,r ++ us,rfl,q,HasL.append l h'⟩
end
def tyD:PyData->String
 | .none=>"NoneType" | .bool _=>"bool" | .int _=>"int" | .str _=>"str" | .list _=>"list" | .tuple _=>"tuple" | .dict _=>"dict"
theorem Has.ty {K:W.Frag} {H:Hp} {d:PyData} {v:V} (h:Has H d v):TyOf K H v (.type (tyD d)):=by
 cases d with
 | none=>rw [zfG.mp h]; exact .non
 | bool b=>rw [zeP.mp h]; exact .bl b
 | int i=>rw [zcp.mp h]; exact .int i
 | str x=>rw [zdw.mp h]; exact .str x
 | list ds=>obtain ⟨a,vs,rfl,e,_⟩:=zbs.mp h; exact .lst e
 | tuple ds=>obtain ⟨a,vs,rfl,e,_⟩:=za7.mp h; exact .tup e
 | dict kvs =>
  obtain ⟨a,vs,rfl,e,_⟩:=zla.mp h
  obtain ⟨ob,m,e,_⟩:=e
  exact .dK (.inr ⟨ob,e⟩)
def zu7:List String:=["NoneType","bool","int","str","list","tuple","dict"]
def znj:List String:=["int","bool","str","list","tuple","dict"]
def zl5 (t c:String):Bool:=t == c || (t == "bool" && c == "int")
def zqo (d:PyData) (c:String):Bool:=zl5 (tyD d) c
theorem zsb (d:PyData):tyD d ∈ zu7:=by cases d <;> simp [tyD,zu7]
theorem zr7 (K:W.Frag) {t c:String} (ht:t ∈ zu7) (hc:c ∈ znj):PySem.W.kitOne K (.type t) (.type c) = some (zl5 t c):=by
 simp only [zu7,znj,List.mem_cons,List.not_mem_nil,or_false] at ht hc
 rcases ht with rfl | rfl | rfl | rfl | rfl | rfl | rfl <;> rcases hc with rfl | rfl | rfl | rfl | rfl | rfl <;> rfl
def zvn:List V->Hp->VK->Prop
 | [x,.ty c],H,Q=>∃ d,Has H d x/\c ∈ znj/\Q (.bl (zqo d c)) H
 | _,_,_=>False
theorem zsl {H:Hp} {d:PyData} {x:V} {c:String} {Q:VK} (h:Has H d x) (hc:c ∈ znj) (q:Q (.bl (zqo d c)) H):zvn [x,.ty c] H Q:=⟨d,h,hc,q⟩
section
variable {X:Cx}
theorem zdZ:CallR X (.builtin "isinstance") zvn:=by
 intro zk s σ H xs us Q I r h
 match xs,h with
 | [x,.ty c],h =>
  obtain ⟨d,hx,hc,q⟩:=h
  obtain ⟨u,w',rfl,ru,rw'⟩:=vals2 r
  cases (show w' = Value.type c from rw')
  exact zmW I ru hx.ty (zr7 X.K (zsb d) hc) fun tk=>⟨.bl _,H,I.tok tk,rfl,q⟩
end
def sp1 (p:V->Hp->VK->Prop):Sp:=fun vs H Q _=>match vs with | [x]=>p x H Q | _=>False
def sp2 (p:V->V->Hp->VK->Prop):Sp:=fun vs H Q _=>match vs with | [x,y]=>p x y H Q | _=>False
theorem znE {p:V->Hp->VK->Prop}:∀ (vs:List V) (H:Hp) (Q:VK) (E:XK),sp1 p vs H Q E->∃ x,vs = [x]/\p x H Q:=by
 intro vs H Q E h
 match vs,h with
 | [x],h=>exact ⟨x,rfl,h⟩
theorem zny {p:V->V->Hp->VK->Prop}:∀ (vs:List V) (H:Hp) (Q:VK) (E:XK),sp2 p vs H Q E->∃ x y,vs = [x,y]/\p x y H Q:=by
 intro vs H Q E h
 match vs,h with
 | [x,y],h=>exact ⟨x,y,rfl,h⟩
structure Dd (K:W.Frag) (mg:Str->Option Value) (x:Str) (st:Stmt) (ps:List Str):Prop where
 ex:∃ f fd,Fun K x x st f fd/\mg x = some (.ref f)/\Binds K fd ps []
structure Df (P:Program) (w:World) (K:W.Frag) (mg:Str->Option Value) (base:Heap) (x:Str) (ps:List Str) (k:Nat) (sp:Sp):Prop where
 ex:∃ f fd,FnOk P w K mg base CX0 k f fd ps sp/\mg x = some (.ref f)/\PySem.W.keepIn K (.ref f) = true/\Binds K fd ps []
section
variable {P:Program} {w:World} {K:W.Frag} {mg:Str->Option Value} {base:Heap} {x a b c d e:Str} {st:Stmt} {N:List Str} {k:Nat}
theorem Df.of {ps:List Str} {sp:Sp} (D:Dd K mg x st ps) (S:FnScope N ps (zp st)) (len:∀ vs H Q E,sp vs H Q E->vs.length = ps.length)
  (hbody:∀ (f:Addr) (cdv:Value) (A:Around) (outer:List Env) (s:Shared) (H:Hp) (vs:List V) (Q:VK) (E:XK),Room k (A.deeper (envOfC x (zp st) s.heap.objs.size f cdv))->sp vs H Q E ->
   ∃ t,PSs (zhc CX0 P w K mg base N x (zp st) f cdv A outer s H E).nox (zba st) t/\t { nx:=fun _ H'=>Q .non H',rt:=Q } (start N vs) H):Df P w K mg base x ps (k + 1) sp:=by
 obtain ⟨f,fd,F,hm,hb⟩:=D.ex
 exact ⟨f,fd,F.ok S len (hbody f),hm,F.kp,hb⟩
theorem Df.of2 {p:V->V->Hp->VK->Prop} (D:Dd K mg x st [a,b]) (S:FnScope N [a,b] (zp st)) (σ0:V->V->St) (hs:∀ v u,start N [v,u] = σ0 v u)
  (hbody:∀ (f:Addr) (cdv:Value) (A:Around) (outer:List Env) (s:Shared) (H:Hp) (v u:V) (Q:VK) (E:XK),Room k (A.deeper (envOfC x (zp st) s.heap.objs.size f cdv))->p v u H Q ->
   ∃ t,PSs (zhc CX0 P w K mg base N x (zp st) f cdv A outer s H E).nox (zba st) t/\t { nx:=fun _ H'=>Q .non H',rt:=Q } (σ0 v u) H):Df P w K mg base x [a,b] (k + 1) (sp2 p):=by
 refine Df.of D S (fun vs H Q E h=>?_) fun f cdv A outer s H vs Q E hr h=>?_
 ·obtain ⟨x,y,rfl,_⟩:=zny vs H Q E h
  rfl
 ·obtain ⟨x,y,rfl,h⟩:=zny vs H Q E h
  rw [hs]
  exact hbody f cdv A outer s H x y Q E hr h
end
def tC2 (p:V->V->Hp->VK->Prop) (ta tb:TE):TE:=fun σ H Q=>ta σ H fun x H1=>tb σ H1 fun y H2=>p x y H2 Q
section
variable {X:Cx} {x a b c d e':Str} {k j:Nat} {pos pos':Pos} {e1 e2 e3 e4 e5:Expr} {t1 t2 t3 t4 t5:TE}
theorem zs0 {p:V->V->Hp->VK->Prop} (D:Df X.prog X.w X.K X.mg X.base x [a,b] k (sp2 p)) (hr:Room j X.A) (hk:k <= j) (h1:PE X e1 t1) (h2:PE X e2 t2) (hg:Gl X x:=by rfl) (hdb:(x == ("__debug__":Str)) = false:=by decide)
  (q1:starEach [e1,e2] X.env = (false,eval e1 X.env) :: starEach [e2] X.env:=by rfl) (q2:starEach [e2] X.env = (false,eval e2 X.env) :: starEach [] X.env:=by rfl)
  (hpl:(backTo pos (starEach [e2] X.env)).any (·.1) = false:=by rfl):PE X (.Call (.Name x pos') [e1,e2] [] pos) (tC2 p t1 t2):=by
 obtain ⟨f,fd,F,hm,kp,hb⟩:=D.ex
 intro zk s σ H Q I h
 exact zjW (dvs:=[]) (ds:=[]) (E:=E0) F (hr.mono hk) hg hm kp hb .nil pass0 (zc h1 (zc h2 zg q2) q1) hdb q1 hpl zk s σ H Q I h
end
theorem Dd.mk' {K:W.Frag} {h:Heap} {mg:Str->Option Value} (X:K.In h) (G:h.Ns mainGlobals mg) {x:Str} {st:Stmt} {ps:List Str} {f:Addr} {oc:Value} {od an:Option Addr} {osl:Array (Option Value)} {kV doc pm cdv ct:Value}
  (a:PySem.W.nsIn K mainGlobals x = some (some (.ref f))) (l:K.lookup f = some ⟨oc,od,.func (PySem.W.fnOf x x (zc6 st) (zba st) (zp st) .none kV doc pm an cdv ct),osl⟩)
  (c:PySem.W.codeIn K cdv x = true) (k:PySem.W.keepIn K (.ref f) = true)
  (hb:∀ (kV doc pm:Value) (an:Option Addr) (cdv ct:Value) (us:List Value),us.length = ps.length->bindArgs (PySem.W.fnOf x x (zc6 st) (zba st) (zp st) .none kV doc pm an cdv ct) ⟨us,[]⟩ = pure (ps.zip us)):Dd K mg x st ps :=
 ⟨f,_,zkD (st:=st) l c k,PySem.W.mg_of X G a,(zkD (st:=st) l c k).binds hb⟩
theorem zbw:bootBuiltins "len" = some (.builtin "len"):=by decide +kernel
theorem zK:bootBuiltins "isinstance" = some (.builtin "isinstance"):=by decide +kernel
theorem zj6:bootBuiltins "max" = some (.builtin "max"):=by decide +kernel
theorem zqw:bootBuiltins "min" = some (.builtin "min"):=by decide +kernel
theorem zmQ:bootBuiltins "int" = some (.type "int"):=by decide +kernel
theorem zm4:bootBuiltins "bool" = some (.type "bool"):=by decide +kernel
theorem zeC:bootBuiltins "tuple" = some (.type "tuple"):=by decide +kernel
theorem zgJ:bootBuiltins "dict" = some (.type "dict"):=by decide +kernel
section
variable {H:Hp} {Q:VK}
theorem zoG {i:Nat} {σ:St}:zkn i σ H Q ↔ match σ[i]? with | some (some v)=>Q v H | _=>False:=by
 unfold zkn
 constructor
 ·rintro ⟨v,e,q⟩
  rw [e]
  exact q
 ·intro h
  split at h
  ·rename_i v e
   exact ⟨v,e,h⟩
  ·exact h.elim
theorem zmS {g:Int->Int->V} {i j:Int}:rI0 g (.int i) (.int j) H Q ↔ Q (g i j) H :=
 ⟨fun ⟨_,_,e1,e2,q⟩=>by cases e1; cases e2; exact q,fun q=>⟨i,j,rfl,rfl,q⟩⟩
theorem zvA {p:Bool->Prop} {b:Bool}:(∃ c,V.bl b = V.bl c/\p c) ↔ p b:=⟨fun ⟨_,e,q⟩=>by cases e; exact q,fun q=>⟨b,rfl,q⟩⟩
end
section
variable {K:W.Frag} {H:Hp} {Q:VK} {x y:V} {d:PyData} {ds:List PyData}
def zvt (K:W.Frag):List V->Hp->VK->Prop:=fun xs H Q=>∃ p ys,xs = [.ref p]/\(SqL K H p ys\/SqT K H p ys)/\Q (.int ys.length) H
end
section
variable {X:Cx}
theorem zmF:CallR X (.builtin "len") (zvt X.K):=zfn
end
def hid (a:Addr) (H:Hp):Hp:=fun b=>if b = a then none else H b
theorem zuu {a b:Addr} {H:Hp} (h:b ≠ a):hid a H b = H b:=if_neg h
theorem zoL {a:Addr} {H:Hp}:hid a H a = none:=if_pos rfl
theorem Same.laid {H:Hp} {p:Addr} {o:HO} (h:H p = none):Same H (upd H p o):=fun b u e=>by
 rw [zO (zX e h)]
 exact e
section
variable {X:Cx} {zk:List (Addr × Obj)} {σ:St} {H:Hp} {s:Shared} {a:Addr} {m:List (Key × V)}
theorem Inv.fz (I:Inv X zk σ H s) (e:H a = some (.dK m)):∃ ob,Inv X zk σ (upd H a (.frz ob (.dK m))) s:=by
 have q:=(show ObjOk X.prog X.w H s.heap a (.dK m) from I.hok a _ e)
 obtain ⟨_,_,vs,_,ob,es,ep,h1,_⟩:=id q
 exact ⟨ob,I.write (x:=a) (e:=a) (o:=.frz ob (.dK m)) (h':=s.heap) (t':=s.toks) (by rw [e]; exact True.intro) (.inl rfl) (fun b v _ z=>z) ⟨ob,h1⟩ ⟨h1,q⟩⟩
def ztQ (t:TE):TE:=fun σ H Q=>t σ H fun v H1=>∃ a m,v = .ref a/\H1 a = some (.dK m)/\∀ ob,Q v (upd H1 a (.frz ob (.dK m)))
theorem zjl {e:Expr} {t:TE} (h:PE X e t):PE X e (ztQ t):=fun zk s σ H Q I hw =>
 thn (h zk s σ H _ I hw) fun u s1 ⟨v,H1,I1,r1,a,m,ev,ea,q⟩=>by
  obtain ⟨ob,J⟩:=I1.fz ea
  exact ⟨v,_,J,r1,q ob⟩
def zvz (i:Nat) (t:TS):TS:=fun D σ H=>t { D with nx:=fun σ' H'=>∃ a m,σ'[i]? = some (some (.ref a))/\H' a = some (.dK m)/\∀ ob,D.nx σ' (upd H' a (.frz ob (.dK m))) } σ H
theorem zvm {i:Nat} {st:Stmt} {t:TS} (h:PS X st t):PS X st (zvz i t):=fun zk s σ H D I hw =>
 thn (h zk s σ H _ I hw) fun f s1 q=>by
  cases f with
  | next =>
   obtain ⟨σ1,H1,I1,a,m,e1,e2,q⟩:=q
   obtain ⟨ob,J⟩:=I1.fz e2
   exact ⟨σ1,_,J,q ob⟩
  | brk=>exact q
  | cont=>exact q
  | ret v=>exact q
end
end
section
theorem zn8 (d:PyData):zqo d "int" = match d with | .int _=>true | .bool _=>true | _=>false:=by cases d <;> first | rfl | (show zl5 _ _ = _; simp [zl5,tyD])
theorem zkd (d:PyData):zqo d "bool" = match d with | .bool _=>true | _=>false:=by cases d <;> first | rfl | (show zl5 _ _ = _; simp [zl5,tyD])
theorem ziJ (d:PyData):zqo d "tuple" = match d with | .tuple _=>true | _=>false:=by cases d <;> first | rfl | (show zl5 _ _ = _; simp [zl5,tyD])
theorem zkz (d:PyData):zqo d "list" = match d with | .list _=>true | _=>false:=by cases d <;> first | rfl | (show zl5 _ _ = _; simp [zl5,tyD])
theorem znq (d:PyData):zqo d "str" = match d with | .str _=>true | _=>false:=by cases d <;> first | rfl | (show zl5 _ _ = _; simp [zl5,tyD])
def vw:List Addr->Hp->Hp
 | [],H=>H
 | a :: r,H=>hid a (vw r H)
def zrV (K:W.Frag):V->V->Hp->VK->Prop:=fun x y H Q=>∃ (a:Addr) (ns:List Int) (i:Int),x = .ref a/\y = .int i/\SqL K H a (ns.map V.int)/\0 <= i/\∀ n,Q (.int n) H
theorem zrN {ns:List Int} {i:Int} (h0:0 <= i) (h1:i < ((ns.map V.int).length:Int)):∃ n,atI (ns.map V.int) i = some (.int n):=by
 obtain ⟨k,rfl⟩:=Int.eq_ofNat_of_zero_le h0
 have hk:k < ns.length:=by rw [List.length_map] at h1; omega
 exact ⟨ns[k],zct (by rw [List.getElem?_map,List.getElem?_eq_getElem hk]; rfl)⟩
theorem zoZ {ns:List Int} {lo hi:Option Int} {x:V} (h:x ∈ zkj (ns.map V.int) lo hi):∃ n,x = .int n:=by
 have h1:=List.mem_of_mem_drop (List.mem_of_mem_take h)
 obtain ⟨n,_,e⟩:=List.mem_map.mp h1
 exact ⟨n,e.symm⟩
theorem Fun.bind1 {K:W.Frag} {x a:Str} {st:Stmt} {f:Addr} {fd:FuncData} (F:Fun K x x st f fd)
  (h:∀ (kV doc pm:Value) (an:Option Addr) (cdv ct:Value) (u:Value),bindArgs (PySem.W.fnOf x x (zc6 st) (zba st) (zp st) .none kV doc pm an cdv ct) ⟨[u],[]⟩ = pure [(a,u)]):∀ (s:Shared) (u:Value),BindsTo s fd ⟨[u],[]⟩ [(a,u)]:=by
 obtain ⟨oc,od,kV,doc,pm,an,cdv,ct,osl,rfl,lk,hcd⟩:=F.ex
 exact fun s u=>.of_eq (h kV doc pm an cdv ct u)
def zvE (K:W.Frag):V->Hp->VK->Prop:=fun x H Q=>∃ (a:Addr) (ns:List Int),x = .ref a/\SqL K H a (ns.map V.int)/\ns.length <= 63/\∀ H',Q (.bl true) H'
theorem walk_law {l:PySem.W.OpenLaw} {k:Nat} {q:Program} {loose:List Str} {XP:(Str->Option Value)->Heap->Prop} {YP:World->Heap->Prop} {d:DefRec} {K:Params->W.Frag} (hn:l.most = some 63) (hdf:d.params.defaults = [])
  (hr:Room k callerA) (hY:∀ (w:World) (h:Heap),YP w h->(K w.params).In h)
  (F:∀ (w:World) (mg:Str->Option Value) (fa:Addr) (h:Heap),(K w.params).In h->h.Ns mainGlobals mg->mg d.name = some (.ref fa) ->
   ∃ fd:FuncData,(∀ (s:Shared) (u:Value),BindsTo s fd ⟨[u],[]⟩ [("script",u)])/\∀ base:Heap,(K w.params).In base->base.Ns mainGlobals mg->FnOk l.prog w (K w.params) mg base CX0 k fa fd ["script"] (sp1 (zvE (K w.params)))) :
  PySem.W.WalkO q loose XP YP l.row.toRowW d [] (fun f vs=>PySem.call f vs) :=
 L2.walk_of (n:=63) (k:=k) (x:="script") (CX:=fun _=>CX0) (sp:=fun w=>sp1 (zvE (K w.params))) hn (by decide) hdf hr hY F (fun _ _ a ns hl _ hS=>⟨a,ns,rfl,hS,hl,fun _=>rfl⟩) fun _ _ _ _ _ z=>z
theorem Fun.ok1 {P:Program} {w:World} {K:W.Frag} {mg:Str->Option Value} {base:Heap} {x a:Str} {st:Stmt} {f:Addr} {fd:FuncData} {N:List Str} {k:Nat} {p:V->Hp->VK->Prop} (F:Fun K x x st f fd) (S:FnScope N [a] (zp st)) (σ0:V->St) (hs:∀ v,start N [v] = σ0 v)
  (hbody:∀ (cdv:Value) (A:Around) (outer:List Env) (s:Shared) (H:Hp) (v:V) (Q:VK) (E:XK),Room k (A.deeper (envOfC x (zp st) s.heap.objs.size f cdv))->p v H Q ->
   ∃ t,PSs (zhc CX0 P w K mg base N x (zp st) f cdv A outer s H E).nox (zba st) t/\t { nx:=fun _ H'=>Q .non H',rt:=Q } (σ0 v) H):FnOk P w K mg base CX0 (k + 1) f fd [a] (sp1 p):=by
 refine F.ok S (fun vs H Q E h=>?_) fun cdv A outer s H vs Q E hr h=>?_
 ·obtain ⟨x,rfl,_⟩:=znE vs H Q E h
  rfl
 ·obtain ⟨x,rfl,h⟩:=znE vs H Q E h
  rw [hs]
  exact hbody cdv A outer s H x Q E hr h
end
section
mutual
theorem Has.reads {X:Cx} {zk:List (Addr × Obj)} {σ:St} {H:Hp} {s:Shared} (I:Inv X zk σ H s):∀ (d:PyData) (v:V) (u:Value),Has H d v->d.canLay0 = true->RelV v u->∃ as,Reads s.heap u d as
 | .none,v,u,h,_,r=>by
  rw [zfG.mp h] at r
  cases (show u = Value.none from r)
  exact ⟨_,.none⟩
 | .bool b,v,u,h,_,r=>by
  rw [zeP.mp h] at r
  cases (show u = Value.bool b from r)
  exact ⟨_,.bool b⟩
 | .int i,v,u,h,_,r=>by
  rw [zcp.mp h] at r
  obtain ⟨t,q⟩:=(show ∃ t,u = Value.int i t from r)
  cases q
  exact ⟨_,.int i t⟩
 | .str x,v,u,h,_,r=>by
  rw [zdw.mp h] at r
  obtain ⟨t,q⟩:=(show ∃ t,u = Value.str x t from r)
  cases q
  exact ⟨_,.str x t⟩
 | .list ds,v,u,h,c,r=>by
  obtain ⟨a,vs,rfl,e,l⟩:=zbs.mp h
  cases (show u = Value.ref a from r)
  obtain ⟨_,its,n,rv,e1⟩:=(show ObjOk X.prog X.w H s.heap a (.lst vs) from I.hok a _ e)
  obtain ⟨as,q⟩:=HasL.reads I ds vs its l (by simpa only [PyData.canLay0] using c) rv
  exact ⟨_,.list e1 rfl rfl (by simpa using q)⟩
 | .tuple ds,v,u,h,c,r=>by
  obtain ⟨a,vs,rfl,e,l⟩:=za7.mp h
  cases (show u = Value.ref a from r)
  obtain ⟨_,its,rv,o,e1,e2,n,e3⟩:=(show ObjOk X.prog X.w H s.heap a (.tup vs) from I.hok a _ e)
  obtain ⟨as,q⟩:=HasL.reads I ds vs its l (by simpa only [PyData.canLay0] using c) rv
  exact ⟨_,.tuple e1 e2 e3 (by simpa using q)⟩
 | .dict _,_,_,_,c,_=>by simp [PyData.canLay0] at c
theorem HasL.reads {X:Cx} {zk:List (Addr × Obj)} {σ:St} {H:Hp} {s:Shared} (I:Inv X zk σ H s):∀ (ds:List PyData) (vs:List V) (us:List Value),HasL H ds vs->PyData.canLayAll0 ds = true->Vals vs us->∃ as,ReadsAll s.heap us ds as
 | [],vs,us,h,_,r=>by
  rw [zV.mp h] at r
  cases r
  exact ⟨_,.nil⟩
 | d :: ds,vs,us,h,c,r=>by
  obtain ⟨v,w',rfl,h1,h2⟩:=zI.mp h
  have c':d.canLay0 = true/\PyData.canLayAll0 ds = true:=by simpa [PyData.canLayAll0] using c
  cases r with
  | cons r1 r2 =>
   obtain ⟨as,q1⟩:=Has.reads I d v _ h1 c'.1 r1
   obtain ⟨bs,q2⟩:=HasL.reads I ds w' _ h2 c'.2 r2
   exact ⟨_,.cons q1 q2⟩
end
def zwm:R2:=fun x y H Q=>∃ d e,Has H d x/\Has H e y/\SeqAt.shaped d = true/\SeqAt.shaped e = true/\Q (.bl (PyData.eqv d e)) H
def zvW:R2:=fun x y H Q=>∃ d e,Has H d x/\Has H e y/\SeqAt.shaped d = true/\SeqAt.shaped e = true/\Q (.bl (!PyData.eqv d e)) H
section
variable {X:Cx}
theorem zeV (hu:X.A.units + 64 < cLine):OpR X (compareOp .Eq) zwm:=by
 intro zk s σ H x y v u Q I rx ry h
 obtain ⟨d,e,hd,he,sd,se,q⟩:=h
 obtain ⟨as,q1⟩:=Has.reads I d x v hd (SeqAt.canLay_of_shaped sd) rx
 obtain ⟨bs,q2⟩:=Has.reads I e y u he (SeqAt.canLay_of_shaped se) ry
 exact eq_dataH q1 q2 sd se hu ⟨.bl _,H,I,rfl,q⟩
theorem zkk (hu:X.A.units + 64 < cLine):OpR X (compareOp .NotEq) zvW:=by
 intro zk s σ H x y v u Q I rx ry h
 obtain ⟨d,e,hd,he,sd,se,q⟩:=h
 obtain ⟨as,q1⟩:=Has.reads I d x v hd (SeqAt.canLay_of_shaped sd) rx
 obtain ⟨bs,q2⟩:=Has.reads I e y u he (SeqAt.canLay_of_shaped se) ry
 exact ne_dataH q1 q2 sd se hu ⟨.bl _,H,I,rfl,q⟩
end
section
variable {prog:Program} {w:World} {A:Around} {E:Value->Shared->Prop} {s:Shared} {l:Addr}
theorem zlj {xs:Array (Int × Tok)} {Q:Value->Shared->Prop} (hh:A.handled = none) (hl:s.heap.IsTuple l (intItems xs)) (hne:0 < xs.size)
  (h:∀ v h' tk,(intItems xs)[argBest (fun i j=>decide (numAt xs i < numAt xs j)) (xs.size - 1)]? = some v->(∀ b o,s.heap.get? b = some o->h'.get? b = some o)->Q v { s with heap:=h',toks:=tk }) :
  wpAny (model prog w) A (call (.builtin "min") [.ref l]) Q E s:=by
 have hlt:l < s.heap.objs.size:=by obtain ⟨o,e,_⟩:=hl; exact Heap.lt_size e
 refine call_min_walk (wpAny_pyIter_tuple hl ?_)
 refine ⟨_,[_,l],[_],_,_,_,_,rfl,Walks.tuple (A:=A.in1) hh _ l (Nat.ne_of_lt hlt) (intItems xs),⟨⟨_,Heap.get?_push_size _ rfl,rfl,rfl⟩,hl.push _⟩,fun c hc=>?_,by simpa [intItems] using hne,CmpOf.ints_lt (numAt xs) (fun _ _=>intItems_at),fun v h' tk hP hk=>?_⟩
 ·show c < (s.heap.push _).objs.size
  rw [Heap.size_push]
  rcases List.mem_cons.mp hc with rfl | hc
  ·exact Nat.lt_succ_self _
  ·rcases List.mem_cons.mp hc with rfl | hc
   ·exact Nat.lt_succ_of_lt hlt
   ·cases hc
 ·refine h v h' tk (by simpa [intItems] using hP) fun b o e=>hk b o (fun hm=>?_) (Heap.get?_push_of_some _ e)
  rcases List.mem_cons.mp hm with e1 | hm
  ·exact absurd (e1 ▸ Heap.lt_size e) (Nat.lt_irrefl _)
  ·cases hm
theorem zl3 {xs:Array (Int × Tok)} {Q:Value->Shared->Prop} (hh:A.handled = none) (hl:s.heap.IsTuple l (intItems xs)) (hne:0 < xs.size)
  (h:∀ v h' tk,(intItems xs)[argBest (fun i j=>decide (numAt xs i > numAt xs j)) (xs.size - 1)]? = some v->(∀ b o,s.heap.get? b = some o->h'.get? b = some o)->Q v { s with heap:=h',toks:=tk }) :
  wpAny (model prog w) A (call (.builtin "max") [.ref l]) Q E s:=by
 have hlt:l < s.heap.objs.size:=by obtain ⟨o,e,_⟩:=hl; exact Heap.lt_size e
 refine call_max_walk (wpAny_pyIter_tuple hl ?_)
 refine ⟨_,[_,l],[_],_,_,_,_,rfl,Walks.tuple (A:=A.in1) hh _ l (Nat.ne_of_lt hlt) (intItems xs),⟨⟨_,Heap.get?_push_size _ rfl,rfl,rfl⟩,hl.push _⟩,fun c hc=>?_,by simpa [intItems] using hne,CmpOf.ints_gt (numAt xs) (fun _ _=>intItems_at),fun v h' tk hP hk=>?_⟩
 ·show c < (s.heap.push _).objs.size
  rw [Heap.size_push]
  rcases List.mem_cons.mp hc with rfl | hc
  ·exact Nat.lt_succ_self _
  ·rcases List.mem_cons.mp hc with rfl | hc
   ·exact Nat.lt_succ_of_lt hlt
   ·cases hc
 ·refine h v h' tk (by simpa [intItems] using hP) fun b o e=>hk b o (fun hm=>?_) (Heap.get?_push_of_some _ e)
  rcases List.mem_cons.mp hm with e1 | hm
  ·exact absurd (e1 ▸ Heap.lt_size e) (Nat.lt_irrefl _)
  ·cases hm
theorem zgg {vs:List Value} {ns:List Int} (hi:IntsAre vs ns):∃ xs:Array (Int × Tok),vs.toArray = intItems xs/\ns = xs.toList.map (·.1):=by
 obtain ⟨xs,e⟩:=hi.allInts.items
 exact ⟨xs,e,by rw [<- hi.numsOf,<- nums_intItems,<- e]⟩
end
def zvg (K:W.Frag):List V->Hp->VK->Prop:=fun xs H Q=>∃ p ns,xs = [.ref p]/\(SqL K H p (ns.map V.int)\/SqT K H p (ns.map V.int))/\ns ≠ []/\∀ m,m ∈ ns->(∀ a,a ∈ ns->m <= a)->Q (.int m) H
def zv6 (K:W.Frag):List V->Hp->VK->Prop:=fun xs H Q=>∃ p ns,xs = [.ref p]/\(SqL K H p (ns.map V.int)\/SqT K H p (ns.map V.int))/\ns ≠ []/\∀ m,m ∈ ns->(∀ a,a ∈ ns->a <= m)->Q (.int m) H
section
variable {X:Cx}
theorem zm2 (hc:X.calm = true):CallR X (.builtin "min") (zvg X.K):=by
 intro zk s σ H xs us Q I r h
 obtain ⟨p,ns,rfl,hq,hne,q⟩:=h
 obtain ⟨u,rfl,rx⟩:=vals1 r
 cases (show u = Value.ref p from rx)
 have done:∀ (ys:Array (Int × Tok)) (v:Value) (h':Heap) (tk:Nat),ns = ys.toList.map (·.1)->0 < ys.size->(intItems ys)[argBest (fun i j=>decide (numAt ys i < numAt ys j)) (ys.size - 1)]? = some v ->
   (∀ b o,s.heap.get? b = some o->h'.get? b = some o)->EP X zk σ Q v { s with heap:=h',toks:=tk }:=by
  intro ys v h' tk hns hsz hv hk
  obtain ⟨t,rfl⟩:=intItems_at hv
  obtain ⟨h1,h2⟩:=argBest_lt (numAt ys) (ys.size - 1)
  refine ⟨.int _,H,I.kept (t':=tk) hk,⟨t,rfl⟩,q _ ?_ fun a ha=>?_⟩
  ·rw [hns,numAt_eq]; exact getD_mem (by rw [List.length_map,Array.length_toList]; omega)
  ·rw [hns] at ha
   obtain ⟨j,hj,rfl⟩:=mem_getD ha
   rw [List.length_map,Array.length_toList] at hj
   rw [<- numAt_eq]; exact h2 j (by omega)
 rcases hq with hq | hq
 ·obtain ⟨its,rv,pl,_⟩:=I.list hq
  obtain ⟨ys,e,hns⟩:=zgg (zbM rv)
  have hsz:0 < ys.size:=by
   cases ys with
   | mk l=>cases l with
    | nil=>exact absurd hns hne
    | cons _ _=>exact Nat.succ_pos _
  exact min_intList (I.ok.hd hc) (by rw [<- e]; exact pl.isList) hsz fun v h' tk hv hk=>done ys v h' tk hns hsz hv hk
 ·obtain ⟨its,rv,pl,_⟩:=I.tuple hq
  obtain ⟨ys,e,hns⟩:=zgg (zbM rv)
  have hsz:0 < ys.size:=by
   cases ys with
   | mk l=>cases l with
    | nil=>exact absurd hns hne
    | cons _ _=>exact Nat.succ_pos _
  exact zlj (I.ok.hd hc) (by rw [<- e]; exact pl) hsz fun v h' tk hv hk=>done ys v h' tk hns hsz hv hk
theorem zi6 (hc:X.calm = true):CallR X (.builtin "max") (zv6 X.K):=by
 intro zk s σ H xs us Q I r h
 obtain ⟨p,ns,rfl,hq,hne,q⟩:=h
 obtain ⟨u,rfl,rx⟩:=vals1 r
 cases (show u = Value.ref p from rx)
 have done:∀ (ys:Array (Int × Tok)) (v:Value) (h':Heap) (tk:Nat),ns = ys.toList.map (·.1)->0 < ys.size->(intItems ys)[argBest (fun i j=>decide (numAt ys i > numAt ys j)) (ys.size - 1)]? = some v ->
   (∀ b o,s.heap.get? b = some o->h'.get? b = some o)->EP X zk σ Q v { s with heap:=h',toks:=tk }:=by
  intro ys v h' tk hns hsz hv hk
  obtain ⟨t,rfl⟩:=intItems_at hv
  obtain ⟨h1,h2⟩:=argBest_gt (numAt ys) (ys.size - 1)
  refine ⟨.int _,H,I.kept (t':=tk) hk,⟨t,rfl⟩,q _ ?_ fun a ha=>?_⟩
  ·rw [hns,numAt_eq]; exact getD_mem (by rw [List.length_map,Array.length_toList]; omega)
  ·rw [hns] at ha
   obtain ⟨j,hj,rfl⟩:=mem_getD ha
   rw [List.length_map,Array.length_toList] at hj
   rw [<- numAt_eq]; exact h2 j (by omega)
 rcases hq with hq | hq
 ·obtain ⟨its,rv,pl,_⟩:=I.list hq
  obtain ⟨ys,e,hns⟩:=zgg (zbM rv)
  have hsz:0 < ys.size:=by
   cases ys with
   | mk l=>cases l with
    | nil=>exact absurd hns hne
    | cons _ _=>exact Nat.succ_pos _
  exact max_intList (I.ok.hd hc) (by rw [<- e]; exact pl.isList) hsz fun v h' tk hv hk=>done ys v h' tk hns hsz hv hk
 ·obtain ⟨its,rv,pl,_⟩:=I.tuple hq
  obtain ⟨ys,e,hns⟩:=zgg (zbM rv)
  have hsz:0 < ys.size:=by
   cases ys with
   | mk l=>cases l with
    | nil=>exact absurd hns hne
    | cons _ _=>exact Nat.succ_pos _
  exact zl3 (I.ok.hd hc) (by rw [<- e]; exact pl) hsz fun v h' tk hv hk=>done ys v h' tk hns hsz hv hk
end
section
variable {K:W.Frag} {o:List Addr} {σ:St} {H0:Hp} {t t1 t2 t3 t4 t5:TE} {ta:TA} {tt tu:TT} {d d1 d2 d3 d4 d5:PyData} {ds:List PyData} {b c:Bool}
def zpg:PyData->Bool
 | .none=>true
 | _=>false
end
def spD (a b:Int):PyData:=.tuple [.int a,.int b]
end
section
theorem zm3 {K:W.Frag} {a:Addr} {ns:List Int} {N:Int} {j:Nat} {tb:TS} {D:Ends} {σ:St} {H:Hp} (P:St->Prop) (h0:σ[0]? = some (some (.ref a))) (hS:SqL K H a (ns.map V.int)) (hlen:ns.length <= 63) (hP:P σ)
  (turn:∀ (n:Int) (σ:St) (H1 H2:Hp),P σ->Same H H1->Same H1 H2->tb { D with nx:=fun σ' H'=>Same H1 H'/\P σ',ct:=fun σ' H'=>Same H1 H'/\P σ',bk:=D.nx } (σ.set j (some (.int n))) H2)
  (done:∀ (σ:St) (H1:Hp),P σ->Same H H1->D.nx σ H1) :
  ztW (zrl K (tOp zsw (zss (zl2 (tC2 (zrV K) (zkn 0) (tC (.int 0))) zsu)) (tSl (zsS K) (zkn 0) (zlY (tC (.int 1))) (zlY (tC (.int N)))))) (zjJ j) tb D σ H:=by
 refine ⟨_,h0,a,ns,0,rfl,rfl,hS,by decide,fun n0=>⟨by show 1 <= sizeLine; decide,fun p hp=>?_⟩⟩
 have s1:Same H (upd H p (.lst [.int n0])):=Same.laid hp
 refine ⟨_,h0,_,rfl,_,rfl,a,_,rfl,s1.seq hS,fun p2 hp2=>?_⟩
 have s2:=s1.trans (Same.laid (o:=.lst (zkj (ns.map V.int) (some 1) (some N))) hp2)
 have np:p ≠ p2:=zX zN hp2
 have hz:(zkj (ns.map V.int) (some 1) (some N)).length <= 63:=Nat.le_trans (zek _ _ _) (by rw [List.length_map]; exact hlen)
 refine ⟨p,p2,_,_,rfl,rfl,by rw [zO np,zN],zN,Nat.le_of_lt (small1000 (by simp only [List.length_cons,List.length_nil]; omega)),fun p3 hp3=>?_⟩
 have s3:=s2.trans (Same.laid (o:=.lst ([V.int n0] ++ zkj (ns.map V.int) (some 1) (some N))) hp3)
 refine ⟨p3,rfl,⟨_,.of zN⟩,zpd (K:=K) (a:=p3) (xs:=[V.int n0] ++ zkj (ns.map V.int) (some 1) (some N)) (fun i σ' H'=>Same _ H'/\P σ') ⟨Same.refl _,hP⟩ (fun i σ H4 _ ⟨s4,_⟩=>.of (s4 _ _ zN)) ?_ ?_⟩
 ·rintro i x σ' H4 hi ⟨s4,p4⟩
  obtain ⟨n,rfl⟩:∃ n,x = .int n:=by
   rcases List.mem_append.mp (List.mem_of_getElem? hi) with m | m
   ·exact ⟨n0,List.mem_singleton.mp m⟩
   ·exact zoZ m
  exact turn n σ' _ H4 p4 s3 s4
 ·rintro σ' H4 ⟨s4,p4⟩
  exact done σ' H4 p4 (s3.trans s4)
end
section
section
variable {prog:Program} {w:World} {A:Around} {E:Value->Shared->Prop} {R:Result->Shared->Prop} {s:Shared}
theorem ziC {elt target iter:Expr} {ifs:List Expr} {scope:Scope} {pos:Pos} {it acc:Value} {env:Env} (I:Nat->Shared->Prop)
  (turn:∀ n s,I n s->wpAny (model prog w) A (pyNext it) (fun r s₁=>match r with
   | none=>R (.ok .next) s₁
   | some v=>wpAny (model prog w) A (letOwnedTupleGo target it v) (fun _ s₀=>wpAny (model prog w) A (assign target env v) (fun _ s₂ =>
     wpAny (model prog w) A (forIn ifs true fun c r=>if r = true then do let ok <- isTrue c env (eval c env); pure (ForInStep.yield ok) else pure (ForInStep.yield r)) (fun ok s₃ =>
      if ok = true then wpAny (model prog w) A (eval elt env) (fun x s₄ =>
       wpAny (model prog w) A (call (.builtin "list.append") [acc,x]) (fun _ s₅=>∃ m,m < n/\I m s₅) (fun _ _=>False) s₄) (fun _ _=>False) s₃
      else ∃ m,m < n/\I m s₃) (fun _ _=>False) s₂) (fun _ _=>False) s₀) (fun _ _=>False) s₁) (fun _ _=>False) s)
  (n:Nat) (h:I n s) :
  codeAny (model prog w) A (.compLoop (.ListComp elt [⟨target,iter,ifs,0⟩] scope pos) 0 it acc env) R s:=by
 have up:∀ {α:Type} {t:Sem α} {Q:α->Shared->Prop} {E':Value->Shared->Prop} {s':Shared},wpAny (model prog w) A t Q (fun _ _=>False) s'->wpAny (model prog w) A t Q E' s':=fun h=>wpAny_mono h (fun _ _ q=>q) fun _ _ z=>z.elim
 refine codeAny_loop rfl I (fun n s hI=>?_) n h
 show wpAny _ A ((compTurn (.ListComp elt [⟨target,iter,ifs,0⟩] scope pos) 0 it acc env).onRaise (fun x=>do noteFrame x env; theTreesLotGoes x)) _ _ s
 refine wpAny_noted ?_
 rw [compTurn_list]
 refine wpAny_bind (wpAny_standAt (wpAny_bind (thn (up (turn n s hI)) fun r s₁ h₁=>?_)))
 cases r with
 | none=>exact wpAny_pure h₁
 | some v =>
  refine wpAny_bind (thn (up h₁) fun _ s₀ h₀=>?_)
  refine wpAny_bind (thn (up h₀) fun _ s₂ h₂=>wpAny_bind (thn (up h₂) fun ok s₃ h₃=>?_))
  cases ok with
  | false=>exact wpAny_pure ⟨rfl,h₃⟩
  | true =>
   exact wpAny_bind (wpAny_bind (thn (up h₃) fun x s₄ h₄=>wpAny_bind (thn (up h₄) fun _ s₅ h₅=>wpAny_pure (wpAny_pure ⟨rfl,h₅⟩))))
end
def zbW (X:Cx) (scope:Scope) (cl:List (Str × Addr)) (C:Addr) (s₃:Shared) (H₃:Hp) (fp:List Addr) (N:List Str):Cx where
 prog:=X.prog
 w:=X.w
 K:=X.K
 mg:=X.mg
 base:=X.base
 A:=X.A
 N:=N
 s₀:=s₃
 H₀:=H₃
 env:=compEnvC scope cl C X.env
 outer:=X.stack
 stack:=X.stack
 ex:=fp
 fn:=fun _=>false
 calm:=X.calm
 pn:=[]
 xe:=fun _ _=>False
def PTs (X:Cx) (ifs:List Expr) (t:TT):Prop :=
 ∀ (zk:List (Addr × Obj)) (s:Shared) (σ:St) (H:Hp) (Q:Bool->Hp->Prop),Inv X zk σ H s->t σ H Q ->
  wpAny (model X.prog X.w) X.A (forIn ifs true fun c r=>if r = true then do let ok <- isTrue c X.env (eval c X.env); pure (ForInStep.yield ok) else pure (ForInStep.yield r)) (TP X zk σ Q) X.xe s
def zt6:TT:=fun _ H Q=>Q true H
theorem zbA {X:Cx}:PTs X [] zt6:=fun _ _ _ H _ I h=>wpAny_tests_nil ⟨H,I,h⟩
theorem zjD {X:Cx} {c:Expr} {t:TT} (h:PT X c t):PTs X [c] t:=fun zk s σ H Q I hw=>wpAny_tests_one (h zk s σ H Q I hw)
def tau (caps:List (Option Nat)) (σ:St):St:=caps.map fun o=>o.bind fun i=>(σ[i]?).join
def znC (caps:List (Option Nat)) (wi:TI) (g:TG) (tt:TT) (te:TE):TE:=fun σ H Q=>wi σ H fun J H1=>∀ D,H1 D = none->∃ W:Nat->Nat->St->Hp->Prop,(∃ m,W 0 m (tau caps σ) (upd H1 D (.lst []))) /\
 ∀ i m τ H2,W i m τ H2->(J.stop i H2/\Q (.ref D) H2)\/(J.go i H2/\∀ x H3,J.yld i H2 x H3->g x τ H3 fun τ4 H4=>tt τ4 H4 fun b H5 =>
  if b = true then te τ4 H5 fun v H6=>∃ xs,H6 D = some (.lst xs)/\xs.length < sizeLine/\∃ m',m' < m/\W (i + 1) m' τ4 (upd H6 D (.lst (xs ++ [v]))) else ∃ m',m' < m/\W (i + 1) m' τ4 H5)
structure CompOk (X:Cx) (scope:Scope) (cl:List (Str × Addr)) (N:List Str) (caps:List (Option Nat)):Prop where
 clos:closureFor scope X.env = pure cl
 sub:∀ x c,cl.lookup x = some c->X.env.cells.lookup x = some c
 kind:scope.kind = .function
 cell:∀ y ∈ scope.names,y.2 ≠ .cell
 names:∀ y ∈ scope.names,y.2 = .local->scope.names.lookup y.1 = some .local
 has:∀ x,((relabel scope X.env).names.lookup x = some .cell\/(relabel scope X.env).names.lookup x = some .free)->∃ c,cl.lookup x = some c
 cap:∀ (j i:Nat) (x:Str),caps[j]? = some (some i)->N[j]? = some x->X.N[i]? = some x/\Vis X.env.scope x/\¬ X.env.kindOf x = some .local/\∃ c,cl.lookup x = some c/\((relabel scope X.env).names.lookup x = some .cell\/(relabel scope X.env).names.lookup x = some .free)
 len:caps.length = N.length
section
variable {X:Cx} {scope:Scope} {cl:List (Str × Addr)} {N:List Str} {caps:List (Option Nat)} {tg iter elt:Expr} {ifs:List Expr} {pos:Pos} {wi:TI} {g:TG} {tt:TT} {te:TE}
theorem zlw {zk:List (Addr × Obj)} {σ:St} {H:Hp} {s:Shared} {fp:List Addr} {h₁:Heap} {t':Nat} (c:CompOk X scope cl N caps) (I:Inv X zk σ H s) (f:∀ b ∈ fp,FpOk X zk H b) (fo:∀ b ∈ fp,∃ o,s.heap.get? b = some o)
  (hns:h₁.Ns s.heap.objs.size (fun _=>none)) (hk:∀ b o,s.heap.get? b = some o->h₁.get? b = some o) :
  Inv (zbW X scope cl s.heap.objs.size s H fp N) [] (tau caps σ) H { s with heap:=h₁,toks:=t' }:=by
 have lt:∀ b ∈ fp,b < s.heap.objs.size:=fun b hb=>by obtain ⟨o,e⟩:=fo b hb; exact Heap.lt_size e
 have cells:∀ x k,cl.lookup x = some k->∃ v,s.heap.IsCell k v:=fun x k e=>I.cell x k (c.sub x k e)
 refine ⟨⟨I.ok.mod,c.kind,I.ok.glob,I.ok.blt,Nat.le_refl _,fun x y k h1 h2=>I.ok.inj x y k (c.sub x k h1) (c.sub y k h2),fun x hx=>c.has x hx,fun x k h _=>absurd (show false = true from h) (by decide),I.ok.hd,I.ok.frames,.inl rfl,
  fun b hb=>⟨Nat.ne_of_lt (lt b hb),fun x k e=>(f b hb).2.2.2.2.1 x k (c.sub x k e)⟩,I.bs,Nat.le_trans I.ok.bsz I.sz,fun b o e hb=>?_,fun b hb z=>?_,I.stack,I.stkFree⟩,
  rfl,I.bare,Un.kept hk,⟨_,hns,fun j x v h1 h2 h3=>?_⟩,fun x k e=>?_,I.hok.fresh (Nat.le_refl _),fun x k e=>I.freeC x k (c.sub x k e),fun p hp=>absurd (show p ∈ ([]:List (Addr × Obj)) from hp) (by simp),I.hok.kept hk,?_⟩
 ·rcases (f b hb).2.2.2.1 with q | q
  ·exact I.ok.noex b o e q
  ·exact absurd (Nat.lt_of_lt_of_le (Heap.lt_size e) (Nat.le_trans I.ok.bsz q)) (Nat.lt_irrefl _)
 ·rcases List.mem_cons.mp (I.stkSub b z) with q | q
  ·exact (f b hb).2.1 q
  ·exact (f b hb).2.2.1 q
 ·have h2':(caps.map fun o=>o.bind fun i=>(σ[i]?).join)[j]? = some (some v):=h2
  rw [List.getElem?_map] at h2'
  cases e:caps[j]? with
  | none=>rw [e] at h2'; cases h2'
  | some oi =>
   rw [e] at h2'
   have h2'':(oi.bind fun i=>(σ[i]?).join) = some v:=Option.some.inj h2'
   cases oi with
   | none=>cases h2''
   | some i =>
    have h4:(σ[i]?).join = some v:=h2''
    have h5:σ[i]? = some (some v):=by
     cases q:σ[i]? with
     | none=>rw [q] at h4; cases h4
     | some w'=>rw [q] at h4; exact congrArg some h4
    obtain ⟨k1,k2,k3,cc,k4,k5⟩:=c.cap j i x e h1
    obtain ⟨m,hn,hl⟩:=I.loc
    obtain ⟨u,r,l⟩:=hl i x v k1 h5 k2
    refine ⟨u,r,.inr ⟨k5,cc,k4,?_⟩⟩
    rcases l with ⟨q,_⟩ | ⟨_,c',hc',hcell⟩
    ·exact (k3 q).elim
    ·rw [c.sub x cc k4] at hc'
     cases hc'
     exact hcell.keeps hk
 ·obtain ⟨v,q⟩:=cells x k e
  exact ⟨v,q.keeps hk⟩
 ·show (caps.map _).length = N.length
  rw [List.length_map]
  exact c.len
theorem zmo {zk:List (Addr × Obj)} {σ τ:St} {H H':Hp} {s s':Shared} {h':Heap} {fp:List Addr} (I:Inv X zk σ H s) (f:∀ b ∈ fp,FpOk X zk H b) (J:Inv (zbW X scope cl s.heap.objs.size s H fp N) [] τ H' s') (hs:Heap.SameBut s.heap.objs.size s'.heap h') :
  Inv X zk σ H' { s' with heap:=h' }:=by
 have hC:H' s.heap.objs.size = none:=J.free
 have keep:∀ b o,b ≠ s.heap.objs.size->s'.heap.get? b = some o->h'.get? b = some o:=fun b o nb e=>hs.extBut b o nb e
 have u1:Un (frs X.stack) (s.heap.objs.size :: fp) H H' s.heap s'.heap:=Un.mono J.base (fun b hb=>hb) (fun b hb=>List.mem_cons_of_mem _ hb)
 have u2:Un (frs X.stack) (s.heap.objs.size :: fp) H' H' s'.heap h' :=
  ⟨fun b o e _ _ hx=>keep b o (fun z=>hx (by rw [z]; exact List.mem_cons_self)) e,fun b o e _ _ hx=>⟨o.slots,keep b o (fun z=>hx (by rw [z]; exact List.mem_cons_self)) e⟩,fun _ _ _ n _=>n,fun b o e hx=>⟨o,keep b o (fun z=>hx (by rw [z]; exact List.mem_cons_self)) e⟩,fun _ _ q=>q,fun _ _ _ q=>q,fun _ ps q=>⟨#[],by rw [q]; simp⟩⟩
 have hok:HOk X.prog X.w H' h':=fun a o e=>(J.hok a o e).stay (fun b u hb q=>keep b u (fun z=>by
  rcases hb with hb | hb
  ·rw [<- hb,z,hC] at e; cases e
  ·rw [z,hC] at hb; cases hb) q) (fun b q=>q) fun b xs q=>q
 refine I.call' (s':={ s' with heap:=h' }) (ch:=s.heap.objs.size :: fp) J.os (u1.trans u2) hok J.bare fun b hb=>?_
 rcases List.mem_cons.mp hb with rfl | hb
 ·refine ⟨.inr I.sz,Nat.ne_of_gt I.lt,fun x k e z=>?_,fun p hp z=>?_⟩
  ·obtain ⟨v,q⟩:=I.cell x k e
   exact absurd q.lt (by rw [z]; exact Nat.lt_irrefl _)
  ·exact absurd (Heap.lt_size (I.pin p hp).1) (by rw [z]; exact Nat.lt_irrefl _)
 ·obtain ⟨f0,f1,f2,f3,f4,f5⟩:=f b hb
  exact ⟨f3,f1,f4,f5⟩
theorem zhs {zk:List (Addr × Obj)} {σ:St} {H2:Hp} {s2:Shared} {it:Addr} {fp:List Addr} {tn:Nat->Heap->Prop} {J:It} {RR:Value->Addr->Result->Shared->Prop} {E:Value->Shared->Prop} (hc:X.calm = true) (c:CompOk X scope cl N caps)
  (I2:Inv X zk σ H2 s2) (T:Turn X.prog X.w X.K tg J fp it tn) (st2:tn 0 s2.heap) (f2:∀ b ∈ fp,FpOk X zk H2 b)
  (hg:∀ C s H fp,PG (zbW X scope cl C s H fp N) tg g) (ht:∀ C s H fp,PTs (zbW X scope cl C s H fp N) ifs tt) (he:∀ C s H fp,PE (zbW X scope cl C s H fp N) elt te)
  (Q:VK) (hq:∀ D,H2 D = none->∃ W:Nat->Nat->St->Hp->Prop,(∃ m,W 0 m (tau caps σ) (upd H2 D (.lst []))) /\
   ∀ i m τ H2,W i m τ H2->(J.stop i H2/\Q (.ref D) H2)\/(J.go i H2/\∀ x H3,J.yld i H2 x H3->g x τ H3 fun τ4 H4=>tt τ4 H4 fun b H5 =>
    if b = true then te τ4 H5 fun v H6=>∃ xs,H6 D = some (.lst xs)/\xs.length < sizeLine/\∃ m',m' < m/\W (i + 1) m' τ4 (upd H6 D (.lst (xs ++ [v]))) else ∃ m',m' < m/\W (i + 1) m' τ4 H5))
  (hRR:∀ (D C:Addr) (H':Hp) (s':Shared) (m:Str->Option Value),s'.heap.Ns C m->FpOk X zk H' C->(∀ h',Heap.SameBut C s'.heap h'->Inv X zk σ H' { s' with heap:=h' })->Q (.ref D) H'->RR (.ref D) C (.ok .next) s') :
  wpAny (model X.prog X.w) X.A (newList []) (fun acc s₃=>wpAny (model X.prog X.w) X.A (newFunctionEnv scope X.env.globals cl [] X.env.qual none .none (some X.env)) (fun cenv s₄ =>
   codeAny (model X.prog X.w) X.A (.compStart (.ListComp elt [⟨tg,iter,ifs,0⟩] scope pos) 0 (.ref it) acc { cenv with scope:=relabel scope X.env }) (RR acc cenv.locals) s₄) E s₃) E s2:=by
 have hD:H2 s2.heap.objs.size = none:=I2.hok.fresh (Nat.le_refl _)
 obtain ⟨W,⟨m0,w0⟩,turn⟩:=hq s2.heap.objs.size hD
 have I3:Inv X zk σ (upd H2 s2.heap.objs.size (.lst [])) { s2 with heap:=s2.heap.push { cls:=.type "list",data:=.seq ([]:List Value).toArray } }:=I2.laid (t':=s2.toks) (fun b u e=>Heap.get?_push_of_some _ e) (Nat.le_refl _) ⟨Nat.zero_le _,[],0,.nil,Heap.get?_push_size _ rfl⟩
 have fo:∀ b ∈ fp,∃ o,s2.heap.get? b = some o:=fun b hb=>by obtain ⟨o,e,_⟩:=T.obj 0 _ st2 b hb; exact ⟨o,e⟩
 have f3:∀ b ∈ fp,FpOk X zk (upd H2 s2.heap.objs.size (.lst [])) b:=fun b hb=>by
  obtain ⟨o,e⟩:=fo b hb
  refine ⟨?_,(f2 b hb).2⟩
  rw [zO (Nat.ne_of_lt (Heap.lt_size e))]
  exact (f2 b hb).1
 refine wpAny_newObj_type (wpAny_newFunctionEnv c.cell (by intro y hy; simp at hy) (fun h₁ hns₁ hsb₁=>?_) c.kind)
 have hk:∀ b o,(s2.heap.push { cls:=.type "list",data:=.seq ([]:List Value).toArray }).get? b = some o->h₁.get? b = some o:=fun b o e=>hsb₁.extBut b o (Nat.ne_of_lt (Heap.lt_size e)) (Heap.get?_push_of_some _ e)
 have st4:tn 0 h₁:=T.keep 0 _ _ st2 fun b _ o e=>hk b o (Heap.get?_push_of_some _ e)
 have I4:=zlw (t':=s2.toks + ([]:List (Str × Value)).length) c I3 f3 (fun b hb=>by obtain ⟨o,e⟩:=fo b hb; exact ⟨o,Heap.get?_push_of_some _ e⟩) hns₁ hk
 have fpok:∀ {H':Hp},(∀ b ∈ fp,H' b = none)->∀ b ∈ fp,FpOk (zbW X scope cl (s2.heap.push { cls:=.type "list",data:=.seq ([]:List Value).toArray }).objs.size { s2 with heap:=s2.heap.push { cls:=.type "list",data:=.seq ([]:List Value).toArray } } (upd H2 s2.heap.objs.size (.lst [])) fp N) [] H' b:=fun hn b hb =>
  ⟨hn b hb,(I4.ok.exf b hb).1,I4.ok.exfs b hb,.inl hb,(I4.ok.exf b hb).2,fun p hp=>absurd (show p ∈ ([]:List (Addr × Obj)) from hp) (by simp)⟩
 have loop:codeAny (model X.prog X.w) X.A (.compLoop (.ListComp elt [⟨tg,iter,ifs,0⟩] scope pos) 0 (.ref it) (.ref s2.heap.objs.size) (compEnvC scope cl (s2.heap.push { cls:=.type "list",data:=.seq ([]:List Value).toArray }).objs.size X.env))
   (RR (.ref s2.heap.objs.size) (s2.heap.push { cls:=.type "list",data:=.seq ([]:List Value).toArray }).objs.size) { s2 with heap:=h₁,toks:=s2.toks + ([]:List (Str × Value)).length }:=by
  refine ziC (fun n s'=>∃ i τ H',Inv (zbW X scope cl (s2.heap.push { cls:=.type "list",data:=.seq ([]:List Value).toArray }).objs.size { s2 with heap:=s2.heap.push { cls:=.type "list",data:=.seq ([]:List Value).toArray } } (upd H2 s2.heap.objs.size (.lst [])) fp N) [] τ H' s'/\tn i s'.heap/\(∀ b ∈ fp,H' b = none)/\W i n τ H') ?_ m0 ⟨0,_,_,I4,st4,fun b hb=>(f3 b hb).1,w0⟩
  rintro n s5 ⟨i,τ,H5,I5,st5,fr5,w5⟩
  rcases turn i n τ H5 w5 with ⟨stop,qn⟩ | ⟨go,step⟩
  ·refine thn (T.done (zbW X scope cl (s2.heap.push { cls:=.type "list",data:=.seq ([]:List Value).toArray }).objs.size { s2 with heap:=s2.heap.push { cls:=.type "list",data:=.seq ([]:List Value).toArray } } (upd H2 s2.heap.objs.size (.lst [])) fp N) rfl rfl rfl hc i [] s5 τ H5 (fun _ _=>False) I5 (fpok fr5) st5 stop) fun r s6 ⟨hr,I6⟩=>?_
   subst hr
   obtain ⟨m,hn,_⟩:=id I6.loc
   exact hRR _ _ H5 s6 m hn (I3.fpOk (Nat.le_refl _) I6.free) (fun h' hs=>zmo I3 f3 I6 hs) qn
  ·refine thn (T.item (zbW X scope cl (s2.heap.push { cls:=.type "list",data:=.seq ([]:List Value).toArray }).objs.size { s2 with heap:=s2.heap.push { cls:=.type "list",data:=.seq ([]:List Value).toArray } } (upd H2 s2.heap.objs.size (.lst [])) fp N) rfl rfl rfl hc i [] s5 τ H5 (fun _ _=>False) I5 (fpok fr5) st5 go) fun r s6 ⟨u,hr,h6⟩=>?_
   subst hr
   refine thn h6 fun _ s7 ⟨x,H7,I7,r7,y7,st7,fr7⟩=>?_
   have I7':=I7.pinned (fpok fr7) (T.obj _ _ st7)
   refine thn (hg _ _ _ _ _ s7 τ H7 x u _ I7' r7 (step x H7 y7)) fun _ s8 ⟨τ8,H8,I8,q8⟩=>?_
   refine thn (ht _ _ _ _ _ s8 τ8 H8 _ I8 q8) fun ok s9 ⟨H9,I9,q9⟩=>?_
   have again:∀ {H':Hp} {s':Shared} {m:Nat},Inv (zbW X scope cl (s2.heap.push { cls:=.type "list",data:=.seq ([]:List Value).toArray }).objs.size { s2 with heap:=s2.heap.push { cls:=.type "list",data:=.seq ([]:List Value).toArray } } (upd H2 s2.heap.objs.size (.lst [])) fp N) ([] ++ ziX fp s7.heap) τ8 H' s'->(m < n/\W (i + 1) m τ8 H') ->
     ∃ m,m < n/\∃ i τ H',Inv (zbW X scope cl (s2.heap.push { cls:=.type "list",data:=.seq ([]:List Value).toArray }).objs.size { s2 with heap:=s2.heap.push { cls:=.type "list",data:=.seq ([]:List Value).toArray } } (upd H2 s2.heap.objs.size (.lst [])) fp N) [] τ H' s'/\tn i s'.heap/\(∀ b ∈ fp,H' b = none)/\W i m τ H':=fun {H' s' m} I' q=>by
    refine ⟨m,q.1,i + 1,τ8,H',I'.unpinned,T.keep _ _ _ st7 fun b hb o e=>(I'.pin (b,o) (List.mem_append_right _ (List.mem_append_right _ (zdX hb e)))).1,fun b hb=>?_,q.2⟩
    obtain ⟨o,e,d⟩:=T.obj _ _ st7 b hb
    exact (I'.pin (b,o) (List.mem_append_right _ (List.mem_append_right _ (zdX hb e)))).2.1
   cases ok with
   | false =>
    rw [if_neg Bool.false_ne_true] at q9 ⊢
    obtain ⟨m',hm,w9⟩:=q9
    exact again I9 ⟨hm,w9⟩
   | true =>
    rw [if_pos rfl] at q9 ⊢
    refine thn (he _ _ _ _ _ s9 τ8 H9 _ I9 q9) fun v s10 ⟨z,H10,I10,r10,xs,hx,hz,m',hm,w10⟩=>?_
    refine thn (zdJ _ s10 τ8 H10 (.ref s2.heap.objs.size) [z] (.ref s2.heap.objs.size) [v] (fun _ H11=>W (i + 1) m' τ8 H11) I10 rfl (.cons r10 .nil) ⟨_,xs,z,rfl,rfl,hx,hz,w10⟩) fun _ s11 ⟨_,H11,I11,_,w11⟩=>?_
    exact again I11 ⟨hm,w11⟩
 exact codeAny_compStart_list loop (T.self _ 0 _ _ _ st4 loop)
theorem zb4 (hx:∀ e s,X.xe e s->False) (hc:X.calm = true) (c:CompOk X scope cl N caps) (hi:PI X tg iter wi) (hg:∀ C s H fp,PG (zbW X scope cl C s H fp N) tg g) (ht:∀ C s H fp,PTs (zbW X scope cl C s H fp N) ifs tt) (he:∀ C s H fp,PE (zbW X scope cl C s H fp N) elt te)
  (hs:∀ x,foldedSetIterable iter X.env x = pure x:=by intro _; rfl):PE X (.ListComp elt [⟨tg,iter,ifs,0⟩] scope pos) (znC caps wi g tt te):=by
 intro zk s σ H Q I h
 rw [eval_ListComp]
 refine wpAny_comprehension_free (use:=none) rfl hs c.clos c.kind c.names (thn (hi zk s σ H _ I h) fun v s1 h1=>thn h1 fun itv s2 h2=>?_)
 obtain ⟨it,fp,tn,J,H2,e,I2,T,st2,f2,q2⟩:=h2
 subst e
 exact zhs (RR:=fun acc C=>compPost (model X.prog X.w) X.A X.xe none (EP X zk σ Q) acc C) hc c I2 T st2 f2 hg ht he Q q2 fun D C H' s' m hn _ hb q=>⟨m,hn,fun h' hs=>⟨.ref D,H',hb h' hs,rfl,q⟩⟩
theorem zgC {i:Nat} {y:Str} {py spos:Pos} (hx:∀ e s,X.xe e s->False) (hc:X.calm = true) (c:CompOk X scope cl N caps) (hN:X.N.Nodup) (hyi:X.N[i]? = some y) (hl:X.env.scope.names.lookup y = some .local) (hi:PI X tg iter wi) (hg:∀ C s H fp,PG (zbW X scope cl C s H fp N) tg g)
  (ht:∀ C s H fp,PTs (zbW X scope cl C s H fp N) ifs tt) (he:∀ C s H fp,PE (zbW X scope cl C s H fp N) elt te)
  (hsw:swapsWith (.ListComp elt [⟨tg,iter,ifs,0⟩] scope pos) (some (.Name y py)) spos.line X.env = pure true:=by rfl)
  (hs:∀ x,foldedSetIterable iter X.env x = pure x:=by intro _; rfl):PS X (.Assign [.Name y py] (.ListComp elt [⟨tg,iter,ifs,0⟩] scope pos) spos) (zsx (znC caps wi g tt te) (zjJ i)):=by
 intro zk s σ H D I h
 rw [exec_Assign_Name_used _ _ _ _ hsw]
 refine wpAny_bind (wpAny_standAt (wpAny_bind ?_))
 show wpAny _ X.A (do let _ <- comprehension (.ListComp elt [⟨tg,iter,ifs,0⟩] scope pos) scope X.env _ (newList []) false (eval iter X.env) (some (assign (.Name y py) X.env))) _ _ s
 refine wpAny_bind (wpAny_mono (wpAny_comprehension_free (use:=some (assign (.Name y py) X.env)) (Q:=fun _ s'=>SP X zk D .next s') rfl hs c.clos c.kind c.names (thn (hi zk s σ H _ I h) fun v s1 h1=>thn h1 fun itv s2 h2=>?_)) (fun _ s' hq=>wpAny_pure (wpAny_pure hq)) fun _ _ e=>e)
 obtain ⟨it,fp,tn,J,H2,e,I2,T,st2,f2,q2⟩:=h2
 subst e
 refine zhs (RR:=fun acc C=>compPost (model X.prog X.w) X.A X.xe (some (assign (.Name y py) X.env)) (fun _ s'=>SP X zk D .next s') acc C) hc c I2 T st2 f2 hg ht he (fun v H'=>D.nx (σ.set i (some v)) H') q2 fun Da C H' s' m hn f hb q=>?_
 obtain ⟨o,es,ep,ho,hd,r⟩:=hn
 have I':Inv X zk σ H' s':=hb s'.heap (Heap.SameBut.refl _ _)
 have I'':Inv X (zk ++ [(C,o)]) σ H' s':=I'.pins_of fun p hp=>(List.mem_append.mp hp).elim (fun z=>I'.pin p (List.mem_append_right _ z)) fun z=>by
  cases List.mem_singleton.mp z
  exact ⟨ho,f.1,f.2.1,f.2.2.1,fun v e=>by rw [hd] at e; cases e⟩
 refine wpAny_assign_Name (zfF I'' hN hyi (.inl hl) (show RelV (V.ref Da) (Value.ref Da) from rfl) (fun s2 J2=>?_) (.inr hl))
 refine ⟨m,⟨o,es,ep,(J2.pin (C,o) (List.mem_append_right _ (List.mem_append_right _ (List.mem_singleton.mpr rfl)))).1,hd,r⟩,fun h' hs=>?_⟩
 exact ⟨_,H',J2.unpinned.turned (t':=s2.toks) (fun b ob nb e=>hs.extBut b ob nb e) f.1 f.2.1 f.2.2.2.1 f.2.2.2.2.1 f.2.2.2.2.2,q⟩
end
def zna (env:Env):List (Str × NameKind)->List (Str × Addr)->List (Str × Addr)
 | [],acc=>acc
 | (n,k) :: r,acc=>zna env r (if k == .free then (n,(env.cells.lookup n).getD 0) :: acc else acc)
theorem zk6 {env:Env} {x:Str} {c:Addr}:∀ {names:List (Str × NameKind)} {acc:List (Str × Addr)},(x,c) ∈ zna env names acc->(x,c) ∈ acc\/((x,NameKind.free) ∈ names/\c = (env.cells.lookup x).getD 0)
 | [],_,h=>.inl h
 | (n,k) :: r,acc,h=>by
  rcases zk6 (names:=r) h with h | ⟨h,e⟩
  ·by_cases hk:k == .free
   ·rw [if_pos hk] at h
    rcases List.mem_cons.mp h with h | h
    ·cases h
     have:k = .free:=by simpa using hk
     subst this
     exact .inr ⟨List.mem_cons_self,rfl⟩
    ·exact .inl h
   ·rw [if_neg hk] at h
    exact .inl h
  ·exact .inr ⟨List.mem_cons_of_mem _ h,e⟩
theorem zkM {env:Env} {p:Str × Addr}:∀ {names:List (Str × NameKind)} {acc:List (Str × Addr)},p ∈ acc->p ∈ zna env names acc
 | [],_,h=>h
 | (n,k) :: r,acc,h=>zkM (names:=r) (by split <;> first | exact List.mem_cons_of_mem _ h | exact h)
theorem zh4 {env:Env} {x:Str}:∀ {names:List (Str × NameKind)} {acc:List (Str × Addr)},(x,NameKind.free) ∈ names->∃ c,(x,c) ∈ zna env names acc
 | (n,k) :: r,acc,h=>by
  rcases List.mem_cons.mp h with h | h
  ·cases h
   exact ⟨_,zkM (names:=r) (by rw [if_pos (by decide)]; exact List.mem_cons_self)⟩
  ·exact zh4 (names:=r) h
theorem zc7 {β:Type} {x:Str} {c:β}:∀ {l:List (Str × β)},(x,c) ∈ l->∃ c',l.lookup x = some c'
 | (n,v) :: r,h=>by
  cases e:x == n with
  | true=>exact ⟨v,by rw [List.lookup_cons,e]⟩
  | false =>
   rcases List.mem_cons.mp h with h | h
   ·cases h
    simp at e
   ·obtain ⟨c',q⟩:=zc7 (l:=r) h
    exact ⟨c',by rw [List.lookup_cons,e]; exact q⟩
theorem zh5 {env:Env} {scope:Scope} (h:∀ y ∈ scope.names,y.2 = .free->(env.cells.lookup y.1).isSome = true):closureFor scope env = pure (zna env scope.names []):=by
 have go:∀ (names:List (Str × NameKind)) (acc:List (Str × Addr)),(∀ y ∈ names,y.2 = .free->(env.cells.lookup y.1).isSome = true) ->
   (forIn names acc (fun (x:Str × NameKind) (cs:List (Str × Addr))=>(if x.2 == .free then (do let c <- cellOf env x.1; pure (ForInStep.yield ((x.1,c) :: cs))) else pure (ForInStep.yield cs):Sem (ForInStep (List (Str × Addr)))))) = (pure (zna env names acc):Sem (List (Str × Addr))):=by
  intro names
  induction names with
  | nil=>intro acc _; rfl
  | cons y r ih =>
   intro acc hy
   obtain ⟨n,k⟩:=y
   rw [List.forIn_cons]
   by_cases hk:k == .free
   ·have hs:=hy (n,k) List.mem_cons_self (by simpa using hk)
    obtain ⟨c,hc⟩:=Option.isSome_iff_exists.mp hs
    have hc':env.cells.lookup n = some c:=hc
    simp only [hk,if_true,cellOf,hc',pure_bind,zna,Option.getD_some]
    exact ih _ fun y hy'=>hy y (List.mem_cons_of_mem _ hy')
   ·simp only [hk,Bool.false_eq_true,if_false,pure_bind,zna]
    exact ih _ fun y hy'=>hy y (List.mem_cons_of_mem _ hy')
 have g:=go scope.names [] h
 exact (bind_pure _).trans g
def zbz (DN:List Str) (dsc sc:List (Str × NameKind)) (N:List Str) (caps:List (Option Nat)):Bool :=
 (caps.length == N.length) && sc.all (fun y=>y.2 != .cell && (y.2 != .free || dsc.lookup y.1 == some .cell) && (y.2 != .local || sc.lookup y.1 == some .local)) &&
 (caps.zip N).all fun p=>match p.1 with | none=>true | some i=>DN[i]? == some p.2 && dsc.lookup p.2 == some .cell && sc.lookup p.2 == some .free
theorem zdO {dsc:List (Str × NameKind)} {env:Env} {x:Str} {k:NameKind}:∀ {names:List (Str × NameKind)},(names.map fun (n,k)=>if (k == .free && env.scope.kind == .function && env.kindOf n == some .cell) then (n,.cell) else (n,k)).lookup x = some k ->
  ∃ k',names.lookup x = some k'/\(k' = k\/(k' = .free/\k = .cell))
 | [],h=>by simp at h
 | (n,k0) :: r,h=>by
  cases e:x == n with
  | true =>
   refine ⟨k0,by rw [List.lookup_cons,e],?_⟩
   rw [List.map_cons] at h
   dsimp only at h
   split at h
   ·rename_i hc
    rw [List.lookup_cons,e] at h
    have:k0 = .free:=by simp at hc; exact hc.1.1
    cases h
    exact .inr ⟨this,rfl⟩
   ·rw [List.lookup_cons,e] at h
    cases h
    exact .inl rfl
  | false =>
   rw [List.map_cons] at h
   dsimp only at h
   have h':(r.map fun (n,k)=>if (k == NameKind.free && env.scope.kind == .function && env.kindOf n == some .cell) then (n,NameKind.cell) else (n,k)).lookup x = some k:=by
    split at h <;> (rw [List.lookup_cons,e] at h; exact h)
   obtain ⟨k',q,z⟩:=zdO (dsc:=dsc) h'
   exact ⟨k',by rw [List.lookup_cons,e]; exact q,z⟩
theorem zg8 {env:Env} {x:Str} (h1:env.scope.kind = .function) (h2:env.kindOf x = some .cell):∀ {names:List (Str × NameKind)},names.lookup x = some .free ->
  (names.map fun (n,k)=>if (k == .free && env.scope.kind == .function && env.kindOf n == some .cell) then (n,.cell) else (n,k)).lookup x = some .cell
 | [],h=>by simp at h
 | (n,k0) :: r,h=>by
  rw [List.map_cons]
  cases e:x == n with
  | true =>
   rw [List.lookup_cons,e] at h
   cases h
   have en:x = n:=by simpa using e
   subst en
   dsimp only
   rw [if_pos (by rw [h1,h2]; decide),List.lookup_cons,e]
  | false =>
   rw [List.lookup_cons,e] at h
   have ih:=zg8 h1 h2 (names:=r) h
   dsimp only
   split <;> (rw [List.lookup_cons,e]; exact ih)
theorem zar {X:Cx} {dsc:Scope} {L:Nat} {scope:Scope} {N:List Str} {caps:List (Option Nat)} (hd:X.env.scope = dsc) (hc:X.env.cells = cellsFrom L dsc.names []) (hdk:dsc.kind = .function) (hk:scope.kind = .function) (h:zbz X.N dsc.names scope.names N caps = true) :
  CompOk X scope (zna X.env scope.names []) N caps:=by
 subst hd
 simp only [zbz,Bool.and_eq_true,List.all_eq_true,beq_iff_eq] at h
 obtain ⟨⟨hl,hs⟩,hz⟩:=h
 have hfree:∀ y ∈ scope.names,y.2 = .free->X.env.scope.names.lookup y.1 = some .cell:=fun y hy e=>by
  have q:=(hs y hy).1.2
  rw [e] at q
  simpa using q
 have hcell:∀ y ∈ scope.names,y.2 ≠ .cell:=fun y hy e=>by
  have q:=(hs y hy).1.1
  rw [e] at q
  simp at q
 have hsome:∀ x,X.env.scope.names.lookup x = some .cell->(X.env.cells.lookup x).isSome = true:=fun x e=>by
  rw [hc]
  exact PySem.W.cellsFrom_some _ _ _ (.inl e)
 have sub:∀ x c,(zna X.env scope.names []).lookup x = some c->X.env.cells.lookup x = some c:=fun x c e=>by
  rcases zk6 (PySem.mem_of_lookup e) with q | ⟨q,ec⟩
  ·cases q
  ·obtain ⟨c',hc'⟩:=Option.isSome_iff_exists.mp (hsome x (hfree _ q rfl))
   rw [ec,hc']
   rfl
 refine ⟨zh5 fun y hy e=>hsome y.1 (hfree y hy e),sub,hk,hcell,fun y hy e=>?_,fun x hx=>?_,fun j i x h1 h2=>?_,hl⟩
 ·have q:=(hs y hy).2
  rw [e] at q
  simpa using q
 ·have fin:(x,NameKind.free) ∈ scope.names->∃ c,(zna X.env scope.names []).lookup x = some c:=fun m=>by
   obtain ⟨c,hm⟩:=zh4 (env:=X.env) (acc:=[]) m
   exact zc7 hm
  rcases hx with hx | hx
  ·obtain ⟨k',q,z⟩:=zdO (dsc:=[]) hx
   rcases z with rfl | ⟨rfl,_⟩
   ·exact absurd rfl (hcell _ (PySem.mem_of_lookup q))
   ·exact fin (PySem.mem_of_lookup q)
  ·obtain ⟨k',q,z⟩:=zdO (dsc:=[]) hx
   rcases z with rfl | ⟨_,z⟩
   ·exact fin (PySem.mem_of_lookup q)
   ·cases z
 ·have hm:(some i,x) ∈ caps.zip N:=by
   have:(caps.zip N)[j]? = some (some i,x):=by rw [List.getElem?_zip_eq_some]; exact ⟨h1,h2⟩
   exact List.mem_of_getElem? this
  have q:=hz _ hm
  simp only [Bool.and_eq_true,beq_iff_eq] at q
  obtain ⟨⟨q1,q2⟩,q3⟩:=q
  obtain ⟨c,hmc⟩:=zh4 (env:=X.env) (acc:=[]) (PySem.mem_of_lookup q3)
  obtain ⟨c',hc'⟩:=zc7 hmc
  refine ⟨q1,.inr (.inl q2),fun z=>?_,c',hc',.inl (zg8 hdk q2 q3)⟩
  have z':X.env.scope.names.lookup x = some .local:=z
  rw [q2] at z'
  cases z'
end
section
section
variable {X:Cx}
def ztN:R2:=fun x y H Q=>∃ z n,x = .str z/\y = .int n/\z.length <= 1000/\n <= 1000/\-1000 <= n/\Q (.str (PySem.Txt.mul z n)) H
theorem zus {z:Str} {n:Int} (h1:z.length <= 1000) (h2:n <= 1000) (h3:-1000 <= n):PySem.MulOk z n:=by
 refine ⟨by simp; omega,fun a _ b=>?_,fun a _=>?_⟩
 ·have e:(1000:Int) <= (2 ^ 63 - 1) / n:=by
   rw [Int.le_ediv_iff_mul_le (by omega)]
   have:=Int.mul_le_mul_of_nonneg_left h2 (show (0:Int) <= 1000 by decide)
   omega
  omega
 ·have e:z.length * n.toNat <= 1000 * 1000:=Nat.mul_le_mul h1 (by omega)
  unfold Builtin.Str.tooLong
  simp only [decide_eq_false_iff_not,Nat.not_lt]
  exact Nat.le_trans e (by decide)
theorem zrB:OpR X (binaryOp .Mult) ztN:=by
 intro zk s σ H x y v u Q I rx ry h
 obtain ⟨z,n,rfl,rfl,h1,h2,h3,q⟩:=h
 obtain ⟨t,rfl⟩:=rx
 obtain ⟨t',rfl⟩:=ry
 exact PySem.SB.mul (zus h1 h2 h3) fun _ k=>⟨.str _,H,I.tok _,⟨_,rfl⟩,q⟩
def zwd:V->Option Int->Option Int->Hp->VK->Prop:=fun x lo hi H Q=>∃ z,x = .str z/\z.length <= sizeLine/\Q (.str (PySem.Txt.slice z lo hi)) H
theorem ztJ:SlR X zwd:=by
 intro zk s σ H x v vl vu lo hi sl Q I rx hs pl pu h
 obtain ⟨z,rfl,hz,q⟩:=h
 obtain ⟨t,rfl⟩:=rx
 refine ⟨"str",_,F.slot_str_getitem.lookup,typeIs_str _ _ _,?_⟩
 have fin:∀ (a b:Option (Int × Tok)),a.map (·.1) = lo->b.map (·.1) = hi->s.heap.IsSlice sl a b none->wpAny (model X.prog X.w) X.A (getItem (.str z t) (.ref sl)) (EP X zk σ Q) X.xe s:=fun a b e1 e2 hsl=>by
  subst e1 e2
  exact wpAny_getItem_str_slice (l:=a) (u:=b) (st:=none) hsl rfl (post_val_or_str ⟨Nat.le_trans (PySem.Txt.slice_le z _ _) hz,fun _ k=>⟨.str _,H,I.tok _,⟨_,rfl⟩,q⟩⟩)
 cases pl with
 | none =>
  cases pu with
  | none=>exact fin none none rfl rfl hs
  | int j tj=>exact fin none (some (j,tj)) rfl rfl hs
 | int i ti =>
  cases pu with
  | none=>exact fin (some (i,ti)) none rfl rfl hs
  | int j tj=>exact fin (some (i,ti)) (some (j,tj)) rfl rfl hs
theorem zhe:∀ {zs:List Str} {us:List Value},Vals (zs.map V.str) us->StrsAre us zs
 | [],_,.nil=>.nil
 | z :: zs,_,.cons r t=>by
  obtain ⟨tk,rfl⟩:=r
  exact .cons z tk (zhe t)
def zty (K:W.Frag):V->List V->Hp->VK->Prop:=fun x vs H Q=>∃ z a zs,x = .str z/\vs = [.ref a]/\SqL K H a (zs.map V.str)/\z.length <= 16/\zs.length <= 1000/\(∀ y ∈ zs,y.length <= 1000)/\Q (.str (PySem.Txt.join z zs)) H
theorem zja {zs:List Str} (h:∀ y ∈ zs,y.length <= 1000):(zs.map (·.length)).sum <= zs.length * 1000:=by
 induction zs with
 | nil=>simp
 | cons z zs ih =>
  have h1:=h z List.mem_cons_self
  have h2:=ih fun y hy=>h y (List.mem_cons_of_mem _ hy)
  simp only [List.map_cons,List.sum_cons,List.length_cons,Nat.add_mul,Nat.one_mul]
  omega
theorem zrY:MtR X "str.join" (zty X.K):=by
 intro zk s σ H x vs v us Q I rx rv h
 obtain ⟨z,a,zs,rfl,rfl,hq,hz,hn,hl,q⟩:=h
 obtain ⟨t,rfl⟩:=rx
 obtain ⟨u,rfl,r1⟩:=rv.one
 cases r1
 obtain ⟨its,r,pl,hsz⟩:=I.list hq
 have hs:=zja hl
 refine join_listW pl.isList (by simpa using zhe r) hz (by omega) fun _ k=>⟨.str _,H,I.tok _,⟨_,rfl⟩,q⟩
end
section
variable {K:W.Frag} {o:List Addr} {σ:St} {H0:Hp} {t:TE} {ta:TA} {ds:List PyData}
def zhE (lo:Int) (n:Nat):List PyData:=(List.range n).map fun k:Nat=>.int (lo + k)
theorem zah {lo:Int} {n:Nat}:(zhE lo n).length = n:=by simp [zhE]
theorem zco {lo:Int} {n i:Nat} {d:PyData} (h:(zhE lo n)[i]? = some d):i < n/\d = .int (lo + i):=by
 have hi:i < n:=by
  have:=List.getElem?_eq_some_iff.mp h
  obtain ⟨hl,_⟩:=this
  rwa [zah] at hl
 refine ⟨hi,?_⟩
 simp only [zhE,List.getElem?_map,List.getElem?_range hi,Option.map_some,Option.some.injEq] at h
 exact h.symm
end
theorem zoY {y:Str} {zs:List Str} (hy:y.length <= 16) (hz:∀ z ∈ zs,z.length <= 1000):(PySem.Txt.join y zs).length <= zs.length * 1016:=by
 show (Builtin.Str.glued y zs).length <= _
 rw [StrLaws.glued_eq_join]
 cases zs with
 | nil=>exact Nat.zero_le _
 | cons a r =>
  rw [len_join_cons]
  have h1:=zja hz
  have h2:r.length * y.length <= r.length * 16:=Nat.mul_le_mul_left _ hy
  simp only [List.length_cons] at h1 ⊢
  omega
def zeb {α:Type} (xs:List α) (lo hi:Option Int):List α:=(xs.drop (HT.sIx xs.length 0 lo)).take (HT.sIx xs.length xs.length hi - HT.sIx xs.length 0 lo)
theorem HasL.drop {H:Hp}:∀ {ds:List PyData} {vs:List V} (n:Nat),HasL H ds vs->HasL H (ds.drop n) (vs.drop n)
 | ds,vs,0,h=>h
 | [],vs,n + 1,h=>by rw [zV.mp h]; exact zV.mpr rfl
 | d :: ds,vs,n + 1,h=>by
  obtain ⟨v,r,rfl,_,l⟩:=zI.mp h
  exact HasL.drop n l
theorem HasL.take {H:Hp}:∀ {ds:List PyData} {vs:List V} (n:Nat),HasL H ds vs->HasL H (ds.take n) (vs.take n)
 | ds,vs,0,h=>zV.mpr rfl
 | [],vs,n + 1,h=>by rw [zV.mp h]; exact zV.mpr rfl
 | d :: ds,vs,n + 1,h=>by
  obtain ⟨v,r,rfl,q,l⟩:=zI.mp h
  exact zI.mpr ⟨v,_,rfl,q,HasL.take n l⟩
theorem HasL.cut {H:Hp} {ds:List PyData} {vs:List V} (lo hi:Option Int) (h:HasL H ds vs):HasL H (zeb ds lo hi) (zkj vs lo hi):=by
 unfold zeb zkj
 rw [h.length]
 exact (h.drop _).take _
theorem HasL.rev {H:Hp}:∀ {ds:List PyData} {vs:List V},HasL H ds vs->HasL H ds.reverse vs.reverse
 | [],vs,h=>by rw [zV.mp h]; exact zV.mpr rfl
 | d :: ds,vs,h=>by
  obtain ⟨v,r,rfl,q,l⟩:=zI.mp h
  rw [List.reverse_cons,List.reverse_cons]
  exact (HasL.rev l).append (zI.mpr ⟨v,[],rfl,q,zV.mpr rfl⟩)
end
section
theorem zqp:∀ {l:List Addr} {H:Hp} {b:Addr} {u:HO},vw l H b = some u ↔ b ∉ l/\H b = some u
 | [],H,b,u=>by simp [vw]
 | a :: r,H,b,u=>by
  show hid a (vw r H) b = some u ↔ _
  by_cases h:b = a
  ·subst h; simp [zoL]
  ·rw [zuu h,zqp]; simp [h]
def vx (h o:List Addr) (H:Hp):Hp:=vw (h ++ o) H
theorem zae {h o:List Addr} {H:Hp} {b:Addr} {u:HO}:vx h o H b = some u ↔ b ∉ h/\b ∉ o/\H b = some u:=by
 unfold vx
 rw [zqp]
 simp [and_assoc]
theorem zaj {h o:List Addr} {H:Hp}:Same (vx h o H) H:=fun b u e=>(zae.mp e).2.2
theorem zc8 {h o:List Addr} {H H':Hp} (s:Same H H'):Same (vx h o H) (vx h o H'):=fun b u e=>by
 obtain ⟨h1,h2,h3⟩:=zae.mp e
 exact zae.mpr ⟨h1,h2,s b u h3⟩
structure Ex (o:List Addr) (H:Hp) (o':List Addr) (H':Hp):Prop where
 pre:∃ r,o' = o ++ r
 kp:∀ b u,b ∉ o->H b = some u->b ∉ o'/\H' b = some u
section
variable {h o o' o'':List Addr} {H H' H'':Hp} {S:List (List PyData)} {p a:Addr}
theorem Ex.refl:Ex o H o H:=⟨⟨[],by simp⟩,fun _ _ a b=>⟨a,b⟩⟩
theorem Ex.trans (a:Ex o H o' H') (b:Ex o' H' o'' H''):Ex o H o'' H'':=by
 obtain ⟨⟨r,e⟩,ka⟩:=a
 obtain ⟨⟨t,e'⟩,kb⟩:=b
 refine ⟨⟨r ++ t,by rw [e',e,List.append_assoc]⟩,fun b u h1 h2=>?_⟩
 obtain ⟨h3,h4⟩:=ka b u h1 h2
 exact kb b u h3 h4
theorem Ex.vx (e:Ex o H o' H'):Same (L2.vx h o H) (L2.vx h o' H'):=fun b u q=>by
 obtain ⟨h1,h2,h3⟩:=zae.mp q
 obtain ⟨h4,h5⟩:=e.kp b u h2 h3
 exact zae.mpr ⟨h1,h4,h5⟩
structure ExH (h o:List Addr) (H:Hp) (o':List Addr) (H':Hp):Prop where
 pre:∃ r,o' = o ++ r
 kp:∀ b u,b ∉ h->b ∉ o->H b = some u->b ∉ o'/\H' b = some u
theorem Ex.hid (e:Ex o H o' H'):ExH h o H o' H':=⟨e.pre,fun b u _=>e.kp b u⟩
theorem ExH.refl:ExH h o H o H:=Ex.refl.hid
theorem ExH.trans (a:ExH h o H o' H') (b:ExH h o' H' o'' H''):ExH h o H o'' H'':=by
 obtain ⟨⟨r,e⟩,ka⟩:=a
 obtain ⟨⟨t,e'⟩,kb⟩:=b
 refine ⟨⟨r ++ t,by rw [e',e,List.append_assoc]⟩,fun b u h0 h1 h2=>?_⟩
 obtain ⟨h3,h4⟩:=ka b u h0 h1 h2
 exact kb b u h0 h3 h4
theorem ExH.vx (e:ExH h o H o' H'):Same (L2.vx h o H) (L2.vx h o' H'):=fun b u q=>by
 obtain ⟨h1,h2,h3⟩:=zae.mp q
 obtain ⟨h4,h5⟩:=e.kp b u h1 h2 h3
 exact zae.mpr ⟨h1,h4,h5⟩
theorem Ex.of_same (s:Same H H'):Ex o H o H':=⟨⟨[],by simp⟩,fun b u h e=>⟨h,s b u e⟩⟩
theorem zeq {α:Type} {l t:List α} {k:Nat} {a:α} (q:l[k]? = some a):(l ++ t)[k]? = some a:=by
 obtain ⟨hk,_⟩:=List.getElem?_eq_some_iff.mp q
 rw [List.getElem?_append_left hk]
 exact q
def exO (a C:Addr) (d:Option Addr):HO:=.ext fun h=>∃ o,h.get? a = some o/\o.cls = .ref C/\o.dict = d/\∃ vs,o.data = .fields vs
def xw (dx:Addr) (fs:List (Str × V)):HO:=.ext fun h=>∃ mA,h.Ns1 dx mA/\(∀ f,RelO (fs.lookup f) (mA f))/\PySem.Within mA (fs.map (·.1))
def HasE (H:Hp) (C:Addr) (fs:List (Str × PyData)) (v:V):Prop:=∃ a d,v = .ref a/\H a = some (exO a C d)/\∀ f dt,fs.lookup f = some dt->∃ dx vs u,d = some dx/\H dx = some (xw dx vs)/\vs.lookup f = some u/\Has H dt u
theorem HasE.mono {H H':Hp} {C:Addr} {fs:List (Str × PyData)} {v:V} (s:Same H H') (q:HasE H C fs v):HasE H' C fs v:=by
 obtain ⟨a,d,e,ha,hf⟩:=q
 refine ⟨a,d,e,s _ _ ha,fun f dt l=>?_⟩
 obtain ⟨dx,vs,u,e1,e2,e3,e4⟩:=hf f dt l
 exact ⟨dx,vs,u,e1,s _ _ e2,e3,Has.mono s _ _ e4⟩
inductive XV where
 | d (d:PyData)
 | l (k:Nat)
 | o (v:V)
 | x (C:Addr) (fs:List (Str × PyData))
def HasX (h o:List Addr) (H:Hp):XV->V->Prop
 | .d d,v=>Has (vx h o H) d v
 | .l k,v=>∃ a,o[k]? = some a/\v = .ref a
 | .o w,v=>v = w
 | .x C fs,v=>HasE (vx h o H) C fs v
theorem HasX.mono (e:Ex o H o' H'):∀ {x:XV} {v:V},HasX h o H x v->HasX h o' H' x v
 | .d d,v,q=>Has.mono e.vx d v q
 | .l k,v,⟨a,q,r⟩=>by
  obtain ⟨t,rfl⟩:=e.pre
  exact ⟨a,zeq q,r⟩
 | .o w,v,q=>q
 | .x C fs,v,q=>HasE.mono e.vx q
def HasXs (h o:List Addr) (H:Hp):List XV->List V->Prop
 | [],vs=>vs = []
 | x :: xs,vs=>∃ v r,vs = v :: r/\HasX h o H x v/\HasXs h o H xs r
abbrev Sto:=List (List PyData)
inductive MO where
 | l (vs:List V)
 | k (m:List (Key × V))
 | t (m:List (List Key × V))
def MO.ho:MO->HO
 | .l vs=>.lst vs
 | .k m=>.dK m
 | .t m=>.dT m
structure RepS (h o:List Addr) (H:Hp) (S:Sto):Prop where
 len:S.length = o.length
 nd:o.Nodup
 dis:∀ a ∈ o,a ∉ h
 hal:∀ b ∈ h,∃ u:MO,H b = some u.ho
 cont:∀ (k:Nat) (a:Addr) (ds:List PyData),o[k]? = some a->S[k]? = some ds->∃ vs,H a = some (.lst vs)/\HasL (vx h o H) ds vs
theorem zpx {α β:Type} {l:List α} {t:List β} {k:Nat} {a:α} (hl:t.length = l.length) (q:l[k]? = some a):∃ b,t[k]? = some b:=by
 obtain ⟨hk,_⟩:=List.getElem?_eq_some_iff.mp q
 exact ⟨t[k]'(by omega),List.getElem?_eq_getElem _⟩
theorem RepS.oal (r:RepS h o H S):∀ a ∈ o,∃ u,H a = some (.lst u):=fun a ha=>by
 obtain ⟨k,hk⟩:=List.mem_iff_getElem?.mp ha
 obtain ⟨ds,e⟩:=zpx r.len hk
 obtain ⟨vs,e',_⟩:=r.cont k a ds hk e
 exact ⟨_,e'⟩
theorem RepS.oam (r:RepS h o H S):∀ a ∈ o,∃ u:MO,H a = some u.ho:=fun a ha=>let ⟨u,e⟩:=r.oal a ha; ⟨.l u,e⟩
theorem RepS.fresh (r:RepS h o H S) (hp:H p = none):p ∉ h/\p ∉ o:=by
 constructor
 ·intro m
  obtain ⟨u,e⟩:=r.hal p m
  rw [hp] at e
  cases e
 ·intro m
  obtain ⟨u,e⟩:=r.oal p m
  rw [hp] at e
  cases e
theorem RepS.same (r:RepS h o H S) (s:Same H H'):RepS h o H' S where
 len:=r.len
 nd:=r.nd
 dis:=r.dis
 hal:=fun b m=>by obtain ⟨u,e⟩:=r.hal b m; exact ⟨u,s b _ e⟩
 cont:=fun k a ds e1 e2=>by
  obtain ⟨vs,e3,l⟩:=r.cont k a ds e1 e2
  exact ⟨vs,s _ _ e3,HasL.mono (zc8 s) _ _ l⟩
theorem RepS.laid {u:HO} (r:RepS h o H S) (hp:H p = none):vx h o (upd H p u) p = some u:=by
 obtain ⟨h1,h2⟩:=r.fresh hp
 exact zae.mpr ⟨h1,h2,zN⟩
theorem Ex.new {u:HO} (r:RepS h o H S) (hp:H p = none):Ex o H (o ++ [p]) (upd H p u):=by
 refine ⟨⟨[p],rfl⟩,fun b w hb e=>?_⟩
 have ne:b ≠ p:=zX e hp
 exact ⟨by simp [hb,ne],by rw [zO ne]; exact e⟩
theorem zcK {α:Type} {l:List α} {a:α} (h:l.Nodup) (n:a ∉ l):(l ++ [a]).Nodup:=by
 rw [List.nodup_append]
 refine ⟨h,by simp,fun x hx y hy e=>?_⟩
 rw [List.mem_singleton] at hy
 subst hy
 subst e
 exact n hx
theorem RepS.new {ds:List PyData} {vs:List V} (r:RepS h o H S) (hp:H p = none) (l:HasL (vx h o H) ds vs):RepS h (o ++ [p]) (upd H p (.lst vs)) (S ++ [ds]):=by
 obtain ⟨h1,h2⟩:=r.fresh hp
 have ex:Ex o H (o ++ [p]) (upd H p (.lst vs)):=Ex.new r hp
 refine ⟨by simp [r.len],zcK r.nd h2,fun a ha=>?_,fun b hb=>?_,fun k a es e1 e2=>?_⟩
 ·rcases List.mem_append.mp ha with ha | ha
  ·exact r.dis a ha
  ·rw [List.mem_singleton.mp ha]; exact h1
 ·obtain ⟨u,e⟩:=r.hal b hb
  exact ⟨u,by rw [zO (zX e hp)]; exact e⟩
 ·by_cases hk:k < o.length
  ·rw [List.getElem?_append_left hk] at e1
   rw [List.getElem?_append_left (by rw [r.len]; exact hk)] at e2
   obtain ⟨ws,e3,l3⟩:=r.cont k a es e1 e2
   refine ⟨ws,?_,l3.mono ex.vx⟩
   rw [zO (zX e3 hp)]
   exact e3
  ·have hk':k = o.length:=by
    obtain ⟨q,_⟩:=List.getElem?_eq_some_iff.mp e1
    rw [List.length_append,List.length_singleton] at q
    omega
   subst hk'
   rw [List.getElem?_concat_length] at e1
   rw [<- r.len,List.getElem?_concat_length] at e2
   cases e1
   cases e2
   exact ⟨vs,zN,l.mono ex.vx⟩
theorem Ex.upd {k:Nat} {u:HO} (e:o[k]? = some a):Ex o H o (L2.upd H a u) :=
 ⟨⟨[],by simp⟩,fun b w hb eb=>⟨hb,by rw [zO (fun z=>hb (by rw [z]; exact List.mem_of_getElem? e))]; exact eb⟩⟩
theorem zev {l:List Addr} (h:l.Nodup) {i j:Nat} {a:Addr} (e1:l[i]? = some a) (e2:l[j]? = some a):i = j:=by
 obtain ⟨hi,e1⟩:=List.getElem?_eq_some_iff.mp e1
 obtain ⟨hj,e2⟩:=List.getElem?_eq_some_iff.mp e2
 exact (List.getElem_inj h).mp (e1.trans e2.symm)
theorem RepS.upd {k:Nat} {ds:List PyData} {vs:List V} (r:RepS h o H S) (e:o[k]? = some a) (l:HasL (vx h o H) ds vs):RepS h o (L2.upd H a (.lst vs)) (S.set k ds):=by
 have ex:Ex o H o (L2.upd H a (.lst vs)):=Ex.upd e
 refine ⟨by simp [r.len],r.nd,r.dis,fun b hb=>?_,fun j b es e1 e2=>?_⟩
 ·obtain ⟨u,eb⟩:=r.hal b hb
  have ne:b ≠ a:=fun z=>r.dis a (List.mem_of_getElem? e) (z ▸ hb)
  exact ⟨u,by rw [zO ne]; exact eb⟩
 ·by_cases hj:j = k
  ·subst hj
   rw [e1] at e
   cases e
   obtain ⟨hk,_⟩:=List.getElem?_eq_some_iff.mp e1
   rw [List.getElem?_set_self (by rw [r.len]; exact hk)] at e2
   cases e2
   exact ⟨vs,zN,l.mono ex.vx⟩
  ·rw [List.getElem?_set_ne (Ne.symm hj)] at e2
   obtain ⟨ws,e3,l3⟩:=r.cont j b es e1 e2
   have ne:b ≠ a:=fun z=>hj (zev r.nd e1 (z ▸ e))
   exact ⟨ws,by rw [zO ne]; exact e3,l3.mono ex.vx⟩
abbrev XE:=List (Option XV)
structure RepE (h o:List Addr) (H:Hp) (δ:XE) (σ:St):Prop where
 len:δ.length = σ.length
 get:∀ (i:Nat) x,δ[i]? = some (some x)->∃ v,σ[i]? = some (some v)/\HasX h o H x v
variable {δ:XE} {σ:St}
theorem RepE.mono (r:RepE h o H δ σ) (e:Ex o H o' H'):RepE h o' H' δ σ:=⟨r.len,fun i x q=>by
 obtain ⟨v,e1,e2⟩:=r.get i x q
 exact ⟨v,e1,e2.mono e⟩⟩
theorem RepE.set {i:Nat} {x:XV} {v:V} (r:RepE h o H δ σ) (q:HasX h o H x v):RepE h o H (δ.set i (some x)) (σ.set i (some v)):=by
 refine ⟨by simp [r.len],fun j y e=>?_⟩
 rw [List.getElem?_set] at e ⊢
 by_cases hij:i = j
 ·rw [if_pos hij] at e ⊢
  by_cases hl:i < δ.length
  ·rw [if_pos hl] at e
   rw [if_pos (by rw [<- r.len]; exact hl)]
   cases e
   exact ⟨v,rfl,q⟩
  ·rw [if_neg hl] at e
   cases e
 ·rw [if_neg hij] at e ⊢
  exact r.get j y e
def zqH (caps:List (Option Nat)) (δ:XE):XE:=caps.map fun o=>o.bind fun i=>(δ[i]?).join
theorem RepE.tau {caps:List (Option Nat)} (r:RepE h o H δ σ):RepE h o H (zqH caps δ) (L2.tau caps σ):=by
 refine ⟨by simp [zqH,L2.tau],fun i x e=>?_⟩
 unfold zqH at e
 unfold L2.tau
 rw [List.getElem?_map] at e ⊢
 cases hc:caps[i]? with
 | none=>rw [hc] at e; cases e
 | some c =>
  rw [hc] at e
  cases c with
  | none=>cases e
  | some j =>
   have e':(δ[j]?).join = some x:=by simpa using e
   have e2:δ[j]? = some (some x):=by
    cases hd:δ[j]? with
    | none=>rw [hd] at e'; cases e'
    | some y=>rw [hd] at e'; exact congrArg some (by simpa using e')
   obtain ⟨v,e3,e4⟩:=r.get j x e2
   exact ⟨v,by simp [e3],e4⟩
end
abbrev RX:=XV->Sto->Prop
abbrev DE:=XE->Sto->RX->Prop
abbrev DT:=XE->Sto->(Bool->Sto->Prop)->Prop
abbrev DA:=XE->Sto->(List XV->Sto->Prop)->Prop
abbrev D2:=XV->XV->Sto->RX->Prop
def Cn (h o:List Addr) (H:Hp) (R:RX) (Q:VK):Prop:=∀ o' H' S' x v,Ex o H o' H'->RepS h o' H' S'->HasX h o' H' x v->R x S'->Q v H'
theorem Cn.pre {h o o':List Addr} {H H':Hp} {R:RX} {Q:VK} (c:Cn h o H R Q) (e:Ex o H o' H'):Cn h o' H' R Q:=fun o2 H2 S2 x v e2=>c o2 H2 S2 x v (e.trans e2)
def RE (t:TE) (dt:DE):Prop:=∀ (h o:List Addr) (H:Hp) (δ:XE) (σ:St) (S:Sto) (R:RX) (Q:VK),RepE h o H δ σ->RepS h o H S->dt δ S R->Cn h o H R Q->t σ H Q
def RT (t:TT) (dt:DT):Prop:=∀ (h o:List Addr) (H:Hp) (δ:XE) (σ:St) (S:Sto) (R:Bool->Sto->Prop) (Q:Bool->Hp->Prop),RepE h o H δ σ->RepS h o H S->dt δ S R ->
 (∀ o' H' S' b,Ex o H o' H'->RepS h o' H' S'->R b S'->Q b H')->t σ H Q
def RA (t:TA) (dt:DA):Prop:=∀ (h o:List Addr) (H:Hp) (δ:XE) (σ:St) (S:Sto) (R:List XV->Sto->Prop) (Q:List V->Hp->Prop),RepE h o H δ σ->RepS h o H S->dt δ S R ->
 (∀ o' H' S' xs vs,Ex o H o' H'->RepS h o' H' S'->HasXs h o' H' xs vs->R xs S'->Q vs H')->t σ H Q
def RO (r:R2) (rd:D2):Prop:=∀ (h o:List Addr) (H:Hp) (S:Sto) (x y:XV) (v u:V) (R:RX) (Q:VK),RepS h o H S->HasX h o H x v->HasX h o H y u->rd x y S R->Cn h o H R Q->r v u H Q
def RU (r:V->Hp->VK->Prop) (rd:XV->Sto->RX->Prop):Prop:=∀ (h o:List Addr) (H:Hp) (S:Sto) (x:XV) (v:V) (R:RX) (Q:VK),RepS h o H S->HasX h o H x v->rd x S R->Cn h o H R Q->r v H Q
def RC (r:List V->Hp->VK->Prop) (rd:List XV->Sto->RX->Prop):Prop:=∀ (h o:List Addr) (H:Hp) (S:Sto) (xs:List XV) (vs:List V) (R:RX) (Q:VK),RepS h o H S->HasXs h o H xs vs->rd xs S R->Cn h o H R Q->r vs H Q
def asI:XV->(Int->Prop)->Prop
 | .d (.int i),k=>k i
 | _,_=>False
def asB:XV->(Bool->Prop)->Prop
 | .d (.bool i),k=>k i
 | _,_=>False
def asS:XV->(Str->Prop)->Prop
 | .d (.str i),k=>k i
 | _,_=>False
def asT:XV->(List PyData->Prop)->Prop
 | .d (.tuple i),k=>k i
 | _,_=>False
def zgP (S:Sto):XV->Option (List PyData)
 | .d (.list ds)=>some ds
 | .l k=>S[k]?
 | _=>none
def asL (S:Sto) (x:XV) (k:List PyData->Prop):Prop:=∃ ds,zgP S x = some ds/\k ds
def zb9 (S:Sto):XV->Option PyData
 | .d d=>some d
 | .l k=>(S[k]?).map .list
 | .o _=>none
 | .x _ _=>none
def asD (x:XV) (k:PyData->Prop):Prop:=match x with
 | .d d=>k d
 | _=>False
theorem zbd {x:XV} {k:Int->Prop} (h:asI x k):∃ i,x = .d (.int i)/\k i:=by
 unfold asI at h
 split at h
 ·exact ⟨_,rfl,h⟩
 ·exact h.elim
theorem ziO {x:XV} {k:Bool->Prop} (h:asB x k):∃ i,x = .d (.bool i)/\k i:=by
 unfold asB at h
 split at h
 ·exact ⟨_,rfl,h⟩
 ·exact h.elim
theorem zpS {x:XV} {k:Str->Prop} (h:asS x k):∃ i,x = .d (.str i)/\k i:=by
 unfold asS at h
 split at h
 ·exact ⟨_,rfl,h⟩
 ·exact h.elim
theorem zgh {x:XV} {k:List PyData->Prop} (h:asT x k):∃ i,x = .d (.tuple i)/\k i:=by
 unfold asT at h
 split at h
 ·exact ⟨_,rfl,h⟩
 ·exact h.elim
theorem zeK {x:XV} {k:PyData->Prop} (h:asD x k):∃ i,x = .d i/\k i:=by
 unfold asD at h
 split at h
 ·exact ⟨_,rfl,h⟩
 ·exact h.elim
section
variable {h o:List Addr} {H:Hp} {S:Sto} {x:XV} {v:V} {i:Int} {b:Bool} {z:Str} {ds:List PyData} {d:PyData}
theorem zaT (q:HasX h o H (.d (.int i)) v):v = .int i:=(zcp (H:=vx h o H)).mp q
theorem zdz (q:HasX h o H (.d (.bool b)) v):v = .bl b:=(zeP (H:=vx h o H)).mp q
theorem zeT (q:HasX h o H (.d (.str z)) v):v = .str z:=(zdw (H:=vx h o H)).mp q
theorem zdv (q:HasX h o H (.d (.tuple ds)) v):∃ a vs,v = .ref a/\H a = some (.tup vs)/\HasL (vx h o H) ds vs:=by
 obtain ⟨a,vs,e,q,l⟩:=za7.mp (show Has _ _ _ from q)
 exact ⟨a,vs,e,zaj _ _ q,l⟩
theorem zbr (r:RepS h o H S) (e:zgP S x = some ds) (q:HasX h o H x v):∃ a vs,v = .ref a/\H a = some (.lst vs)/\HasL (vx h o H) ds vs:=by
 unfold zgP at e
 split at e
 ·cases e
  obtain ⟨a,vs,e,q,l⟩:=zbs.mp (show Has _ _ _ from q)
  exact ⟨a,vs,e,zaj _ _ q,l⟩
 ·obtain ⟨a,e1,rfl⟩:=q
  obtain ⟨vs,e2,l⟩:=r.cont _ a ds e1 e
  exact ⟨a,vs,rfl,e2,l⟩
 ·cases e
theorem zdE (r:RepS h o H S) (e:zb9 S x = some d) (q:HasX h o H x v):Has H d v:=by
 unfold zb9 at e
 split at e
 ·cases e
  exact Has.mono zaj _ _ q
 ·rename_i k
  obtain ⟨a,e1,rfl⟩:=q
  cases hs:S[k]? with
  | none=>rw [hs] at e; cases e
  | some es =>
   rw [hs] at e
   cases e
   obtain ⟨vs,e2,l⟩:=r.cont k a es e1 hs
   exact zbs.mpr ⟨a,vs,rfl,e2,HasL.mono zaj _ _ l⟩
 ·cases e
 ·cases e
theorem xI (i:Int):HasX h o H (.d (.int i)) (.int i):=(zcp (H:=vx h o H)).mpr rfl
theorem xB (i:Bool):HasX h o H (.d (.bool i)) (.bl i):=(zeP (H:=vx h o H)).mpr rfl
theorem xS (i:Str):HasX h o H (.d (.str i)) (.str i):=(zdw (H:=vx h o H)).mpr rfl
theorem xN:HasX h o H (.d .none) .non:=(zfG (H:=vx h o H)).mpr rfl
theorem zoj {vs:List V} {R:RX} {Q:VK} (r:RepS h o H S) (l:HasL (vx h o H) ds vs) (c:Cn h o H R Q) (q:R (.d (.tuple ds)) S):∀ p,H p = none->Q (.ref p) (upd H p (.tup vs)):=fun p hp =>
 c o _ S (.d (.tuple ds)) _ (Ex.of_same (Same.laid hp)) (r.same (Same.laid hp)) (za7.mpr ⟨p,vs,rfl,r.laid hp,l.mono (zc8 (Same.laid hp))⟩) q
theorem zoV {vs:List V} {R:RX} {Q:VK} (r:RepS h o H S) (l:HasL (vx h o H) ds vs) (c:Cn h o H R Q) (q:R (.d (.list ds)) S):∀ p,H p = none->Q (.ref p) (upd H p (.lst vs)):=fun p hp =>
 c o _ S (.d (.list ds)) _ (Ex.of_same (Same.laid hp)) (r.same (Same.laid hp)) (zbs.mpr ⟨p,vs,rfl,r.laid hp,l.mono (zc8 (Same.laid hp))⟩) q
theorem zto {vs:List V} {R:RX} {Q:VK} (r:RepS h o H S) (l:HasL (vx h o H) ds vs) (c:Cn h o H R Q) (q:R (.l S.length) (S ++ [ds])):∀ p,H p = none->Q (.ref p) (upd H p (.lst vs)):=fun p hp =>
 c (o ++ [p]) _ (S ++ [ds]) (.l S.length) _ (Ex.new r hp) (r.new hp l) ⟨p,by rw [r.len,List.getElem?_concat_length],rfl⟩ q
theorem zeA:∀ {xs:List XV} {vs:List V} {ds:List PyData},HasXs h o H xs vs->xs = ds.map XV.d->HasL (vx h o H) ds vs
 | [],vs,[],q,_=>zV.mpr q
 | x :: xs,vs,d :: ds,⟨v,r,e,q,l⟩,e2=>by
  rw [List.map_cons] at e2
  cases e2
  exact zI.mpr ⟨v,r,e,q,zeA l rfl⟩
 | x :: xs,vs,[],_,e2=>by cases e2
 | [],vs,d :: ds,_,e2=>by cases e2
end
def datas:List XV->Option (List PyData)
 | []=>some []
 | .d d :: r=>(datas r).map (d :: ·)
 | _ :: _=>none
theorem zbP:∀ {xs:List XV} {ds:List PyData},datas xs = some ds->xs = ds.map XV.d
 | [],ds,e=>by cases e; rfl
 | .d d :: r,ds,e=>by
  unfold datas at e
  cases hr:datas r with
  | none=>rw [hr] at e; cases e
  | some es =>
   rw [hr] at e
   cases e
   rw [zbP hr]
   rfl
 | .l _ :: _,_,e=>by cases e
 | .o _ :: _,_,e=>by cases e
 | .x _ _ :: _,_,e=>by cases e
def zn (i:Nat):DE:=fun δ S R=>∃ x,δ[i]? = some (some x)/\R x S
def dC (d:PyData):DE:=fun _ S R=>R (.d d) S
def dO (v:V):DE:=fun _ S R=>R (.o v) S
def dOp (rd:D2) (a b:DE):DE:=fun δ S R=>a δ S fun x S1=>b δ S1 fun y S2=>rd x y S2 R
def dUn (rd:XV->Sto->RX->Prop) (a:DE):DE:=fun δ S R=>a δ S fun x S1=>rd x S1 R
def zv:DA:=fun _ S R=>R [] S
def ze (a:DE) (b:DA):DA:=fun δ S R=>a δ S fun x S1=>b δ S1 fun xs S2=>R (x :: xs) S2
def dCB (rd:List XV->Sto->RX->Prop) (a:DA):DE:=fun δ S R=>a δ S fun xs S1=>rd xs S1 R
def zef (a:DA):DE:=fun δ S R=>a δ S fun xs S1=>∃ ds,datas xs = some ds/\ds.length <= 1000/\R (.d (.tuple ds)) S1
def zdA (a:DA):DE:=fun δ S R=>a δ S fun xs S1=>∃ ds,datas xs = some ds/\ds.length <= 1000/\R (.d (.list ds)) S1
def zer (a:DA):DE:=fun δ S R=>a δ S fun xs S1=>∃ ds,datas xs = some ds/\ds.length <= 1000/\R (.l S1.length) (S1 ++ [ds])
section
variable {t ta tb tc:TE} {da db dc:DE} {tl:TA} {dl:DA} {tt tu:TT} {dt du:DT}
theorem zd {i:Nat}:RE (zkn i) (zn i):=fun h o H δ σ S R Q he hs ⟨x,e,q⟩ c=>by
 obtain ⟨v,e1,e2⟩:=he.get i x e
 exact ⟨v,e1,c o H S x v Ex.refl hs e2 q⟩
theorem zi {i:Int}:RE (tC (.int i)) (dC (.int i)):=fun h o H δ σ S R Q he hs q c=>c o H S _ _ Ex.refl hs (xI i) q
theorem zgQ {i:Bool}:RE (tC (.bl i)) (dC (.bool i)):=fun h o H δ σ S R Q he hs q c=>c o H S _ _ Ex.refl hs (xB i) q
theorem zaU {i:Str}:RE (tC (.str i)) (dC (.str i)):=fun h o H δ σ S R Q he hs q c=>c o H S _ _ Ex.refl hs (xS i) q
theorem ztG:RE (tC .non) (dC .none):=fun h o H δ σ S R Q he hs q c=>c o H S _ _ Ex.refl hs xN q
theorem ziP {v:V}:RE (tC v) (dO v):=fun h o H δ σ S R Q he hs q c=>c o H S (.o v) v Ex.refl hs rfl q
theorem zq {r:R2} {rd:D2} (hr:RO r rd) (ha:RE ta da) (hb:RE tb db):RE (tOp r ta tb) (dOp rd da db):=fun h o H δ σ S R Q he hs q c =>
 ha h o H δ σ S _ _ he hs q fun o1 H1 S1 x v e1 s1 x1 d1=>hb h o1 H1 δ σ S1 _ _ (he.mono e1) s1 d1 fun o2 H2 S2 y u e2 s2 y2 d2 =>
  hr h o2 H2 S2 x y v u R Q s2 (x1.mono e2) y2 d2 (c.pre (e1.trans e2))
theorem zdb {r:V->Hp->VK->Prop} {rd:XV->Sto->RX->Prop} (hr:RU r rd) (ha:RE ta da):RE (tUn r ta) (dUn rd da):=fun h o H δ σ S R Q he hs q c =>
 ha h o H δ σ S _ _ he hs q fun o1 H1 S1 x v e1 s1 x1 d1=>hr h o1 H1 S1 x v R Q s1 x1 d1 (c.pre e1)
theorem zf:RA zsu zv:=fun h o H δ σ S R Q he hs q c=>c o H S [] [] Ex.refl hs rfl q
theorem za (ha:RE ta da) (hb:RA tl dl):RA (zl2 ta tl) (ze da dl):=fun h o H δ σ S R Q he hs q c =>
 ha h o H δ σ S _ _ he hs q fun o1 H1 S1 x v e1 s1 x1 d1=>hb h o1 H1 δ σ S1 _ _ (he.mono e1) s1 d1 fun o2 H2 S2 xs vs e2 s2 x2 d2 =>
  c o2 H2 S2 (x :: xs) (v :: vs) (e1.trans e2) s2 ⟨v,vs,rfl,x1.mono e2,x2⟩ d2
theorem zas {r:List V->Hp->VK->Prop} {rd:List XV->Sto->RX->Prop} (hr:RC r rd) (ha:RA tl dl):RE (tCB r tl) (dCB rd dl):=fun h o H δ σ S R Q he hs q c =>
 ha h o H δ σ S _ _ he hs q fun o1 H1 S1 xs vs e1 s1 x1 d1=>hr h o1 H1 S1 xs vs R Q s1 x1 d1 (c.pre e1)
theorem za6 (ha:RA tl dl):RE (zvQ tl) (zef dl):=fun h o H δ σ S R Q he hs q c =>
 ha h o H δ σ S _ _ he hs q fun o1 H1 S1 xs vs e1 s1 x1 ⟨ds,e,hl,d1⟩=>by
  have l:=zeA x1 (zbP e)
  exact ⟨by rw [l.length]; exact Nat.le_of_lt (small1000 hl),zoj s1 l (c.pre e1) d1⟩
theorem zaP (ha:RA tl dl):RE (zss tl) (zdA dl):=fun h o H δ σ S R Q he hs q c =>
 ha h o H δ σ S _ _ he hs q fun o1 H1 S1 xs vs e1 s1 x1 ⟨ds,e,hl,d1⟩=>by
  have l:=zeA x1 (zbP e)
  exact ⟨by rw [l.length]; exact Nat.le_of_lt (small1000 hl),zoV s1 l (c.pre e1) d1⟩
theorem zdL (ha:RA tl dl):RE (zss tl) (zer dl):=fun h o H δ σ S R Q he hs q c =>
 ha h o H δ σ S _ _ he hs q fun o1 H1 S1 xs vs e1 s1 x1 ⟨ds,e,hl,d1⟩=>by
  have l:=zeA x1 (zbP e)
  exact ⟨by rw [l.length]; exact Nat.le_of_lt (small1000 hl),zto s1 l (c.pre e1) d1⟩
def dB (a:DE):DT:=fun δ S R=>a δ S fun x S1=>asB x fun b=>R b S1
def zil (a:DT):DT:=fun δ S R=>a δ S fun b S1=>R (!b) S1
def zu1 (a b:DT):DT:=fun δ S R=>a δ S fun x S1=>if x = true then b δ S1 R else R false S1
def dOr (a b:DT):DT:=fun δ S R=>a δ S fun x S1=>if x = true then R true S1 else b δ S1 R
def zi7 (a b:DE):DE:=fun δ S R=>a δ S fun x S1=>asB x fun c=>if c = true then b δ S1 R else R (.d (.bool false)) S1
def zwj (a b:DE):DE:=fun δ S R=>a δ S fun x S1=>asB x fun c=>if c = true then R (.d (.bool true)) S1 else b δ S1 R
def zl9 (a:DE):DE:=fun δ S R=>a δ S fun x S1=>asB x fun c=>R (.d (.bool (!c))) S1
def dIf (c:DT) (a b:DE):DE:=fun δ S R=>c δ S fun x S1=>if x = true then a δ S1 R else b δ S1 R
theorem zf4 (ha:RE ta da):RT (zok ta) (dB da):=fun h o H δ σ S R Q he hs q c =>
 ha h o H δ σ S _ _ he hs q fun o1 H1 S1 x v e1 s1 x1 d1=>by
  replace d1:=ziO d1
  obtain ⟨b,rfl,d1⟩:=d1
  exact ⟨b,zdz x1,c o1 H1 S1 b e1 s1 d1⟩
theorem zcT (ha:RT tt dt):RT (zvX tt) (zil dt):=fun h o H δ σ S R Q he hs q c =>
 ha h o H δ σ S _ _ he hs q fun o1 H1 S1 b e1 s1 d1=>c o1 H1 S1 _ e1 s1 d1
theorem ztI (ha:RT tt dt) (hb:RT tu du):RT (zvU tt tu) (zu1 dt du):=fun h o H δ σ S R Q he hs q c =>
 ha h o H δ σ S _ _ he hs q fun o1 H1 S1 b e1 s1 d1=>by
  cases b with
  | true=>exact zqi (hb h o1 H1 δ σ S1 R Q (he.mono e1) s1 (by simpa using d1) fun o2 H2 S2 b e2=>c o2 H2 S2 b (e1.trans e2))
  | false=>exact zq1 (c o1 H1 S1 false e1 s1 (by simpa using d1))
theorem zjk (ha:RT tt dt) (hb:RT tu du):RT (tOr tt tu) (dOr dt du):=fun h o H δ σ S R Q he hs q c =>
 ha h o H δ σ S _ _ he hs q fun o1 H1 S1 b e1 s1 d1=>by
  cases b with
  | false=>exact zq1 (hb h o1 H1 δ σ S1 R Q (he.mono e1) s1 (by simpa using d1) fun o2 H2 S2 b e2=>c o2 H2 S2 b (e1.trans e2))
  | true=>exact zqi (c o1 H1 S1 true e1 s1 (by simpa using d1))
theorem zkG (ha:RE ta da) (hb:RE tb db):RE (ztY ta tb) (zi7 da db):=fun h o H δ σ S R Q he hs q c =>
 ha h o H δ σ S _ _ he hs q fun o1 H1 S1 x v e1 s1 x1 d1=>by
  replace d1:=ziO d1
  obtain ⟨b,rfl,d1⟩:=d1
  refine ⟨b,zdz x1,?_⟩
  cases b with
  | true=>exact zqi (hb h o1 H1 δ σ S1 R Q (he.mono e1) s1 (by simpa using d1) (c.pre e1))
  | false=>exact zq1 (c o1 H1 S1 _ _ e1 s1 (xB false) (by simpa using d1))
theorem zqv (ha:RE ta da):RE (ztF ta) (zl9 da):=fun h o H δ σ S R Q he hs q c =>
 ha h o H δ σ S _ _ he hs q fun o1 H1 S1 x v e1 s1 x1 d1=>by
  replace d1:=ziO d1
  obtain ⟨b,rfl,d1⟩:=d1
  exact ⟨b,zdz x1,c o1 H1 S1 _ _ e1 s1 (xB _) d1⟩
def zeZ (rd rd':D2) (a b e:DE):DE:=fun δ S R=>a δ S fun x S1=>b δ S1 fun y S2=>rd x y S2 fun z S3=>asB z fun k=>if k = true then e δ S3 fun u S4=>rd' y u S4 R else R (.d (.bool false)) S3
theorem zd0 {r r':R2} {rd rd':D2} (hr:RO r rd) (hr':RO r' rd') (ha:RE ta da) (hb:RE tb db) (hc:RE tc dc):RE (zmP r r' ta tb tc) (zeZ rd rd' da db dc):=fun h o H δ σ S R Q he hs q c =>
 ha h o H δ σ S _ _ he hs q fun o1 H1 S1 x v e1 s1 x1 d1=>hb h o1 H1 δ σ S1 _ _ (he.mono e1) s1 d1 fun o2 H2 S2 y u e2 s2 y2 d2 =>
  hr h o2 H2 S2 x y v u _ _ s2 (x1.mono e2) y2 d2 fun o3 H3 S3 z w e3 s3 z3 d3=>by
   replace d3:=ziO d3
   obtain ⟨b,rfl,d3⟩:=d3
   refine ⟨b,zdz z3,?_⟩
   cases b with
   | false=>exact zq1 (c o3 H3 S3 _ _ ((e1.trans e2).trans e3) s3 (xB false) (by simpa using d3))
   | true=>exact zqi (hc h o3 H3 δ σ S3 _ _ (((he.mono e1).mono e2).mono e3) s3 (by simpa using d3) fun o4 H4 S4 k w' e4 s4 k4 d4=>hr' h o4 H4 S4 y k u w' R Q s4 ((y2.mono e3).mono e4) k4 d4 (c.pre (((e1.trans e2).trans e3).trans e4)))
end
def dI (C:Int->Int->Prop) (g:Int->Int->Int):D2:=fun x y S R=>asI x fun i=>asI y fun j=>C i j/\R (.d (.int (g i j))) S
def dI0 (g:Int->Int->Int):D2:=fun x y S R=>asI x fun i=>asI y fun j=>R (.d (.int (g i j))) S
def dIb (g:Int->Int->Bool):D2:=fun x y S R=>asI x fun i=>asI y fun j=>R (.d (.bool (g i j))) S
def dUI (g:Int->Int):XV->Sto->RX->Prop:=fun x S R=>asI x fun i=>R (.d (.int (g i))) S
def zid:D2:=fun x y S R=>∃ d,zb9 S x = some d/\∃ e,zb9 S y = some e/\SeqAt.shaped d = true/\SeqAt.shaped e = true/\R (.d (.bool (PyData.eqv d e))) S
def zo1:D2:=fun x y S R=>∃ d,zb9 S x = some d/\∃ e,zb9 S y = some e/\SeqAt.shaped d = true/\SeqAt.shaped e = true/\R (.d (.bool (!PyData.eqv d e))) S
def zvF:D2:=fun x _ S R=>asD x fun d=>R (.d (.bool (zpg d))) S
def zul:D2:=fun x _ S R=>asD x fun d=>R (.d (.bool (!zpg d))) S
def zwA:D2:=fun x y S R=>asT x fun ds=>asI y fun i=>∃ d,atI ds i = some d/\R (.d d) S
def zwp:D2:=fun x y S R=>asL S x fun ds=>asI y fun i=>∃ d,atI ds i = some d/\R (.d d) S
def zwB:D2:=fun x y S R=>asL S x fun ds=>asL S y fun es=>ds.length + es.length <= 1000/\R (.d (.list (ds ++ es))) S
def zvC:D2:=fun x y S R=>asT x fun ds=>asT y fun es=>ds ≠ []/\ds.length + es.length <= 1000/\R (.d (.tuple (ds ++ es))) S
section
theorem zie {C:Int->Int->Prop} {g:Int->Int->Int}:RO (rI C fun i j=>.int (g i j)) (dI C g):=fun h o H S x y v u R Q hs hx hy q c=>by
 replace q:=zbd q
 obtain ⟨i,rfl,q⟩:=q
 replace q:=zbd q
 obtain ⟨j,rfl,hc,q⟩:=q
 exact ⟨i,j,zaT hx,zaT hy,hc,c o H S _ _ Ex.refl hs (xI _) q⟩
theorem zcN {g:Int->Int->Int}:RO (rI0 fun i j=>.int (g i j)) (dI0 g):=fun h o H S x y v u R Q hs hx hy q c=>by
 replace q:=zbd q
 obtain ⟨i,rfl,q⟩:=q
 replace q:=zbd q
 obtain ⟨j,rfl,q⟩:=q
 exact ⟨i,j,zaT hx,zaT hy,c o H S _ _ Ex.refl hs (xI _) q⟩
theorem zcy {g:Int->Int->Bool}:RO (rI0 fun i j=>.bl (g i j)) (dIb g):=fun h o H S x y v u R Q hs hx hy q c=>by
 replace q:=zbd q
 obtain ⟨i,rfl,q⟩:=q
 replace q:=zbd q
 obtain ⟨j,rfl,q⟩:=q
 exact ⟨i,j,zaT hx,zaT hy,c o H S _ _ Ex.refl hs (xB _) q⟩
theorem zhT {g:Int->Int}:RU (rU fun i=>.int (g i)) (dUI g):=fun h o H S x v R Q hs hx q c=>by
 replace q:=zbd q
 obtain ⟨i,rfl,q⟩:=q
 exact ⟨i,zaT hx,c o H S _ _ Ex.refl hs (xI _) q⟩
theorem zex:RO zwm zid:=fun h o H S x y v u R Q hs hx hy q c=>by
 obtain ⟨d,q1,e,q2,q3,q4,q⟩:=q
 exact ⟨d,e,zdE hs q1 hx,zdE hs q2 hy,q3,q4,c o H S _ _ Ex.refl hs (xB _) q⟩
theorem zk3:RO zvW zo1:=fun h o H S x y v u R Q hs hx hy q c=>by
 obtain ⟨d,q1,e,q2,q3,q4,q⟩:=q
 exact ⟨d,e,zdE hs q1 hx,zdE hs q2 hy,q3,q4,c o H S _ _ Ex.refl hs (xB _) q⟩
theorem HasL.atI {H:Hp} {ds:List PyData} {vs:List V} {i:Int} {d:PyData} (l:HasL H ds vs) (e:L2.atI ds i = some d):∃ v,L2.atI vs i = some v/\Has H d v:=by
 unfold L2.atI at e ⊢
 rw [l.length]
 cases hn:ixN ds.length i with
 | none=>rw [hn] at e; cases e
 | some j =>
  rw [hn] at e
  exact l.get (show ds[j]? = some d from e)
theorem zuq {K:W.Frag}:RO (zvq K) zwA:=fun h o H S x y v u R Q hs hx hy q c=>by
 replace q:=zgh q
 obtain ⟨ds,rfl,q⟩:=q
 replace q:=zbd q
 obtain ⟨i,rfl,d,e,q⟩:=q
 obtain ⟨a,vs,rfl,ea,l⟩:=zdv hx
 obtain ⟨w,ew,hw⟩:=l.atI e
 exact ⟨a,vs,i,w,rfl,zaT hy,.of ea,ew,c o H S (.d d) w Ex.refl hs hw q⟩
theorem zp3 {K:W.Frag}:RO (zvo K) zwp:=fun h o H S x y v u R Q hs hx hy q c=>by
 obtain ⟨ds,e0,q⟩:=q
 replace q:=zbd q
 obtain ⟨i,rfl,d,e,q⟩:=q
 obtain ⟨a,vs,rfl,ea,l⟩:=zbr hs e0 hx
 obtain ⟨w,ew,hw⟩:=l.atI e
 exact ⟨a,vs,i,w,rfl,zaT hy,.of ea,ew,c o H S (.d d) w Ex.refl hs hw q⟩
theorem ztr:RO zsw zwB:=fun h o H S x y v u R Q hs hx hy q c=>by
 obtain ⟨ds,e0,es,e1,hl,q⟩:=q
 obtain ⟨a,vs,rfl,ea,la⟩:=zbr hs e0 hx
 obtain ⟨b,us,rfl,eb,lb⟩:=zbr hs e1 hy
 exact ⟨a,b,vs,us,rfl,rfl,ea,eb,by rw [la.length,lb.length]; exact Nat.le_of_lt (small1000 hl),zoV hs (la.append lb) c q⟩
theorem zr6 {K:W.Frag}:RO (zrQ K) zvC:=fun h o H S x y v u R Q hs hx hy q c=>by
 replace q:=zgh q
 obtain ⟨ds,rfl,q⟩:=q
 replace q:=zgh q
 obtain ⟨es,rfl,hn,hl,q⟩:=q
 obtain ⟨a,vs,rfl,ea,la⟩:=zdv hx
 obtain ⟨b,us,rfl,eb,lb⟩:=zdv hy
 refine ⟨a,b,vs,us,rfl,rfl,.of ea,.of eb,fun z=>?_,by rw [la.length,lb.length]; exact Nat.le_of_lt (small1000 hl),fun z=>?_,fun _=>zoj hs (la.append lb) c q⟩
 ·subst z
  have:=la.length
  exact hn (List.eq_nil_of_length_eq_zero this.symm)
 ·subst z
  have e:es = []:=List.eq_nil_of_length_eq_zero lb.length.symm
  subst e
  rw [List.append_nil] at q
  exact c o H S (.d (.tuple ds)) _ Ex.refl hs hx q
end
abbrev DO:=XE->Sto->(Option Int->Sto->Prop)->Prop
def RP (t:TO) (dt:DO):Prop:=∀ (h o:List Addr) (H:Hp) (δ:XE) (σ:St) (S:Sto) (R:Option Int->Sto->Prop) (Q:Option Int->Hp->Prop),RepE h o H δ σ->RepS h o H S->dt δ S R ->
 (∀ o' H' S' b,Ex o H o' H'->RepS h o' H' S'->R b S'->Q b H')->t σ H Q
def zb7:DO:=fun _ S R=>R none S
def zfz (a:DE):DO:=fun δ S R=>a δ S fun x S1=>asI x fun i=>R (some i) S1
theorem zga:RP znU zb7:=fun h o H δ σ S R Q he hs q c=>c o H S none Ex.refl hs q
theorem zgM {t:TE} {da:DE} (ha:RE t da):RP (zlY t) (zfz da):=fun h o H δ σ S R Q he hs q c =>
 ha h o H δ σ S _ _ he hs q fun o1 H1 S1 x v e1 s1 x1 d1=>by
  replace d1:=zbd d1
  obtain ⟨i,rfl,d1⟩:=d1
  exact ⟨i,zaT x1,c o1 H1 S1 _ e1 s1 d1⟩
abbrev D3:=XV->Option Int->Option Int->Sto->RX->Prop
def RL (r:V->Option Int->Option Int->Hp->VK->Prop) (rd:D3):Prop:=∀ (h o:List Addr) (H:Hp) (S:Sto) (x:XV) (v:V) (a b:Option Int) (R:RX) (Q:VK),RepS h o H S->HasX h o H x v->rd x a b S R->Cn h o H R Q->r v a b H Q
def dSl (rd:D3) (e:DE) (a b:DO):DE:=fun δ S R=>e δ S fun x S1=>a δ S1 fun i S2=>b δ S2 fun j S3=>rd x i j S3 R
theorem zne {r:V->Option Int->Option Int->Hp->VK->Prop} {rd:D3} {te:TE} {de:DE} {ta tb:TO} {da db:DO} (hr:RL r rd) (he':RE te de) (ha:RP ta da) (hb:RP tb db):RE (tSl r te ta tb) (dSl rd de da db):=fun h o H δ σ S R Q he hs q c =>
 he' h o H δ σ S _ _ he hs q fun o1 H1 S1 x v e1 s1 x1 d1=>ha h o1 H1 δ σ S1 _ _ (he.mono e1) s1 d1 fun o2 H2 S2 i e2 s2 d2=>hb h o2 H2 δ σ S2 _ _ ((he.mono e1).mono e2) s2 d2 fun o3 H3 S3 j e3 s3 d3 =>
  hr h o3 H3 S3 x v i j R Q s3 ((x1.mono e2).mono e3) d3 (c.pre ((e1.trans e2).trans e3))
def zwr:D3:=fun x i j S R=>asL S x fun ds=>R (.d (.list (zeb ds i j))) S
def zwq:D3:=fun x i j S R=>asT x fun ds=>¬ (HT.sIx ds.length 0 i = 0/\HT.sIx ds.length ds.length j = ds.length)/\R (.d (.tuple (zeb ds i j))) S
theorem zmg {K:W.Frag}:RL (zsS K) zwr:=fun h o H S x v a b R Q hs hx q c=>by
 obtain ⟨ds,e0,q⟩:=q
 obtain ⟨p,vs,rfl,ea,l⟩:=zbr hs e0 hx
 exact ⟨p,vs,rfl,.of ea,zoV hs (l.cut a b) c q⟩
theorem zs2 {K:W.Frag}:RL (zvB K) zwq:=fun h o H S x v a b R Q hs hx q c=>by
 replace q:=zgh q
 obtain ⟨ds,rfl,hn,q⟩:=q
 obtain ⟨p,vs,rfl,ea,l⟩:=zdv hx
 exact ⟨p,vs,rfl,.of ea,by rw [l.length]; exact hn,zoj hs (l.cut a b) c q⟩
def asQ (S:Sto):XV->Option (List PyData)
 | .d (.tuple ds)=>some ds
 | .d (.list ds)=>some ds
 | .l k=>S[k]?
 | _=>none
theorem zkK {h o:List Addr} {H:Hp} {S:Sto} {x:XV} {v:V} {ds:List PyData} (r:RepS h o H S) (e:asQ S x = some ds) (q:HasX h o H x v):∃ a vs,v = .ref a/\(H a = some (.tup vs)\/H a = some (.lst vs))/\HasL (vx h o H) ds vs:=by
 unfold asQ at e
 split at e
 ·cases e
  obtain ⟨a,vs,e,q,l⟩:=zdv q
  exact ⟨a,vs,e,.inl q,l⟩
 ·cases e
  obtain ⟨a,vs,e,q,l⟩:=zbr (x:=.d (.list ds)) (ds:=ds) r rfl q
  exact ⟨a,vs,e,.inr q,l⟩
 ·rename_i k
  obtain ⟨a,vs,e,q,l⟩:=zbr (x:=.l k) r e q
  exact ⟨a,vs,e,.inr q,l⟩
 ·cases e
def arg1:List XV->(XV->Prop)->Prop
 | [x],k=>k x
 | _,_=>False
def arg2:List XV->(XV->XV->Prop)->Prop
 | [x,y],k=>k x y
 | _,_=>False
theorem za3 {xs:List XV} {k:XV->Prop} (h:arg1 xs k):∃ x,xs = [x]/\k x:=by
 unfold arg1 at h
 split at h
 ·exact ⟨_,rfl,h⟩
 ·exact h.elim
theorem zgr {xs:List XV} {k:XV->XV->Prop} (h:arg2 xs k):∃ x y,xs = [x,y]/\k x y:=by
 unfold arg2 at h
 split at h
 ·exact ⟨_,_,rfl,h⟩
 ·exact h.elim
theorem hxs1 {h o:List Addr} {H:Hp} {x:XV} {vs:List V} (q:HasXs h o H [x] vs):∃ v,vs = [v]/\HasX h o H x v:=by
 obtain ⟨v,r,e,hx,hr⟩:=q
 cases hr
 exact ⟨v,e,hx⟩
theorem hxs2 {h o:List Addr} {H:Hp} {x y:XV} {vs:List V} (q:HasXs h o H [x,y] vs):∃ v u,vs = [v,u]/\HasX h o H x v/\HasX h o H y u:=by
 obtain ⟨v,r,e,hx,q⟩:=q
 obtain ⟨u,e',hy⟩:=hxs1 q
 subst e'
 exact ⟨v,u,e,hx,hy⟩
def zu8:XV->(String->Prop)->Prop
 | .o v,k=>∃ c,v = .ty c/\k c
 | _,_=>False
def zu3:XV->(Int->Prop)->Prop
 | .d d,k=>match d with
  | .int i=>k i
  | .bool b=>k (if b then 1 else 0)
  | _=>False
 | _,_=>False
theorem zrJ {x:XV} {k:String->Prop} (h:zu8 x k):∃ c,x = .o (.ty c)/\k c:=by
 cases x with
 | o v =>
  obtain ⟨c,rfl,h⟩:=h
  exact ⟨c,rfl,h⟩
 | d d=>exact h.elim
 | l j=>exact h.elim
 | x _ _=>exact h.elim
theorem zr4 {x:XV} {k:Int->Prop} (h:zu3 x k):(∃ i,x = .d (.int i)/\k i)\/∃ b,x = .d (.bool b)/\k (if b then 1 else 0):=by
 cases x with
 | d d =>
  cases d with
  | int i=>exact .inl ⟨i,rfl,h⟩
  | bool b=>exact .inr ⟨b,rfl,h⟩
  | _=>exact h.elim
 | _=>exact h.elim
def zwD:List XV->Sto->RX->Prop:=fun xs S R=>arg1 xs fun x=>∃ ds,asQ S x = some ds/\R (.d (.int ds.length)) S
theorem znd {K:W.Frag}:RC (zvt K) zwD:=fun h o H S xs vs R Q hs hx q c=>by
 obtain ⟨x,rfl,ds,hd,q1⟩:=za3 q
 obtain ⟨v,rfl,hx1⟩:=hxs1 hx
 obtain ⟨a,ws,rfl,ea,l⟩:=zkK hs hd hx1
 refine ⟨a,ws,rfl,ea.elim (fun z=>.inr (.of z)) (fun z=>.inl (.of z)),?_⟩
 rw [l.length]
 exact c o H S _ _ Ex.refl hs (xI _) q1
def zov:List XV->Sto->RX->Prop:=fun xs S R=>arg2 xs fun x y=>zu8 y fun cl=>∃ d,zb9 S x = some d/\cl ∈ znj/\R (.d (.bool (zqo d cl))) S
theorem zhv:RC zvn zov:=fun h o H S xs vs R Q hs hx q c=>by
 obtain ⟨x,y,rfl,q1⟩:=zgr q
 obtain ⟨cl,rfl,d,hd,hc,q2⟩:=zrJ q1
 obtain ⟨v,u,rfl,hx1,hu⟩:=hxs2 hx
 cases hu
 exact zsl (zdE hs hd hx1) hc (c o H S _ _ Ex.refl hs (xB _) q2)
def zvM:List XV->Sto->RX->Prop:=fun xs S R=>arg1 xs fun x=>asI x fun i=>R (.d (.int (if i < 0 then -i else i))) S
def znI:List XV->Sto->RX->Prop:=fun xs S R=>arg1 xs fun x=>zu3 x fun i=>R (.d (.int i)) S
theorem zsm:RC (fun xs H Q=>(∃ i,xs = [.int i]/\Q (.int i) H)\/∃ k,xs = [.bl k]/\Q (.int (if k then 1 else 0)) H) znI:=fun h o H S xs vs R Q hs hx q c=>by
 obtain ⟨x,rfl,q1⟩:=za3 q
 obtain ⟨v,rfl,hx1⟩:=hxs1 hx
 rcases zr4 q1 with ⟨i,rfl,q2⟩ | ⟨b,rfl,q2⟩
 ·exact .inl ⟨_,by rw [zaT hx1],c o H S _ _ Ex.refl hs (xI _) q2⟩
 ·exact .inr ⟨_,by rw [zdz hx1],c o H S _ _ Ex.refl hs (xI _) q2⟩
def dI2 (g:Int->Int->Int):List XV->Sto->RX->Prop:=fun xs S R=>arg2 xs fun x y=>asI x fun i=>asI y fun j=>R (.d (.int (g i j))) S
theorem ztK {g:Int->Int->Int}:RC (fun xs H Q=>∃ i j,xs = [.int i,.int j]/\Q (.int (g i j)) H) (dI2 g):=fun h o H S xs vs R Q hs hx q c=>by
 obtain ⟨x,y,rfl,q1⟩:=zgr q
 obtain ⟨v,u,rfl,hx1,hu⟩:=hxs2 hx
 obtain ⟨i,rfl,q2⟩:=zbd q1
 obtain ⟨j,rfl,q3⟩:=zbd q2
 exact ⟨i,j,by rw [zaT hx1,zaT hu],c o H S _ _ Ex.refl hs (xI _) q3⟩
def zfs:List XV->Sto->RX->Prop:=fun xs S R=>arg1 xs fun x=>∃ ds,asQ S x = some ds/\R (.d (.tuple ds)) S
theorem zhw {K:W.Frag}:RC (fun xs H Q=>∃ p ys,xs = [.ref p]/\((SqL K H p ys/\∀ l,H l = none->Q (.ref l) (upd H l (.tup ys)))\/(SqT K H p ys/\Q (.ref p) H))) zfs:=fun h o H S xs vs R Q hs hx q c=>by
 obtain ⟨x,rfl,ds,hd,q1⟩:=za3 q
 obtain ⟨v,rfl,hx1⟩:=hxs1 hx
 obtain ⟨a,ws,rfl,ea,l⟩:=zkK hs hd hx1
 refine ⟨a,ws,rfl,ea.elim (fun z=>.inr ⟨.of z,?_⟩) (fun z=>.inl ⟨.of z,zoj hs l c q1⟩)⟩
 have hh:HasX h o H (.d (.tuple ds)) (.ref a):=by
  unfold asQ at hd
  split at hd
  ·cases hd
   exact hx1
  ·obtain ⟨a',us,e1,e2,_⟩:=zbr (x:=.d (.list _)) hs rfl hx1
   cases e1
   rw [z] at e2
   cases e2
  ·rename_i k
   obtain ⟨a',us,e1,e2,_⟩:=zbr (x:=.l k) hs hd hx1
   cases e1
   rw [z] at e2
   cases e2
  ·cases hd
 exact c o H S _ _ Ex.refl hs hh q1
def zqm:List XV->Sto->RX->Prop:=fun xs S R=>arg1 xs fun x=>∃ ds,asQ S x = some ds/\R (.d (.list ds)) S
def zmi:List XV->Sto->RX->Prop:=fun xs S R=>arg1 xs fun x=>∃ ds,asQ S x = some ds/\R (.l S.length) (S ++ [ds])
theorem zcL {H:Hp}:∀ {ns:List Int} {vs:List V},HasL H (ns.map PyData.int) vs->vs = ns.map V.int
 | [],vs,h=>zV.mp h
 | n :: ns,vs,h=>by
  obtain ⟨v,r,rfl,h1,h2⟩:=zI.mp h
  rw [zcp.mp h1,zcL h2]
  rfl
def zvZ:List XV->Sto->RX->Prop:=fun xs S R=>arg1 xs fun x=>∃ ds,asQ S x = some ds/\∃ ns,ds = ns.map PyData.int/\ns ≠ []/\∀ m,m ∈ ns->(∀ a,a ∈ ns->m <= a)->R (.d (.int m)) S
def zst:List XV->Sto->RX->Prop:=fun xs S R=>arg1 xs fun x=>∃ ds,asQ S x = some ds/\∃ ns,ds = ns.map PyData.int/\ns ≠ []/\∀ m,m ∈ ns->(∀ a,a ∈ ns->a <= m)->R (.d (.int m)) S
theorem zsR {K:W.Frag}:RC (zvg K) zvZ:=fun h o H S xs vs R Q hs hx q c=>by
 obtain ⟨x,rfl,ds,hd,ns,rfl,hn,q1⟩:=za3 q
 obtain ⟨v,rfl,hx1⟩:=hxs1 hx
 obtain ⟨a,ws,rfl,ea,l⟩:=zkK hs hd hx1
 rw [zcL l] at ea
 exact ⟨a,ns,rfl,ea.elim (fun z=>.inr (.of z)) (fun z=>.inl (.of z)),hn,fun m m1 m2=>c o H S _ _ Ex.refl hs (xI _) (q1 m m1 m2)⟩
theorem zqk {K:W.Frag}:RC (zv6 K) zst:=fun h o H S xs vs R Q hs hx q c=>by
 obtain ⟨x,rfl,ds,hd,ns,rfl,hn,q1⟩:=za3 q
 obtain ⟨v,rfl,hx1⟩:=hxs1 hx
 obtain ⟨a,ws,rfl,ea,l⟩:=zkK hs hd hx1
 rw [zcL l] at ea
 exact ⟨a,ns,rfl,ea.elim (fun z=>.inr (.of z)) (fun z=>.inl (.of z)),hn,fun m m1 m2=>c o H S _ _ Ex.refl hs (xI _) (q1 m m1 m2)⟩
def dBM (rd:XV->List XV->Sto->RX->Prop) (e:DE) (a:DA):DE:=fun δ S R=>e δ S fun x S1=>∃ k,x = .l k/\k < S1.length/\a δ S1 fun xs S2=>rd x xs S2 R
def zsf (rd:XV->List XV->Sto->RX->Prop) (e:DE):DE:=fun δ S R=>e δ S fun x S1=>∃ k,x = .l k/\k < S1.length/\rd x [] S1 R
def RM (r:V->List V->Hp->VK->Prop) (rd:XV->List XV->Sto->RX->Prop):Prop:=∀ (h o:List Addr) (H:Hp) (S:Sto) (x:XV) (v:V) (xs:List XV) (vs:List V) (R:RX) (Q:VK),RepS h o H S->HasX h o H x v->HasXs h o H xs vs->rd x xs S R->Cn h o H R Q->r v vs H Q
theorem zhF {K:W.Frag} {H:Hp} {a:Addr} {vs:List V} (e:H a = some (.lst vs)):tyV K "list" (.ref a) H:=.inl ⟨rfl,vs,.of e⟩
theorem zpV {h o:List Addr} {H:Hp} {S:Sto} {k:Nat} {v:V} (hs:RepS h o H S) (hk:k < S.length) (hx:HasX h o H (.l k) v):∃ a vs,v = .ref a/\H a = some (.lst vs):=by
 obtain ⟨a,e,rfl⟩:=hx
 obtain ⟨vs,e2,_⟩:=hs.cont k a _ e (List.getElem?_eq_getElem hk)
 exact ⟨a,vs,rfl,e2⟩
theorem zm8 {K:W.Frag} {r:V->List V->Hp->VK->Prop} {rd:XV->List XV->Sto->RX->Prop} {te:TE} {de:DE} {tl:TA} {dl:DA} (hr:RM r rd) (he':RE te de) (ha:RA tl dl):RE (tBM K "list" r te tl) (dBM rd de dl):=fun h o H δ σ S R Q he hs q c =>
 he' h o H δ σ S _ _ he hs q fun o1 H1 S1 x v e1 s1 x1 ⟨k,ek,hk,d1⟩=>by
  subst ek
  obtain ⟨a,ws,rfl,ea⟩:=zpV s1 hk x1
  exact ⟨zhF ea,ha h o1 H1 δ σ S1 _ _ (he.mono e1) s1 d1 fun o2 H2 S2 xs vs e2 s2 x2 d2=>hr h o2 H2 S2 (.l k) _ xs vs R Q s2 (x1.mono e2) x2 d2 (c.pre (e1.trans e2))⟩
theorem znt {K:W.Frag} {r:V->List V->Hp->VK->Prop} {rd:XV->List XV->Sto->RX->Prop} {te:TE} {de:DE} (hr:RM r rd) (he':RE te de):RE (zv7 K "list" r te) (zsf rd de):=fun h o H δ σ S R Q he hs q c =>
 he' h o H δ σ S _ _ he hs q fun o1 H1 S1 x v e1 s1 x1 ⟨k,ek,hk,d1⟩=>by
  subst ek
  obtain ⟨a,ws,rfl,ea⟩:=zpV s1 hk x1
  exact ⟨zhF ea,hr h o1 H1 S1 (.l k) _ [] [] R Q s1 x1 rfl d1 (c.pre e1)⟩
def zdB:XV->List XV->Sto->RX->Prop:=fun x xs S R=>∃ k,x = .l k/\∃ ds,S[k]? = some ds/\arg1 xs fun y=>asD y fun d=>ds.length < 1000/\R (.d .none) (S.set k (ds ++ [d]))
theorem zeY:RM zmk zdB:=fun h o H S x v xs vs R Q hs hx hxs q c=>by
 obtain ⟨k,rfl,ds,e,q1⟩:=q
 obtain ⟨y,rfl,q2⟩:=za3 q1
 obtain ⟨d,rfl,hl,q3⟩:=zeK q2
 obtain ⟨a,ea,rfl⟩:=hx
 obtain ⟨u,rfl,hu⟩:=hxs1 hxs
 obtain ⟨ws,ew,l⟩:=hs.cont k a ds ea e
 exact ⟨a,ws,u,rfl,rfl,ew,by rw [l.length]; exact small1000 (Nat.le_of_lt hl),c o _ _ (.d .none) _ (Ex.upd ea) (hs.upd ea (l.append (zI.mpr ⟨u,[],rfl,hu,zV.mpr rfl⟩))) xN q3⟩
def zc4:XV->List XV->Sto->RX->Prop:=fun x xs S R=>∃ k,x = .l k/\∃ ds,S[k]? = some ds/\xs = []/\R (.d .none) (S.set k ds.reverse)
theorem ze2:RM zkv zc4:=fun h o H S x v xs vs R Q hs hx hxs q c=>by
 obtain ⟨k,rfl,ds,e,rfl,q1⟩:=q
 obtain ⟨a,ea,rfl⟩:=hx
 obtain ⟨ws,ew,l⟩:=hs.cont k a ds ea e
 cases hxs
 exact ⟨a,ws,rfl,rfl,ew,c o _ _ (.d .none) _ (Ex.upd ea) (hs.upd ea l.rev) xN q1⟩
def zf0:XV->List XV->Sto->RX->Prop:=fun x xs S R=>∃ k,x = .l k/\∃ ds,S[k]? = some ds/\arg1 xs fun y=>∃ es,zgP S y = some es/\ds.length + es.length <= 1000/\R (.d .none) (S.set k (ds ++ es))
theorem znc:RM znp zf0:=fun h o H S x v xs vs R Q hs hx hxs q c=>by
 obtain ⟨k,rfl,ds,e,q1⟩:=q
 obtain ⟨y,rfl,es,ey,hl,q3⟩:=za3 q1
 obtain ⟨a,ea,rfl⟩:=hx
 obtain ⟨u,rfl,hu⟩:=hxs1 hxs
 obtain ⟨ws,ew,l⟩:=hs.cont k a ds ea e
 obtain ⟨b,zs,rfl,eb,lb⟩:=zbr hs ey hu
 exact ⟨a,b,ws,zs,rfl,rfl,ew,eb,by rw [l.length,lb.length]; exact Nat.le_of_lt (small1000 hl),c o _ _ (.d .none) _ (Ex.upd ea) (hs.upd ea (l.append lb)) xN q3⟩
def ret0 (S:Sto) (R:RX):RX:=fun y S'=>match y,S' with
 | .d d,[]=>R (.d d) S
 | .l 0,[ds]=>R (.l S.length) (S ++ [ds])
 | _,_=>False
def ztC (k:Nat) (S:Sto) (R:RX):RX:=fun y S'=>match y,S' with
 | .d d,[p]=>R (.d d) (S.set k p)
 | .l 1,[p,ds]=>R (.l S.length) (S.set k p ++ [ds])
 | _,_=>False
section
variable {h o:List Addr} {H:Hp} {S:Sto} {R:RX} {Q:VK}
theorem ziw {h o h' o':List Addr} {H:Hp} (e:∀ b,(b ∈ h'\/b ∈ o') ↔ (b ∈ h\/b ∈ o)):vx h' o' H = vx h o H:=by
 funext b
 have iff:∀ u,vx h' o' H b = some u ↔ vx h o H b = some u:=fun u=>by
  rw [zae,zae]
  have:=e b
  constructor
  ·rintro ⟨a1,a2,a3⟩
   exact ⟨fun m=>(this.mpr (.inl m)).elim a1 a2,fun m=>(this.mpr (.inr m)).elim a1 a2,a3⟩
  ·rintro ⟨a1,a2,a3⟩
   exact ⟨fun m=>(this.mp (.inl m)).elim a1 a2,fun m=>(this.mp (.inr m)).elim a1 a2,a3⟩
 cases e1:vx h' o' H b with
 | some u=>exact ((iff u).mp e1).symm
 | none =>
  cases e2:vx h o H b with
  | none=>rfl
  | some u=>rw [(iff u).mpr e2] at e1; cases e1
theorem rep0 (hs:RepS h o H S):RepS (h ++ o) [] H [] where
 len:=rfl
 nd:=List.nodup_nil
 dis:=fun a ha=>by cases ha
 hal:=fun b hb=>(List.mem_append.mp hb).elim (hs.hal b) (hs.oam b)
 cont:=fun k a ds e=>by simp at e
theorem hx0 {d:PyData} {v:V} (hx:HasX h o H (.d d) v):HasX (h ++ o) [] H (.d d) v:=by
 show Has (vx (h ++ o) [] H) d v
 rw [ziw (h:=h) (o:=o) fun b=>by simp]
 exact hx
theorem hx0' {d:PyData} {v:V} (hx:HasX (h ++ o) [] H (.d d) v):HasX h o H (.d d) v:=by
 show Has (vx h o H) d v
 rw [<- ziw (h':=h ++ o) (o':=[]) (h:=h) (o:=o) fun b=>by simp]
 exact hx
theorem cn0 (hs:RepS h o H S) (c:Cn h o H R Q):Cn (h ++ o) [] H (ret0 S R) Q:=fun o' H' S' y v e s' hy q=>by
 have sm:Same H (vx [] o' H'):=fun b u eb=>by
  obtain ⟨a1,a2⟩:=e.kp b u (by simp) eb
  exact zae.mpr ⟨by simp,a1,a2⟩
 have sH:Same H H':=fun b u eb=>(zae.mp (sm b u eb)).2.2
 unfold ret0 at q
 split at q
 ·have e0:o' = []:=List.eq_nil_of_length_eq_zero s'.len.symm
  subst e0
  exact c o H' S _ v (Ex.of_same sH) (hs.same sH) (hx0' hy) q
 ·rename_i ds
  obtain ⟨a,rfl⟩:∃ a,o' = [a]:=List.length_eq_one_iff.mp s'.len.symm
  obtain ⟨a',ea,rfl⟩:=hy
  cases ea
  obtain ⟨vs,ev,l⟩:=s'.cont 0 a ds rfl rfl
  have na:a ∉ h ++ o:=s'.dis a (by simp)
  have hn:H a = none:=by
   cases eh:H a with
   | none=>rfl
   | some u=>exact absurd (e.kp a u (by simp) eh).1 (by simp)
  have e2:Ex o H (o ++ [a]) H':=⟨⟨[a],rfl⟩,fun b u hb eb=>by
   obtain ⟨a1,a2⟩:=e.kp b u (by simp) eb
   exact ⟨by simp only [List.mem_append,not_or]; exact ⟨hb,a1⟩,a2⟩⟩
  have ev':vx (h ++ o) [a] H' = vx h (o ++ [a]) H':=ziw fun b=>by simp [or_assoc]
  rw [ev'] at l
  refine c (o ++ [a]) H' (S ++ [ds]) (.l S.length) _ e2 ⟨by simp [hs.len],zcK hs.nd fun m=>na (List.mem_append_right _ m),fun b hb=>?_,fun b hb=>?_,fun k b es q1 q2=>?_⟩ ⟨a,by rw [hs.len,List.getElem?_concat_length],rfl⟩ q
  ·rcases List.mem_append.mp hb with hb | hb
   ·exact hs.dis b hb
   ·rw [List.mem_singleton.mp hb]; exact fun m=>na (List.mem_append_left _ m)
  ·obtain ⟨u,eb⟩:=hs.hal b hb
   exact ⟨u,sH b _ eb⟩
  ·by_cases hk:k < o.length
   ·rw [List.getElem?_append_left hk] at q1
    rw [List.getElem?_append_left (by rw [hs.len]; exact hk)] at q2
    obtain ⟨ws,e3,l3⟩:=hs.cont k b es q1 q2
    exact ⟨ws,sH _ _ e3,l3.mono e2.vx⟩
   ·have hk':k = o.length:=by
     obtain ⟨q,_⟩:=List.getElem?_eq_some_iff.mp q1
     rw [List.length_append,List.length_singleton] at q
     omega
    subst hk'
    rw [List.getElem?_concat_length] at q1
    rw [<- hs.len,List.getElem?_concat_length] at q2
    cases q1
    cases q2
    exact ⟨vs,ev,l⟩
 ·exact q.elim
theorem zu6 {k:Nat} {a:Addr} {p:List PyData} (hs:RepS h o H S) (ea:o[k]? = some a) (ep:S[k]? = some p):RepS (h ++ o.filter (fun b=>b ≠ a)) [a] H [p] where
 len:=rfl
 nd:=by simp
 dis:=fun b hb=>by
  rw [List.mem_singleton.mp hb]
  intro m
  rcases List.mem_append.mp m with m | m
  ·exact hs.dis a (List.mem_of_getElem? ea) m
  ·have:=(List.mem_filter.mp m).2
   simp at this
 hal:=fun b hb=>(List.mem_append.mp hb).elim (hs.hal b) fun m=>hs.oam b (List.mem_filter.mp m).1
 cont:=fun j b ds e1 e2=>by
  cases j with
  | succ j=>simp at e1
  | zero =>
   cases e1
   cases e2
   obtain ⟨vs,e3,l⟩:=hs.cont k a p ea ep
   refine ⟨vs,e3,?_⟩
   rw [ziw (h:=h) (o:=o) (mem_pen ea)]
   exact l
where
 mem_pen {h o:List Addr} {k:Nat} {a:Addr} (ea:o[k]? = some a) (b:Addr):(b ∈ h ++ o.filter (fun b=>b ≠ a)\/b ∈ [a]) ↔ (b ∈ h\/b ∈ o):=by
  have ma:=List.mem_of_getElem? ea
  by_cases e:b = a
  ·subst e
   simp [ma]
  ·simp [e]
theorem hxP {k:Nat} {a:Addr} {d:PyData} {v:V} (ea:o[k]? = some a) (hx:HasX h o H (.d d) v):HasX (h ++ o.filter (fun b=>b ≠ a)) [a] H (.d d) v:=by
 show Has (vx _ _ H) d v
 rw [ziw (h:=h) (o:=o) (zu6.mem_pen ea)]
 exact hx
theorem cnP {k:Nat} {a:Addr} {p:List PyData} (hs:RepS h o H S) (ea:o[k]? = some a) (ep:S[k]? = some p) (c:Cn h o H R Q):Cn (h ++ o.filter (fun b=>b ≠ a)) [a] H (ztC k S R) Q:=fun o' H' S' y v e s' hy q=>by
 have ma:=List.mem_of_getElem? ea
 have hk:k < o.length:=(List.getElem?_eq_some_iff.mp ea).1
 unfold ztC at q
 split at q
 ·rename_i d p'
  obtain ⟨r,rfl⟩:=e.pre
  have er:r = []:=by
   have:=s'.len
   simp at this
   exact this
  subst er
  have ex:Ex o H o H':=⟨⟨[],by simp⟩,fun b u hb eb=>⟨hb,(e.kp b u (fun m=>hb (by rw [List.mem_singleton.mp m]; exact ma)) eb).2⟩⟩
  obtain ⟨vs,ev,l⟩:=s'.cont 0 a p' rfl rfl
  have ev':vx (h ++ o.filter (fun b=>b ≠ a)) ([a] ++ []) H' = vx h o H':=ziw (zu6.mem_pen ea)
  rw [ev'] at l
  refine c o H' (S.set k p') (.d d) v ex ⟨by simp [hs.len],hs.nd,hs.dis,fun b hb=>?_,fun j b es q1 q2=>?_⟩ (by
   have hy':Has (vx (h ++ o.filter (fun b=>b ≠ a)) ([a] ++ []) H') d v:=hy
   rw [ev'] at hy'
   exact hy') q
  ·obtain ⟨u,eb⟩:=hs.hal b hb
   exact ⟨u,(e.kp b _ (fun m=>hs.dis a ma (by rw [<- List.mem_singleton.mp m]; exact hb)) eb).2⟩
  ·by_cases hj:j = k
   ·subst hj
    rw [q1] at ea
    cases ea
    rw [List.getElem?_set_self (by rw [hs.len]; exact hk)] at q2
    cases q2
    exact ⟨vs,ev,l⟩
   ·rw [List.getElem?_set_ne (Ne.symm hj)] at q2
    obtain ⟨ws,e3,l3⟩:=hs.cont j b es q1 q2
    have ne:b ≠ a:=fun z=>hj (zev hs.nd q1 (z ▸ ea))
    exact ⟨ws,(e.kp b _ (by simp [ne]) e3).2,l3.mono ex.vx⟩
 ·rename_i p' ds
  obtain ⟨r,rfl⟩:=e.pre
  obtain ⟨a2,rfl⟩:∃ a2,r = [a2]:=by
   have:=s'.len
   simp at this
   exact List.length_eq_one_iff.mp this
  obtain ⟨b2,eb2,rfl⟩:=hy
  cases eb2
  obtain ⟨vs,ev,l⟩:=s'.cont 0 a p' rfl rfl
  obtain ⟨vs2,ev2,l2⟩:=s'.cont 1 a2 ds rfl rfl
  have n2:a2 ∉ h ++ o.filter (fun b=>b ≠ a):=s'.dis a2 (by simp)
  have n3:a ≠ a2:=by
   have:=s'.nd
   simp at this
   exact this
  have n4:a2 ∉ o:=fun m=>n2 (List.mem_append_right _ (List.mem_filter.mpr ⟨m,by simp [Ne.symm n3]⟩))
  have ex:Ex o H (o ++ [a2]) H':=⟨⟨[a2],rfl⟩,fun b u hb eb=>by
   obtain ⟨z1,z2⟩:=e.kp b u (fun m=>hb (by rw [List.mem_singleton.mp m]; exact ma)) eb
   refine ⟨?_,z2⟩
   simp only [List.mem_append,not_or]
   exact ⟨hb,fun m=>z1 (by simp at m ⊢; exact .inr m)⟩⟩
  have ev':vx (h ++ o.filter (fun b=>b ≠ a)) ([a] ++ [a2]) H' = vx h (o ++ [a2]) H':=ziw fun b=>by
   have:=zu6.mem_pen (h:=h) ea b
   simp only [List.mem_append] at this ⊢
   rw [<- or_assoc,this,or_assoc]
  rw [ev'] at l l2
  refine c (o ++ [a2]) H' (S.set k p' ++ [ds]) (.l S.length) _ ex ⟨by simp [hs.len],zcK hs.nd n4,fun b hb=>?_,fun b hb=>?_,fun j b es q1 q2=>?_⟩ ⟨a2,by rw [hs.len,List.getElem?_concat_length],rfl⟩ q
  ·rcases List.mem_append.mp hb with hb | hb
   ·exact hs.dis b hb
   ·rw [List.mem_singleton.mp hb]; exact fun m=>n2 (List.mem_append_left _ m)
  ·obtain ⟨u,eb⟩:=hs.hal b hb
   exact ⟨u,(e.kp b _ (fun m=>hs.dis a ma (by rw [<- List.mem_singleton.mp m]; exact hb)) eb).2⟩
  ·by_cases hjo:j < o.length
   ·rw [List.getElem?_append_left hjo] at q1
    rw [List.getElem?_append_left (by rw [List.length_set,hs.len]; exact hjo)] at q2
    by_cases hj:j = k
    ·subst hj
     rw [q1] at ea
     cases ea
     rw [List.getElem?_set_self (by rw [hs.len]; exact hk)] at q2
     cases q2
     exact ⟨vs,ev,l⟩
    ·rw [List.getElem?_set_ne (Ne.symm hj)] at q2
     obtain ⟨ws,e3,l3⟩:=hs.cont j b es q1 q2
     have ne:b ≠ a:=fun z=>hj (zev hs.nd q1 (z ▸ ea))
     exact ⟨ws,(e.kp b _ (by simp [ne]) e3).2,l3.mono ex.vx⟩
   ·have hk':j = o.length:=by
     obtain ⟨q,_⟩:=List.getElem?_eq_some_iff.mp q1
     rw [List.length_append,List.length_singleton] at q
     omega
    subst hk'
    rw [List.getElem?_concat_length] at q1
    rw [<- hs.len,<- List.length_set (i:=k) (a:=p'),List.getElem?_concat_length] at q2
    cases q1
    cases q2
    exact ⟨vs2,ev2,l2⟩
 ·exact q.elim
end
def asK (S:Sto) (x:XV) (k:Nat->List PyData->Prop):Prop:=match x with
 | .l j=>∃ p,S[j]? = some p/\k j p
 | _=>False
structure DEnds where
 nx:XE->Sto->Prop
 rt:RX
 bk:XE->Sto->Prop:=fun _ _=>False
 ct:XE->Sto->Prop:=fun _ _=>False
abbrev DS:=DEnds->XE->Sto->Prop
abbrev DG:=XV->XE->Sto->(XE->Sto->Prop)->Prop
abbrev DGs:=List PyData->XE->Sto->(XE->Sto->Prop)->Prop
def Nx (h o:List Addr) (H:Hp) (N:XE->Sto->Prop) (M:St->Hp->Prop):Prop:=∀ o' H' δ' S' σ',Ex o H o' H'->RepE h o' H' δ' σ'->RepS h o' H' S'->N δ' S'->M σ' H'
theorem Nx.pre {h o o':List Addr} {H H':Hp} {N:XE->Sto->Prop} {M:St->Hp->Prop} (c:Nx h o H N M) (e:Ex o H o' H'):Nx h o' H' N M:=fun o2 H2 δ2 S2 σ2 e2=>c o2 H2 δ2 S2 σ2 (e.trans e2)
structure EOk (h o:List Addr) (H:Hp) (E:DEnds) (D:Ends):Prop where
 nx:Nx h o H E.nx D.nx
 rt:Cn h o H E.rt D.rt
 bk:Nx h o H E.bk D.bk
 ct:Nx h o H E.ct D.ct
theorem EOk.pre {h o o':List Addr} {H H':Hp} {E:DEnds} {D:Ends} (c:EOk h o H E D) (e:Ex o H o' H'):EOk h o' H' E D:=⟨c.nx.pre e,c.rt.pre e,c.bk.pre e,c.ct.pre e⟩
def RS (t:TS) (dt:DS):Prop:=∀ (h o:List Addr) (H:Hp) (δ:XE) (σ:St) (S:Sto) (E:DEnds) (D:Ends),RepE h o H δ σ->RepS h o H S->dt E δ S->EOk h o H E D->t D σ H
def RG (t:TG) (dt:DG):Prop:=∀ (h o:List Addr) (H:Hp) (δ:XE) (σ:St) (S:Sto) (x:XV) (v:V) (N:XE->Sto->Prop) (M:St->Hp->Prop),RepE h o H δ σ->RepS h o H S->HasX h o H x v->dt x δ S N->Nx h o H N M->t v σ H M
def RGs (t:TGs) (dt:DGs):Prop:=∀ (h o:List Addr) (H:Hp) (δ:XE) (σ:St) (S:Sto) (ds:List PyData) (vs:List V) (N:XE->Sto->Prop) (M:St->Hp->Prop),RepE h o H δ σ->RepS h o H S->HasL (vx h o H) ds vs->dt ds δ S N->Nx h o H N M->t vs σ H M
def zm (i:Nat):DG:=fun x δ S N=>N (δ.set i (some x)) S
def zds:DGs:=fun ds δ S N=>ds = []/\N δ S
def hdD:List PyData->(PyData->List PyData->Prop)->Prop
 | d :: es,k=>k d es
 | [],_=>False
theorem zua {ds:List PyData} {k:PyData->List PyData->Prop} (h:hdD ds k):∃ d es,ds = d :: es/\k d es:=by
 cases ds with
 | nil=>exact h.elim
 | cons d es=>exact ⟨d,es,rfl,h⟩
theorem ztO {d:PyData} {es:List PyData} {k:PyData->List PyData->Prop}:hdD (d :: es) k = k d es:=rfl
def zan (g:DG) (r:DGs):DGs:=fun ds δ S N=>hdD ds fun d es=>g (.d d) δ S fun δ' S'=>r es δ' S' N
def zdq (n:Nat) (r:DGs):DG:=fun x δ S N=>asT x fun ds=>ds.length = n/\r ds δ S N
def znn (a b:DE):DG:=fun x δ S N=>a δ S fun y S1=>b δ S1 fun z S2=>asD x fun d=>∃ k,y = .l k/\∃ ds,S2[k]? = some ds/\asI z fun i=>∃ j,ixN ds.length i = some j/\N δ (S2.set k (ds.set j d))
theorem zo {i:Nat}:RG (zjJ i) (zm i):=fun h o H δ σ S x v N M he hs hx q c=>c o H _ S _ Ex.refl (he.set hx) hs q
theorem zb6:RGs zv5 zds:=fun h o H δ σ S ds vs N M he hs l ⟨e,q⟩ c=>by
 subst e
 exact ⟨zV.mp l,c o H δ S σ Ex.refl he hs q⟩
theorem zaa {t:TG} {u:TGs} {g:DG} {r:DGs} (h1:RG t g) (h2:RGs u r):RGs (zsC t u) (zan g r):=fun h o H δ σ S ds vs N M he hs l q0 c=>by
 obtain ⟨d,es,rfl,q⟩:=zua q0
 obtain ⟨v,ws,rfl,hv,l⟩:=zI.mp l
 exact ⟨v,ws,rfl,h1 h o H δ σ S (.d d) v _ _ he hs hv q fun o1 H1 δ1 S1 σ1 e1 he1 hs1 q1=>h2 h o1 H1 δ1 σ1 S1 es ws N M he1 hs1 (l.mono e1.vx) q1 (c.pre e1)⟩
theorem zdm {K:W.Frag} {n:Nat} {t:TGs} {r:DGs} (h1:RGs t r):RG (zwo K n t) (zdq n r):=fun h o H δ σ S x v N M he hs hx q c=>by
 replace q:=zgh q
 obtain ⟨ds,rfl,hn,q⟩:=q
 obtain ⟨a,vs,rfl,ea,l⟩:=zdv hx
 exact ⟨a,vs,rfl,.of ea,by rw [l.length]; exact hn,h1 h o H δ σ S ds vs N M he hs l q c⟩
theorem HasL.setAt {H:Hp}:∀ {ds:List PyData} {vs:List V} {j:Nat} {d:PyData} {v:V},HasL H ds vs->Has H d v->HasL H (ds.set j d) (vs.set j v)
 | [],vs,j,d,v,l,_=>by rw [zV.mp l]; exact zV.mpr rfl
 | c :: ds,vs,0,d,v,l,q=>by
  obtain ⟨u,r,rfl,_,l⟩:=zI.mp l
  exact zI.mpr ⟨v,r,rfl,q,l⟩
 | c :: ds,vs,j + 1,d,v,l,q=>by
  obtain ⟨u,r,rfl,hu,l⟩:=zI.mp l
  exact zI.mpr ⟨u,r.set j v,rfl,hu,HasL.setAt l q⟩
theorem zqU {ta tb:TE} {da db:DE} (ha:RE ta da) (hb:RE tb db):RG (zv8 ta tb zuQ) (znn da db):=fun h o H δ σ S x v N M he hs hx q c =>
 ha h o H δ σ S _ _ he hs q fun o1 H1 S1 y u e1 s1 y1 d1=>hb h o1 H1 δ σ S1 _ _ (he.mono e1) s1 d1 fun o2 H2 S2 z w e2 s2 z2 d0=>by
  obtain ⟨d,rfl,k,rfl,ds,es,d2⟩:=zeK d0
  replace d2:=zbd d2
  obtain ⟨i,rfl,j,ej,d2⟩:=d2
  obtain ⟨a,ea,rfl⟩:=y1.mono e2
  obtain ⟨ws,ew,l⟩:=s2.cont k a ds ea es
  refine ⟨a,ws,i,j,rfl,zaT z2,ew,by rw [l.length]; exact ej,?_⟩
  exact c o2 _ δ _ σ ((e1.trans e2).trans (Ex.upd ea)) (((he.mono e1).mono e2).mono (Ex.upd ea)) (s2.upd ea (l.setAt (hx.mono (e1.trans e2)))) d2
def za5:DS:=fun E δ S=>E.nx δ S
def zW (t u:DS):DS:=fun E δ S=>t { E with nx:=u E } δ S
def zag (e:DE) (g:DG):DS:=fun E δ S=>e δ S fun x S1=>g x δ S1 E.nx
def zeU (e:DE):DS:=fun E δ S=>e δ S fun _ S1=>E.nx δ S1
def zbh (e:DE):DS:=fun E δ S=>e δ S E.rt
def zsO:DS:=fun E _ S=>E.rt (.d .none) S
def zdt (c:DT) (t u:DS):DS:=fun E δ S=>c δ S fun b S1=>if b = true then t E δ S1 else u E δ S1
def zrc:DS:=fun E δ S=>E.bk δ S
def zsZ:DS:=fun E δ S=>E.ct δ S
section
variable {t u:TS} {dt du:DS} {te:TE} {de:DE}
theorem zat:RS zrv za5:=fun h o H δ σ S E D he hs q c=>c.nx o H δ S σ Ex.refl he hs q
theorem zt (ht:RS t dt) (hu:RS u du):RS (zjr t u) (zW dt du):=fun h o H δ σ S E D he hs q c =>
 ht h o H δ σ S _ _ he hs q ⟨fun o1 H1 δ1 S1 σ1 e1 he1 hs1 q1=>hu h o1 H1 δ1 σ1 S1 E D he1 hs1 q1 (c.pre e1),c.rt,c.bk,c.ct⟩
theorem zx {g:TG} {dg:DG} (he':RE te de) (hg:RG g dg):RS (zsx te g) (zag de dg):=fun h o H δ σ S E D he hs q c =>
 he' h o H δ σ S _ _ he hs q fun o1 H1 S1 x v e1 s1 x1 d1=>hg h o1 H1 δ σ S1 x v _ _ (he.mono e1) s1 x1 d1 (c.nx.pre e1)
theorem zdI (he':RE te de):RS (zr0 te) (zeU de):=fun h o H δ σ S E D he hs q c =>
 he' h o H δ σ S _ _ he hs q fun o1 H1 S1 x v e1 s1 x1 d1=>c.nx o1 H1 δ S1 σ e1 (he.mono e1) s1 d1
theorem zS (he':RE te de):RS (zvp te) (zbh de):=fun h o H δ σ S E D he hs q c=>he' h o H δ σ S _ _ he hs q c.rt
theorem zck {tc:TT} {dc:DT} (hc:RT tc dc) (ht:RS t dt) (hu:RS u du):RS (zu4 tc t u) (zdt dc dt du):=fun h o H δ σ S E D he hs q c =>
 hc h o H δ σ S _ _ he hs q fun o1 H1 S1 b e1 s1 d1=>by
  cases b with
  | true=>exact zqi (ht h o1 H1 δ σ S1 E D (he.mono e1) s1 (by simpa using d1) (c.pre e1))
  | false=>exact zq1 (hu h o1 H1 δ σ S1 E D (he.mono e1) s1 (by simpa using d1) (c.pre e1))
def frz (n:Nat) (ds:List PyData):Option XV->Option XV
 | some (.l k)=>if k = n then some (.d (.list ds)) else some (.l k)
 | y=>y
end
abbrev DI:=XE->Sto->(List PyData->Sto->Prop)->Prop
structure WalkX (h o:List Addr) (H:Hp) (J:It) (ds:List PyData):Prop where
 stop:∀ (i:Nat) o2 H2,ExH h o H o2 H2->ds.length <= i->J.stop i H2
 go:∀ (i:Nat) d o2 H2,ExH h o H o2 H2->ds[i]? = some d->J.go i H2
 yld:∀ (i:Nat) d o2 H2 x H3 S2,ExH h o H o2 H2->RepS h o2 H2 S2->ds[i]? = some d->J.yld i H2 x H3->Same H2 H3/\Has (vx h o2 H3) d x
def RI (w:TI) (di:DI):Prop:=∀ (h o:List Addr) (H:Hp) (δ:XE) (σ:St) (S:Sto) (R:List PyData->Sto->Prop) (Q:It->Hp->Prop),RepE h o H δ σ->RepS h o H S->di δ S R ->
 (∀ o' H' S' ds J,Ex o H o' H'->RepS h o' H' S'->WalkX h o' H' J ds->R ds S'->Q J H')->w σ H Q
theorem zjd {h o:List Addr} {H:Hp} {lo:Int} {n:Nat}:WalkX h o H (Itr lo n) (zhE lo n) where
 stop:=fun i _ _ _ hi=>by rw [zah] at hi; exact hi
 go:=fun i d _ _ _ hi=>(zco hi).1
 yld:=fun i d o2 H2 x H3 S2 _ _ hi y=>by
  obtain ⟨e,ex⟩:=y
  subst e ex
  rw [(zco hi).2]
  exact ⟨Same.refl _,zcp.mpr rfl⟩
def zlS (g:DG) (b:DS):List PyData->DS
 | [],E,δ,S=>E.nx δ S
 | d :: ds,E,δ,S=>g (.d d) δ S fun δ1 S1=>b { nx:=fun δ2 S2=>zlS g b ds E δ2 S2,ct:=fun δ2 S2=>zlS g b ds E δ2 S2,bk:=E.nx,rt:=E.rt } δ1 S1
def zgA (i:DI) (g:DG) (b:DS):DS:=fun E δ S=>i δ S fun ds S1=>zlS g b ds E δ S1
theorem zcz {wi:TI} {g:TG} {tb:TS} {di:DI} {dg:DG} {db:DS} (hi:RI wi di) (hg:RG g dg) (hb:RS tb db):RS (ztW wi g tb) (zgA di dg db):=fun h o H δ σ S E D he hs q c =>
 hi h o H δ σ S _ _ he hs q fun o1 H1 S1 ds J e1 s1 wk d1=>by
  refine ⟨fun i m σ2 H2=>m = ds.length - i/\i <= ds.length/\∃ o2 δ2 S2,Ex o1 H1 o2 H2/\RepE h o2 H2 δ2 σ2/\RepS h o2 H2 S2/\zlS dg db (ds.drop i) E δ2 S2,⟨ds.length,by simp,Nat.zero_le _,o1,δ,S1,Ex.refl,he.mono e1,s1,d1⟩,?_⟩
  rintro i m σ2 H2 ⟨rfl,hi,o2,δ2,S2,e2,he2,hs2,d2⟩
  by_cases hlt:i < ds.length
  ·have ed:ds[i]? = some ds[i]:=List.getElem?_eq_getElem hlt
   rw [List.drop_eq_getElem_cons hlt] at d2
   refine .inr ⟨wk.go i _ o2 H2 e2.hid ed,fun σ3 H3=>∃ o3 δ3 S3,Ex o1 H1 o3 H3/\RepE h o3 H3 δ3 σ3/\RepS h o3 H3 S3/\zlS dg db (ds.drop (i + 1)) E δ3 S3,fun σ3 H3 n=>⟨ds.length - (i + 1),by omega,rfl,hlt,n⟩,fun x H3 y=>?_⟩
   obtain ⟨s3,hx⟩:=wk.yld i _ o2 H2 x H3 S2 e2.hid hs2 ed y
   have e23:Ex o2 H2 o2 H3:=Ex.of_same s3
   refine hg h o2 H3 δ2 σ2 S2 (.d ds[i]) x _ _ (he2.mono e23) (hs2.same s3) hx d2 fun o4 H4 δ4 S4 σ4 e4 he4 hs4 d4=>?_
   have e14:Ex o1 H1 o4 H4:=(e2.trans e23).trans e4
   have ce:=(c.pre e1).pre e14
   exact hb h o4 H4 δ4 σ4 S4 _ _ he4 hs4 d4 ⟨fun o5 H5 δ5 S5 σ5 e5 he5 hs5 d5=>⟨o5,δ5,S5,e14.trans e5,he5,hs5,d5⟩,ce.rt,ce.nx,fun o5 H5 δ5 S5 σ5 e5 he5 hs5 d5=>⟨o5,δ5,S5,e14.trans e5,he5,hs5,d5⟩⟩
  ·have ei:i = ds.length:=by omega
   subst ei
   rw [List.drop_length] at d2
   exact .inl ⟨wk.stop _ o2 H2 e2.hid (Nat.le_refl _),c.nx o2 H2 δ2 S2 σ2 (e1.trans e2) he2 hs2 d2⟩
def zaJ:DT:=fun _ S R=>R true S
theorem zbB:RT zt6 zaJ:=fun h o H δ σ S R Q he hs q c=>c o H S true Ex.refl hs q
def zff (n:Nat) (g:DG) (tt:DT) (te:DE) (fin:Sto->Prop):List PyData->XE->Sto->Prop
 | [],_,S=>fin S
 | d :: ds,τ,S=>g (.d d) τ S fun τ1 S1=>tt τ1 S1 fun b S2=>if b = true then te τ1 S2 fun x S3=>asD x fun e=>∃ acc,S3[n]? = some acc/\acc.length < 1000/\zff n g tt te fin ds τ1 (S3.set n (acc ++ [e])) else zff n g tt te fin ds τ1 S2
def zfU (caps:List (Option Nat)) (i:DI) (g:DG) (tt:DT) (te:DE):DE:=fun δ S R=>i δ S fun ds S1=>zff S1.length g tt te (fun S2=>R (.l S1.length) S2) ds (zqH caps δ) (S1 ++ [[]])
def zcx (caps:List (Option Nat)) (i:DI) (g:DG) (tt:DT) (te:DE):DE:=fun δ S R=>i δ S fun ds S1=>zff S1.length g tt te (fun S2=>∃ S0 acc,S2 = S0 ++ [acc]/\S0.length = S1.length/\R (.d (.list acc)) S0) ds (zqH caps δ) (S1 ++ [[]])
theorem RepS.pop {h o r:List Addr} {H:Hp} {S0 T:Sto} (hs:RepS h (o ++ r) H (S0 ++ T)) (hl:S0.length = o.length):RepS h o H S0 where
 len:=hl
 nd:=(List.nodup_append.mp hs.nd).1
 dis:=fun a ha=>hs.dis a (List.mem_append_left _ ha)
 hal:=hs.hal
 cont:=fun k a ds e1 e2=>by
  obtain ⟨vs,e3,l⟩:=hs.cont k a ds (zeq e1) (zeq e2)
  exact ⟨vs,e3,l.mono fun b u e=>by
   obtain ⟨z1,z2,z3⟩:=zae.mp e
   exact zae.mpr ⟨z1,fun m=>z2 (List.mem_append_left _ m),z3⟩⟩
theorem zgB {h o r:List Addr} {H:Hp}:Same (vx h (o ++ r) H) (vx h o H):=fun b u e=>by
 obtain ⟨z1,z2,z3⟩:=zae.mp e
 exact zae.mpr ⟨z1,fun m=>z2 (List.mem_append_left _ m),z3⟩
theorem Ex.pop {o o' r:List Addr} {H H':Hp} (e:Ex o H (o ++ r) H'):Ex o H o H':=⟨⟨[],by simp⟩,fun b u hb eb=>⟨hb,(e.kp b u hb eb).2⟩⟩
theorem zim {caps:List (Option Nat)} {wi:TI} {g:TG} {tt:TT} {te:TE} {di:DI} {dg:DG} {dtt:DT} {dte:DE} (hi:RI wi di) (hg:RG g dg) (ht:RT tt dtt) (he':RE te dte)
  {h o:List Addr} {H:Hp} {δ:XE} {σ:St} {S:Sto} {Q:VK} {fin:Nat->Sto->Prop} (he:RepE h o H δ σ) (hs:RepS h o H S) (q:di δ S fun ds S1=>zff S1.length dg dtt dte (fin S1.length) ds (zqH caps δ) (S1 ++ [[]]))
  (c:∀ o1 H1 D o2 H2 S2,Ex o H o1 H1->H1 D = none->Ex (o1 ++ [D]) (upd H1 D (.lst [])) o2 H2->RepS h o2 H2 S2->fin o1.length S2->Q (.ref D) H2):znC caps wi g tt te σ H Q:=by
 refine hi h o H δ σ S _ _ he hs q fun o1 H1 S1 ds J e1 s1 wk d1 D hD=>?_
 have eN:Ex o1 H1 (o1 ++ [D]) (upd H1 D (.lst [])):=Ex.new s1 hD
 have sN:RepS h (o1 ++ [D]) (upd H1 D (.lst [])) (S1 ++ [[]]):=s1.new hD (zV.mpr rfl)
 have hn:S1.length = o1.length:=s1.len
 refine ⟨fun i m τ H2=>m = ds.length - i/\i <= ds.length/\∃ o2 δ2 S2,Ex (o1 ++ [D]) (upd H1 D (.lst [])) o2 H2/\RepE h o2 H2 δ2 τ/\RepS h o2 H2 S2/\zff S1.length dg dtt dte (fin S1.length) (ds.drop i) δ2 S2,⟨ds.length,by simp,Nat.zero_le _,_,_,_,Ex.refl,((he.mono e1).mono eN).tau,sN,d1⟩,?_⟩
 rintro i m τ H2 ⟨rfl,hi,o2,δ2,S2,e2,he2,hs2,d2⟩
 by_cases hlt:i < ds.length
 ·have ed:ds[i]? = some ds[i]:=List.getElem?_eq_getElem hlt
  rw [List.drop_eq_getElem_cons hlt] at d2
  refine .inr ⟨wk.go i _ o2 H2 (eN.trans e2).hid ed,fun x H3 y=>?_⟩
  obtain ⟨s3,hx⟩:=wk.yld i _ o2 H2 x H3 S2 (eN.trans e2).hid hs2 ed y
  have e23:Ex o2 H2 o2 H3:=Ex.of_same s3
  refine hg h o2 H3 δ2 τ S2 (.d ds[i]) x _ _ (he2.mono e23) (hs2.same s3) hx d2 fun o4 H4 δ4 S4 τ4 e4 he4 hs4 d4=>?_
  refine ht h o4 H4 δ4 τ4 S4 _ _ he4 hs4 d4 fun o5 H5 S5 b e5 s5 d5=>?_
  have e15:=((e2.trans e23).trans e4).trans e5
  cases b with
  | false=>exact zq1 ⟨ds.length - (i + 1),by omega,rfl,hlt,o5,δ4,S5,e15,he4.mono e5,s5,by simpa using d5⟩
  | true =>
   refine zqi (he' h o5 H5 δ4 τ4 S5 _ _ (he4.mono e5) s5 (by simpa using d5) fun o6 H6 S6 z v e6 s6 z6 d6=>?_)
   replace d6:=zeK d6
   obtain ⟨e,rfl,acc,ea,hl,d6⟩:=d6
   have e16:=e15.trans e6
   have eD:o6[S1.length]? = some D:=by
    obtain ⟨r,rfl⟩:=e16.pre
    rw [hn]
    exact zeq (by rw [List.getElem?_concat_length])
   obtain ⟨vs,ev,l⟩:=s6.cont _ D acc eD ea
   refine ⟨vs,ev,by rw [l.length]; exact small1000 (Nat.le_of_lt hl),ds.length - (i + 1),by omega,rfl,hlt,o6,δ4,_,e16.trans (Ex.upd eD),((he4.mono e5).mono e6).mono (Ex.upd eD),s6.upd eD (l.append (zI.mpr ⟨v,[],rfl,z6,zV.mpr rfl⟩)),d6⟩
 ·have ei:i = ds.length:=by omega
  subst ei
  rw [List.drop_length] at d2
  exact .inl ⟨wk.stop _ o2 H2 (eN.trans e2).hid (Nat.le_refl _),c o1 H1 D o2 H2 S2 e1 hD e2 hs2 (hn ▸ d2)⟩
theorem zkF {caps:List (Option Nat)} {wi:TI} {g:TG} {tt:TT} {te:TE} {di:DI} {dg:DG} {dtt:DT} {dte:DE} (hi:RI wi di) (hg:RG g dg) (ht:RT tt dtt) (he':RE te dte):RE (znC caps wi g tt te) (zfU caps di dg dtt dte):=fun h o H δ σ S R Q he hs q c=>by
 refine zim (fin:=fun n S2=>R (.l n) S2) hi hg ht he' he hs q fun o1 H1 D o2 H2 S2 e1 hD e2 s2 f=>?_
 have eN:Ex o1 H1 (o1 ++ [D]) (upd H1 D (.lst [])):=⟨⟨[D],rfl⟩,fun b w hb e=>by
  have ne:b ≠ D:=zX e hD
  exact ⟨by simp [hb,ne],by rw [zO ne]; exact e⟩⟩
 refine c o2 H2 S2 (.l o1.length) _ ((e1.trans eN).trans e2) s2 ⟨D,?_,rfl⟩ f
 obtain ⟨r,rfl⟩:=e2.pre
 exact zeq (by rw [List.getElem?_concat_length])
theorem zbj {caps:List (Option Nat)} {wi:TI} {g:TG} {tt:TT} {te:TE} {di:DI} {dg:DG} {dtt:DT} {dte:DE} (hi:RI wi di) (hg:RG g dg) (ht:RT tt dtt) (he':RE te dte):RE (znC caps wi g tt te) (zcx caps di dg dtt dte):=fun h o H δ σ S R Q he hs q c=>by
 refine zim (fin:=fun n S2=>∃ (S0:Sto) (acc:List PyData),S2 = S0 ++ [acc]/\S0.length = n/\R (.d (.list acc)) S0) hi hg ht he' he hs q fun o1 H1 D o2 H2 S2 e1 hD e2 s2 ⟨S0,acc,eS,hl,f⟩=>?_
 subst eS
 have eN:Ex o1 H1 (o1 ++ [D]) (upd H1 D (.lst [])):=⟨⟨[D],rfl⟩,fun b w hb e=>by
  have ne:b ≠ D:=zX e hD
  exact ⟨by simp [hb,ne],by rw [zO ne]; exact e⟩⟩
 have e12:=eN.trans e2
 obtain ⟨r,rfl⟩:=e2.pre
 have er:r = []:=by
  have:=s2.len
  simp only [List.length_append,List.length_singleton,hl] at this
  exact List.eq_nil_of_length_eq_zero (by omega)
 subst er
 rw [List.append_nil] at s2 e12
 have s0:RepS h o1 H2 S0:=s2.pop hl
 refine c o1 H2 S0 (.d (.list acc)) _ (e1.trans (Ex.pop (o':=o1) e12)) s0 ?_ f
 obtain ⟨vs,ev,l⟩:=s2.cont o1.length D acc (by rw [List.getElem?_concat_length]) (by rw [<- hl,List.getElem?_concat_length])
 have nD:D ∉ o1:=by
  have:=(List.nodup_append.mp s2.nd).2.2
  intro m
  exact this D m D (by simp) rfl
 exact zbs.mpr ⟨D,vs,rfl,zae.mpr ⟨s2.dis D (by simp),nD,ev⟩,l.mono zgB⟩
def fin (n:Nat) (R:RX):RX:=fun y S'=>match y with
 | .l k=>if k < n then R (.l k) (S'.take n) else ∃ ds,S'[k]? = some ds/\(R (.d (.list ds)) (S'.take n)\/R (.l n) (S'.take n ++ [ds]))
 | y=>R y (S'.take n)
theorem zqP {h o:List Addr} {H:Hp} {S:Sto} {R:RX} {Q:VK} (hs:RepS h o H S) (c:Cn h o H R Q):Cn h o H (fin S.length R) Q:=fun o' H' S' y v e s' hy q=>by
 obtain ⟨r,rfl⟩:=e.pre
 have eS:S' = S'.take S.length ++ S'.drop S.length:=(List.take_append_drop _ _).symm
 have hl:(S'.take S.length).length = o.length:=by
  have:=s'.len
  rw [List.length_append] at this
  rw [List.length_take,this,hs.len]
  omega
 have s0:RepS h o H' (S'.take S.length):=by
  rw [eS] at s'
  exact s'.pop hl
 have e0:Ex o H o H':=Ex.pop (o':=o) e
 cases y with
 | d d=>exact c o H' _ (.d d) v e0 s0 (Has.mono zgB d v hy) q
 | o w=>exact c o H' _ (.o w) v e0 s0 hy q
 | x C fs=>exact c o H' _ (.x C fs) v e0 s0 (HasE.mono zgB hy) q
 | l k =>
  unfold fin at q
  by_cases hk:k < S.length
  ·simp only [hk,↓reduceIte] at q
   obtain ⟨a,ea,rfl⟩:=hy
   exact c o H' _ (.l k) _ e0 s0 ⟨a,by rw [List.getElem?_append_left (by rw [<- hs.len]; exact hk)] at ea; exact ea,rfl⟩ q
  ·simp only [hk,↓reduceIte] at q
   obtain ⟨ds,eds,q⟩:=q
   obtain ⟨a,ea,rfl⟩:=hy
   obtain ⟨vs,ev,l⟩:=s'.cont k a ds ea eds
   have na:a ∉ o:=fun m=>by
    obtain ⟨j,ej⟩:=List.mem_iff_getElem?.mp m
    have hj:j < o.length:=(List.getElem?_eq_some_iff.mp ej).1
    have:=zev s'.nd (zeq (t:=r) ej) ea
    rw [hs.len] at hk
    omega
   have nh:a ∉ h:=s'.dis a (List.mem_of_getElem? ea)
   rcases q with q | q
   ·exact c o H' _ (.d (.list ds)) _ e0 s0 (zbs.mpr ⟨a,vs,rfl,zae.mpr ⟨nh,na,ev⟩,l.mono zgB⟩) q
   ·have hn:H a = none:=by
     cases eh:H a with
     | none=>rfl
     | some u=>exact absurd (List.mem_of_getElem? ea) (e.kp a u na eh).1
    have e1:Ex o H (o ++ [a]) H':=⟨⟨[a],rfl⟩,fun b u hb eb=>⟨by simp only [List.mem_append,List.mem_singleton,not_or]; exact ⟨hb,zX eb hn⟩,(e0.kp b u hb eb).2⟩⟩
    have sub:Same (vx h (o ++ r) H') (vx h (o ++ [a]) H'):=fun b u eb=>by
     obtain ⟨z1,z2,z3⟩:=zae.mp eb
     refine zae.mpr ⟨z1,?_,z3⟩
     simp only [List.mem_append,List.mem_singleton,not_or]
     exact ⟨fun m=>z2 (List.mem_append_left _ m),fun z=>z2 (by rw [z]; exact List.mem_of_getElem? ea)⟩
    refine c (o ++ [a]) H' _ (.l S.length) _ e1 ⟨by rw [List.length_append,List.length_append,hl]; rfl,zcK hs.nd na,fun b hb=>?_,s0.hal,fun j b es q1 q2=>?_⟩ ⟨a,by rw [hs.len,List.getElem?_concat_length],rfl⟩ q
    ·rcases List.mem_append.mp hb with hb | hb
     ·exact hs.dis b hb
     ·rw [List.mem_singleton.mp hb]; exact nh
    ·by_cases hj:j < o.length
     ·rw [List.getElem?_append_left hj] at q1
      rw [List.getElem?_append_left (by rw [hl]; exact hj),List.getElem?_take_of_lt (by rw [hs.len]; exact hj)] at q2
      obtain ⟨ws,e3,l3⟩:=s'.cont j b es (zeq q1) q2
      exact ⟨ws,e3,l3.mono sub⟩
     ·have hj':j = o.length:=by
       obtain ⟨q,_⟩:=List.getElem?_eq_some_iff.mp q1
       rw [List.length_append,List.length_singleton] at q
       omega
      subst hj'
      rw [List.getElem?_concat_length] at q1
      rw [<- hl,List.getElem?_concat_length] at q2
      cases q1
      cases q2
      exact ⟨vs,ev,l.mono sub⟩
def zb3 (n:Nat) (R:RX):DEnds:={ nx:=fun _ S'=>fin n R (.d .none) S',rt:=fin n R }
theorem eok {h o:List Addr} {H:Hp} {S:Sto} {R:RX} {Q:VK} (hs:RepS h o H S) (c:Cn h o H R Q):EOk h o H (zb3 S.length R) { nx:=fun _ H'=>Q .non H',rt:=Q } :=
 ⟨fun o' H' δ' S' σ' e he hs' q=>zqP hs c o' H' S' _ _ e hs' xN q,zqP hs c,fun _ _ _ _ _ _ _ _ q=>q.elim,fun _ _ _ _ _ _ _ _ q=>q.elim⟩
def zbb (p:List PyData):Prop:=∃ l g s:Int,p = [.int l,.int g,.int s]/\0 <= l
end
section
def zv2 (K:W.Frag):List V->Hp->VK->Prop:=fun xs H Q=>∃ (p:Addr) (ns:List Int),xs = [.ref p]/\SqL K H p (ns.map V.int)/\Q (.int ns.sum) H
def zvY (K:W.Frag):List V->Hp->VK->Prop:=fun xs H Q=>∃ (p:Addr) (bs:List Bool),xs = [.ref p]/\SqL K H p (bs.map V.bl)/\Q (.bl (bs.all id)) H
theorem zit:bootBuiltins "sum" = some (.builtin "sum"):=by decide +kernel
theorem znD:bootBuiltins "all" = some (.builtin "all"):=by decide +kernel
section
variable {X:Cx}
theorem zdC (hc:X.calm = true):CallR X (.builtin "sum") (zv2 X.K):=by
 intro zk s σ H xs us Q I r h
 obtain ⟨p,ns,rfl,hq,q⟩:=h
 obtain ⟨u,rfl,rx⟩:=vals1 r
 cases (show u = Value.ref p from rx)
 obtain ⟨its,rv,pl,_⟩:=I.list hq
 obtain ⟨ys,e,hns⟩:=zgg (zbM rv)
 refine sum_intListG (I.ok.hd hc) (by rw [<- e]; exact pl.isList) fun h' tk t' hk=>⟨.int ns.sum,H,I.kept (t':=tk) hk,⟨t',?_⟩,q⟩
 have es:preSum (numAt ys) ys.size = ns.sum:=by
  rw [preSum_eq,hns,List.take_of_length_le (by simp)]
 rw [es]
theorem zkX:∀ {bs:List Bool} {us:List Value} {i:Nat} {v:Value},Vals (bs.map V.bl) us->us[i]? = some v->∃ b,bs[i]? = some b/\v = .bool b
 | [],_,i,v,.nil,e=>by simp at e
 | b :: bs,_,0,v,.cons r _,e=>by
  rw [List.getElem?_cons_zero] at e
  cases e
  exact ⟨b,rfl,r⟩
 | b :: bs,_,i + 1,v,.cons _ t,e=>by
  obtain ⟨c,e1,e2⟩:=zkX (i:=i) (v:=v) t (by simpa using e)
  exact ⟨c,by simpa using e1,e2⟩
theorem zrP (bs:List Bool):((List.range bs.length).all fun i=>(bs[i]?).getD true) = bs.all id:=by
 rw [Bool.eq_iff_iff,List.all_eq_true,List.all_eq_true]
 constructor
 ·intro h b hb
  obtain ⟨i,hi⟩:=List.mem_iff_getElem?.mp hb
  have hl:=(List.getElem?_eq_some_iff.mp hi).1
  have:=h i (List.mem_range.mpr hl)
  rw [hi] at this
  exact this
 ·intro h i hi
  have hl:=List.mem_range.mp hi
  rw [List.getElem?_eq_getElem hl]
  exact h _ (List.getElem_mem hl)
theorem zfY (hc:X.calm = true):CallR X (.builtin "all") (zvY X.K):=by
 intro zk s σ H xs us Q I r h
 obtain ⟨p,bs,rfl,hq,q⟩:=h
 obtain ⟨u,rfl,rx⟩:=vals1 r
 cases (show u = Value.ref p from rx)
 obtain ⟨its,rv,pl,_⟩:=I.list hq
 have hl:=pl.isList
 have hlt:p < s.heap.objs.size:=by
  obtain ⟨_,e,_⟩:=hl
  exact Heap.lt_size e
 refine call_all_walk (x:=Value.ref p) (wpAny_pyIter_list hl ?_)
 refine ⟨s.heap.objs.size,[s.heap.objs.size,p],[s.heap.objs.size],its.toArray.size,_,_,fun i=>(bs[i]?).getD true,rfl,
  Walks.list (A:=X.A.in1) (I.ok.hd hc) _ p (Nat.ne_of_lt hlt) its.toArray,⟨⟨_,Heap.get?_push_size _ rfl,rfl,rfl⟩,hl.push _⟩,fun i v s' Q' E' hP hQ=>?_,fun h' tk hk=>?_⟩
 ·obtain ⟨b,e,rfl⟩:=zkX (i:=i) (v:=v) rv (by simpa using hP)
  have hQ':Q' b s':=by simpa [e] using hQ
  exact wpAny_truthy_bool hQ'
 ·have hz:its.toArray.size = bs.length:=by
   have:=rv.length
   rw [List.length_map] at this
   simp [this]
  rw [hz,zrP]
  refine ⟨.bl _,H,I.kept (t':=tk) fun b o e=>hk b o (fun hm=>?_) (Heap.get?_push_of_some _ e),rfl,q⟩
  rw [List.mem_singleton.mp hm] at e
  exact Nat.lt_irrefl _ (Heap.lt_size e)
end
def zpI:List XV->Sto->RX->Prop:=fun xs S R=>arg1 xs fun x=>∃ ds,zgP S x = some ds/\∃ ns:List Int,ds = ns.map PyData.int/\R (.d (.int ns.sum)) S
theorem zir {K:W.Frag}:RC (zv2 K) zpI:=fun h o H S xs vs R Q hs hx q c=>by
 obtain ⟨x,rfl,ds,hd,ns,rfl,q1⟩:=za3 q
 obtain ⟨v,rfl,hx1⟩:=hxs1 hx
 obtain ⟨a,ws,rfl,ea,l⟩:=zbr hs hd hx1
 rw [zcL l] at ea
 exact ⟨a,ns,rfl,.of ea,c o H S _ _ Ex.refl hs (xI _) q1⟩
theorem zih {H:Hp}:∀ {ns:List Bool} {vs:List V},HasL H (ns.map PyData.bool) vs->vs = ns.map V.bl
 | [],vs,h=>zV.mp h
 | n :: ns,vs,h=>by
  obtain ⟨v,r,rfl,h1,h2⟩:=zI.mp h
  rw [zeP.mp h1,zih h2]
  rfl
def zrL:List XV->Sto->RX->Prop:=fun xs S R=>arg1 xs fun x=>∃ ds,zgP S x = some ds/\∃ ns:List Bool,ds = ns.map PyData.bool/\R (.d (.bool (ns.all id))) S
theorem znZ {K:W.Frag}:RC (zvY K) zrL:=fun h o H S xs vs R Q hs hx q c=>by
 obtain ⟨x,rfl,ds,hd,ns,rfl,q1⟩:=za3 q
 obtain ⟨v,rfl,hx1⟩:=hxs1 hx
 obtain ⟨a,ws,rfl,ea,l⟩:=zbr hs hd hx1
 rw [zih l] at ea
 exact ⟨a,ns,rfl,.of ea,c o H S _ _ Ex.refl hs (xB _) q1⟩
section
variable {S:Sto} {i:Int} {b:Bool} {z:Str} {ds:List PyData} {d:PyData} {k:Nat} {x y:XV} {R:RX} {c:String} {p:List PyData} {n:Nat} {v:V}
theorem zuR {K:Int->Prop}:asI (.d (.int i)) K = K i:=rfl
theorem zsG {K:Bool->Prop}:asB (.d (.bool b)) K = K b:=rfl
theorem zuA {K:Str->Prop}:asS (.d (.str z)) K = K z:=rfl
theorem zup {K:List PyData->Prop}:asT (.d (.tuple ds)) K = K ds:=rfl
theorem zta {K:PyData->Prop}:asD (.d d) K = K d:=rfl
theorem zqT:zgP S (.d (.list ds)) = some ds:=rfl
theorem zp0:zgP S (.l k) = S[k]?:=rfl
theorem zuN:asQ S (.d (.list ds)) = some ds:=rfl
theorem zuK:asQ S (.d (.tuple ds)) = some ds:=rfl
theorem zux:asQ S (.l k) = S[k]?:=rfl
theorem zon:zb9 S (.d d) = some d:=rfl
theorem znw:zb9 S (.l k) = (S[k]?).map .list:=rfl
theorem zsH {K:Nat->List PyData->Prop}:asK S (.l k) K = ∃ p,S[k]? = some p/\K k p:=rfl
theorem zpX:ret0 S R (.d d) [] = R (.d d) S:=rfl
theorem zpK:ret0 S R (.l 0) [ds] = R (.l S.length) (S ++ [ds]):=rfl
theorem zqD:ztC k S R (.d d) [p] = R (.d d) (S.set k p):=rfl
theorem zqt:ztC k S R (.l 1) [p,ds] = R (.l S.length) (S.set k p ++ [ds]):=rfl
theorem ztv:fin n R (.d d) S = R (.d d) (S.take n):=rfl
theorem ztT:fin n R (.l k) S = if k < n then R (.l k) (S.take n) else ∃ ds,S[k]? = some ds/\(R (.d (.list ds)) (S.take n)\/R (.l n) (S.take n ++ [ds])):=rfl
theorem zq6 {K:XV->Prop}:arg1 [x] K = K x:=rfl
theorem zqI {K:XV->XV->Prop}:arg2 [x,y] K = K x y:=rfl
theorem zq9 {K:String->Prop}:zu8 (.o (.ty c)) K ↔ K c:=⟨fun ⟨_,e,q⟩=>by cases e; exact q,fun q=>⟨c,rfl,q⟩⟩
theorem zql {K:Int->Prop}:zu3 (.d (.int i)) K = K i:=rfl
theorem zqJ {K:Int->Prop}:zu3 (.d (.bool b)) K = K (if b then 1 else 0):=rfl
theorem znX {δ:XE}:(zb3 n R).nx δ S = fin n R (.d .none) S:=rfl
theorem zot:(zb3 n R).rt x S = fin n R x S:=rfl
theorem zjh:datas [] = some []:=rfl
theorem zhf {r:List XV}:datas (.d d :: r) = (datas r).map (d :: ·):=rfl
end
theorem zuV {α:Type} {a:α} {l:List α}:atI (a :: l) 0 = some a:=zct (j:=0) rfl
theorem ztx {α:Type} {a b:α} {l:List α}:atI (a :: b :: l) 1 = some b:=zct (j:=1) rfl
theorem ztB {α:Type} {a b c:α} {l:List α}:atI (a :: b :: c :: l) 2 = some c:=zct (j:=2) rfl
theorem zsU {α:Type} {a b c d:α} {l:List α}:atI (a :: b :: c :: d :: l) 3 = some d:=zct (j:=3) rfl
theorem ztc {α:Type} {a b c d e:α} {l:List α}:atI (a :: b :: c :: d :: e :: l) 4 = some e:=zct (j:=4) rfl
def Shp (n:Nat) (d:PyData):Prop:=d.canLay0 = true/\d.depth <= n
theorem zjP {n:Nat} {i:Int}:Shp n (.int i):=⟨rfl,Nat.zero_le _⟩
theorem zky {n:Nat} {i:Bool}:Shp n (.bool i):=⟨rfl,Nat.zero_le _⟩
theorem zjy {n:Nat}:∀ {ds:List PyData},(∀ d ∈ ds,Shp n d)->PyData.canLayAll0 ds = true/\PyData.depthAll ds <= n
 | [],_=>⟨by simp only [PyData.canLayAll0],by simp only [PyData.depthAll]; exact Nat.zero_le _⟩
 | d :: ds,h=>by
  obtain ⟨h1,h2⟩:=h d List.mem_cons_self
  obtain ⟨h3,h4⟩:=zjy (ds:=ds) fun e m=>h e (List.mem_cons_of_mem _ m)
  simp only [PyData.canLayAll0,PyData.depthAll,h1,h3,Bool.and_true,true_and]
  omega
theorem zhN {n:Nat} {ds:List PyData} (h:∀ d ∈ ds,Shp n d):Shp (n + 1) (.list ds):=by
 obtain ⟨h1,h2⟩:=zjy h
 exact ⟨by simp only [PyData.canLay0]; exact h1,by simp only [PyData.depth]; omega⟩
theorem zma {n:Nat} {ds:List PyData} (h:∀ d ∈ ds,Shp n d):Shp (n + 1) (.tuple ds):=by
 obtain ⟨h1,h2⟩:=zjy h
 exact ⟨by simp only [PyData.canLay0]; exact h1,by simp only [PyData.depth]; omega⟩
theorem zhQ {α:Type} {n:Nat} {f:α->PyData} {l:List α} (h:∀ x ∈ l,Shp n (f x)):∀ d ∈ l.map f,Shp n d:=fun d m=>by
 obtain ⟨x,hx,rfl⟩:=List.mem_map.mp m
 exact h x hx
theorem zvc {n:Nat} {a b:PyData} (h1:Shp n a) (h2:Shp n b):∀ d ∈ [a,b],Shp n d:=by
 intro d m
 simp only [List.mem_cons,List.not_mem_nil,or_false] at m
 rcases m with rfl | rfl
 ·exact h1
 ·exact h2
theorem Shp.ok {n:Nat} {d:PyData} (h:Shp n d) (hn:n <= 64:=by decide):SeqAt.shaped d = true:=by
 unfold SeqAt.shaped
 rw [h.1,decide_eq_true (Nat.le_trans h.2 hn)]
 rfl
theorem zaW {g:DG} {b:DS} {E:DEnds}:∀ {ds:List PyData} {δ:XE} {S:Sto} (I:Nat->XE->Sto->Prop),I 0 δ S ->
  (∀ i d δ S (N:XE->Sto->Prop),ds[i]? = some d->I i δ S->(∀ δ' S',I (i + 1) δ' S'->N δ' S')->g (.d d) δ S fun δ1 S1=>b { nx:=N,ct:=N,bk:=E.nx,rt:=E.rt } δ1 S1) ->
  (∀ δ S,I ds.length δ S->E.nx δ S)->zlS g b ds E δ S
 | [],δ,S,I,h0,_,fin=>fin δ S h0
 | d :: ds,δ,S,I,h0,step,fin=>by
  show g (.d d) δ S fun δ1 S1=>b _ δ1 S1
  refine step 0 d δ S _ rfl h0 fun δ' S' h1=>?_
  exact zaW (ds:=ds) (fun i=>I (i + 1)) h1 (fun i e δ S N hi=>step (i + 1) e δ S N (by simpa using hi)) fin
theorem zhz {α:Type} {l:List α} {a b:α} {n:Nat} (h:l.length = n):(l ++ [a]).set n b = l ++ [b]:=by
 subst h
 rw [List.set_append_right _ _ (Nat.le_refl _),Nat.sub_self]
 rfl
theorem zmE {H:Hp}:RepS [] [] H []:=⟨rfl,List.nodup_nil,fun _ h=>(nomatch h),fun _ h=>(nomatch h),fun _ _ _ e=>(by simp at e)⟩
theorem Ex.same_nil {o':List Addr} {H H':Hp} (e:Ex [] H o' H'):Same H H':=fun b u q=>(e.kp b u (by simp) q).2
theorem zrm {K:W.Frag} {a:Addr} {ns:List Int} {N:Int} {j m:Nat} {tb:TS} {db:DS} {D:Ends} {σ:St} {H:Hp} (hb:RS tb db) (h0:σ[0]? = some (some (.ref a))) (hl:σ.length = m + 1) (hS:SqL K H a (ns.map V.int)) (hlen:ns.length <= 63)
  (turn:∀ n:Int,db { nx:=fun δ _=>δ[0]? = some (some (.o (.ref a)))/\δ.length = m + 1,ct:=fun δ _=>δ[0]? = some (some (.o (.ref a)))/\δ.length = m + 1,rt:=fun _ _=>False } ((some (.o (.ref a)) :: List.replicate m none).set j (some (.d (.int n)))) [])
  (hj:j ≠ 0) (done:∀ (σ:St) (H1:Hp),Same H H1->D.nx σ H1) :
  ztW (zrl K (tOp zsw (zss (zl2 (tC2 (zrV K) (zkn 0) (tC (.int 0))) zsu)) (tSl (zsS K) (zkn 0) (zlY (tC (.int 1))) (zlY (tC (.int N)))))) (zjJ j) tb D σ H:=by
 refine zm3 (a:=a) (ns:=ns) (fun σ=>σ[0]? = some (some (.ref a))/\σ.length = m + 1) h0 hS hlen ⟨h0,hl⟩ ?_ fun σ H1 _ s=>done σ H1 s
 rintro n σ1 H1 H2 ⟨z0,z1⟩ s1 s2
 refine hb [] [] H2 _ _ [] _ _ ⟨by simp [z1],fun i x e=>?_⟩ zmE (turn n) ⟨?_,fun _ _ _ _ _ _ _ _ q=>q.elim,fun _ _ _ _ _ _ _ _ q=>q.elim,?_⟩
 ·rw [List.getElem?_set] at e ⊢
  by_cases hij:j = i
  ·rw [if_pos hij] at e ⊢
   by_cases hjl:j < m + 1
   ·rw [if_pos (by simpa using hjl)] at e
    rw [if_pos (by rw [z1]; exact hjl)]
    cases e
    exact ⟨.int n,rfl,xI n⟩
   ·rw [if_neg (by simpa using hjl)] at e
    cases e
  ·rw [if_neg hij] at e ⊢
   cases i with
   | zero =>
    cases e
    exact ⟨.ref a,z0,rfl⟩
   | succ i =>
    rw [List.getElem?_cons_succ,List.getElem?_replicate] at e
    split at e <;> cases e
 ·rintro o' H' δ' S' σ' e he hs ⟨q1,q2⟩
  obtain ⟨v,ev,hv⟩:=he.get 0 _ q1
  cases hv
  exact ⟨s2.trans e.same_nil,ev,by rw [<- he.len]; exact q2⟩
 ·rintro o' H' δ' S' σ' e he hs ⟨q1,q2⟩
  obtain ⟨v,ev,hv⟩:=he.get 0 _ q1
  cases hv
  exact ⟨s2.trans e.same_nil,ev,by rw [<- he.len]; exact q2⟩
theorem zvw {a:Addr} {m:Nat} {t u:TS} {dt:DS} {D:Ends} {σ:St} {H:Hp} (ht:RS t dt) (h0:σ[0]? = some (some (.ref a))) (hl:σ.length = m + 1)
  (go:dt { nx:=fun δ _=>δ[0]? = some (some (.o (.ref a)))/\δ.length = m + 1,rt:=fun _ _=>False } (some (.o (.ref a)) :: List.replicate m none) [])
  (next:∀ (σ:St) (H1:Hp),σ[0]? = some (some (.ref a))->σ.length = m + 1->Same H H1->u D σ H1):zjr t u D σ H:=by
 refine ht [] [] H _ _ [] _ _ ⟨by simp [hl],fun i x e=>?_⟩ zmE go ⟨?_,fun _ _ _ _ _ _ _ _ q=>q.elim,fun _ _ _ _ _ _ _ _ q=>q.elim,fun _ _ _ _ _ _ _ _ q=>q.elim⟩
 ·cases i with
  | zero =>
   cases e
   exact ⟨.ref a,h0,rfl⟩
  | succ i =>
   rw [List.getElem?_cons_succ,List.getElem?_replicate] at e
   split at e <;> cases e
 ·rintro o' H' δ' S' σ' e he hs ⟨q1,q2⟩
  obtain ⟨v,ev,hv⟩:=he.get 0 _ q1
  cases hv
  exact next σ' H' ev (by rw [<- he.len]; exact q2) e.same_nil
end
section
theorem zmN {P:Program} {w:World} {K:W.Frag} {tg:Expr} (it:Addr) (lo:Int) (n:Nat):Turn P w K tg (Itr lo n) [it] it (fun i h=>IsLongIter h it (lo + (i:Nat) * 1) ((n:Int) - (i:Nat)) 1) where
 mem:=by simp
 obj:=fun i h st b hb=>by
  have e:b = it:=by simpa using hb
  subst e
  exact ⟨_,st,fun v z=>by
   have z':Data.fields _ = Data.cell v:=z
   cases z'⟩
 keep:=fun i h h' st k=>k it (by simp) _ st
 item:=by
  intro X hP hw hK hc i zk s σ H E I hf st hg
  subst hP hw hK
  obtain ⟨f0,f1,f2,f3,f4,f5⟩:=hf it (by simp)
  have W:=Walks.longrange (prog:=X.prog) (w:=X.w) (I.ok.hd hc) it lo 1 n
  refine W.item i s _ _ hg st fun v h' tk hv st' kk=>?_
  obtain ⟨t,rfl⟩:=hv
  have I1:Inv X zk σ H { s with heap:=h',toks:=tk }:=I.turned (fun b o hb e=>kk b o (by simpa using hb) e) f0 f1 f3 f4 f5
  refine ⟨_,rfl,zmx (s:={ s with heap:=h',toks:=tk }) (n:="longrange_iterator") st' rfl rfl (by decide) ⟨.int (lo + i),H,I1,⟨t,?_⟩,⟨rfl,rfl⟩,st',fun b hb=>(hf b hb).1⟩⟩
  rw [Int.mul_one]
 done:=by
  intro X hP hw hK hc i zk s σ H E I hf st hg
  subst hP hw hK
  obtain ⟨f0,f1,f2,f3,f4,f5⟩:=hf it (by simp)
  exact wpAny_pyNext_long_end (I.ok.hd hc) st (by have:n <= i:=hg; omega) fun h' eb=>⟨rfl,I.turned (t':=s.toks) (fun b o hb e=>eb b o hb e) f0 f1 f3 f4 f5⟩
 self:=fun _ _ _ _ _ st h=>wpAny_pyIter_longiter st h
section
variable {X:Cx} {tg:Expr}
theorem ziH {zk:List (Addr × Obj)} {σ:St} {H:Hp} {s:Shared} {R:It->Hp->Prop} {E:Value->Shared->Prop} {lo hi:Int} {t u v:Tok} {tk:Nat} (I:Inv X zk σ H s)
  (q:R (Itr lo (hi - lo).toNat) H):wpAny (model X.prog X.w) X.A (pyIter (.ref s.heap.objs.size)) (PIE X zk σ tg R) E { s with heap:=s.heap.push { cls:=.type "range",data:=.fields #[.int lo t,.int hi u,.int 1 v] },toks:=tk }:=by
 have I1:Inv X zk σ H { s with heap:=s.heap.push { cls:=.type "range",data:=.fields #[.int lo t,.int hi u,.int 1 v] },toks:=tk }:=I.kept fun b o e=>Heap.get?_push_of_some _ e
 have e1:lo + ((0:Nat):Int) * 1 = lo:=by simp
 have e2:(((hi - lo).toNat:Nat):Int) - ((0:Nat):Int) = Builtin.Range.rangeSize lo hi 1:=by rw [rangeSize_one]; split <;> omega
 cases hsm:Builtin.Range.small lo hi 1 with
 | true =>
  refine wpAny_pyIter_range (IsRange.new ..) hsm ?_
  refine ⟨(s.heap.push { cls:=.type "range",data:=.fields #[.int lo t,.int hi u,.int 1 v] }).objs.size,[(s.heap.push { cls:=.type "range",data:=.fields #[.int lo t,.int hi u,.int 1 v] }).objs.size],_,_,H,rfl,
   I1.kept (t':=tk) fun b o e=>Heap.get?_push_of_some _ e,zlE _ lo (hi - lo).toNat,?_,fun b hb=>?_,q⟩
  ·show IsRangeIter _ _ (lo + ((0:Nat):Int) * 1) ((((hi - lo).toNat:Nat):Int) - ((0:Nat):Int)) 1
   rw [e1,e2]
   exact Heap.get?_push_size _ rfl
  ·have e:b = (s.heap.push { cls:=.type "range",data:=.fields #[.int lo t,.int hi u,.int 1 v] }).objs.size:=by simpa using hb
   subst e
   exact I1.fpOk (Nat.le_refl _) (I1.hok.fresh (Nat.le_refl _))
 | false =>
  refine wpAny_pyIter_longrange (IsRange.new ..) hsm ?_
  refine ⟨(s.heap.push { cls:=.type "range",data:=.fields #[.int lo t,.int hi u,.int 1 v] }).objs.size,[(s.heap.push { cls:=.type "range",data:=.fields #[.int lo t,.int hi u,.int 1 v] }).objs.size],_,_,H,rfl,
   I1.kept (t':=tk) fun b o e=>Heap.get?_push_of_some _ e,zmN _ lo (hi - lo).toNat,?_,fun b hb=>?_,q⟩
  ·show IsLongIter _ _ (lo + ((0:Nat):Int) * 1) ((((hi - lo).toNat:Nat):Int) - ((0:Nat):Int)) 1
   rw [e1,e2]
   exact Heap.get?_push_size _ rfl
  ·have e:b = (s.heap.push { cls:=.type "range",data:=.fields #[.int lo t,.int hi u,.int 1 v] }).objs.size:=by simpa using hb
   subst e
   exact I1.fpOk (Nat.le_refl _) (I1.hok.fresh (Nat.le_refl _))
def zqb (ta:TA):TI:=fun σ H R=>ta σ H fun vs H1=>∃ j:Int,vs = [.int j]/\R (Itr 0 j.toNat) H1
def zra (ta:TA):TI:=fun σ H R=>ta σ H fun vs H1=>∃ i j:Int,vs = [.int i,.int j]/\R (Itr i (j - i).toNat) H1
theorem zaA {a:Expr} {ta:TA} {p pos:Pos} (hg:Gl X "range") (hm:X.mg "range" = none) (ha:PA X [a] ta) (hs:starEach [a] X.env = [(false,eval a X.env)]:=by rfl):PI X tg (.Call (.Name "range" p) [a] [] pos) (zqb ta):=by
 intro zk s σ H R I h
 refine Call_ (zfS I hg hm boot_range (PyProof.Rows.callWith_type1 (thn (ha pos zk s σ H _ I h) fun us s1 ⟨vs,H1,I1,r1,q1⟩=>?_) hs rfl))
 obtain ⟨j,e,q⟩:=q1
 subst e
 cases r1 with
 | cons r rr =>
  cases rr
  obtain ⟨t,rfl⟩:=r
  exact call_range_1 (ziH I1 (by simpa using q))
theorem zfc {a b:Expr} {ta:TA} {p pos:Pos} (hg:Gl X "range") (hm:X.mg "range" = none) (ha:PA X [a,b] ta) (hs:starEach [a,b] X.env = [(false,eval a X.env),(false,eval b X.env)]:=by rfl) (hs2:starEach [b] X.env = [(false,eval b X.env)]:=by rfl) :
  PI X tg (.Call (.Name "range" p) [a,b] [] pos) (zra ta):=by
 intro zk s σ H R I h
 refine Call_ (zfS I hg hm boot_range (PyProof.Rows.callWith_type1 (thn (ha pos zk s σ H _ I h) fun us s1 ⟨vs,H1,I1,r1,q1⟩=>?_) (by rw [hs,hs2]) (by rw [hs2]; rfl)))
 obtain ⟨i,j,e,q⟩:=q1
 subst e
 cases r1 with
 | cons r rr =>
  cases rr with
  | cons r' rr =>
   cases rr
   obtain ⟨t,rfl⟩:=r
   obtain ⟨t',rfl⟩:=r'
   exact call_range_2 (ziH I1 q)
end
def zaz (a:DA):DI:=fun δ S R=>a δ S fun xs S1=>arg1 xs fun x=>asI x fun j=>R (zhE 0 j.toNat) S1
def ze7 (a:DA):DI:=fun δ S R=>a δ S fun xs S1=>arg2 xs fun x y=>asI x fun i=>asI y fun j=>R (zhE i (j - i).toNat) S1
theorem zbg {ta:TA} {da:DA} (ha:RA ta da):RI (zqb ta) (zaz da):=fun h o H δ σ S R Q he hs q c =>
 ha h o H δ σ S _ _ he hs q fun o1 H1 S1 xs vs e1 s1 x1 d0=>by
  obtain ⟨x,rfl,d2⟩:=za3 d0
  obtain ⟨j,rfl,d1⟩:=zbd d2
  obtain ⟨v,rfl,hv⟩:=hxs1 x1
  rw [zaT hv]
  exact ⟨j,rfl,c o1 H1 S1 _ _ e1 s1 zjd d1⟩
theorem zh2 {ta:TA} {da:DA} (ha:RA ta da):RI (zra ta) (ze7 da):=fun h o H δ σ S R Q he hs q c =>
 ha h o H δ σ S _ _ he hs q fun o1 H1 S1 xs vs e1 s1 x1 d0=>by
  obtain ⟨x,y,rfl,d2⟩:=zgr d0
  obtain ⟨i,rfl,d3⟩:=zbd d2
  obtain ⟨j,rfl,d1⟩:=zbd d3
  obtain ⟨v,u,rfl,hv,hu⟩:=hxs2 x1
  rw [zaT hv,zaT hu]
  exact ⟨i,j,rfl,c o1 H1 S1 _ _ e1 s1 zjd d1⟩
def zvO:List XV->Sto->RX->Prop:=fun xs S R=>arg1 xs fun x=>∃ ds,zgP S x = some ds/\∃ ns:List Bool,ds = ns.map PyData.bool/\R (.d (.bool (ns.any id))) S
def zuF (f:Int->Int->Int) (a b e:DE):DS:=fun E δ S=>a δ S fun x S1=>b δ S1 fun y S2=>∃ k,x = .l k/\asI y fun i=>∃ ds,S2[k]? = some ds/\∃ n,atI ds i = some (.int n)/\e δ S2 fun z S3=>asI z fun m=>∃ es,S3[k]? = some es/\∃ j,ixN es.length i = some j/\E.nx δ (S3.set k (es.set j (.int (f n m))))
end
section
open Sem (wp)
open AutoSeq1 (wpAny_loadPart')
section
variable {X:Cx} {zk:List (Addr × Obj)} {σ:St} {H:Hp} {s:Shared} {h':Heap}
theorem Inv.turnLaid {t':Nat} {ch:List Addr} {T:Addr} {o:HO} (I:Inv X zk σ H s) (k:∀ b u,b ∉ ch->s.heap.get? b = some u->h'.get? b = some u) (hf:∀ b ∈ ch,FpOk X zk H b) (hT:s.heap.objs.size <= T)
  (new:ObjOk X.prog X.w (upd H T o) h' T o):Inv X zk σ (upd H T o) { s with heap:=h',toks:=t' }:=by
 have hn:H T = none:=I.hok.fresh hT
 have nch:∀ b u,H b = some u->b ∉ ch:=fun b u e m=>by rw [(hf b m).1] at e; cases e
 have neT:∀ b u,s.heap.get? b = some u->b ≠ T:=fun b u e z=>absurd (Nat.lt_of_lt_of_le (Heap.lt_size e) hT) (by rw [z]; exact Nat.lt_irrefl _)
 have up:∀ b u,H b = some u->upd H T o b = some u:=fun b u e=>(zO (zX e hn)).trans e
 refine I.step (g':=s.gens) (d':=s.drawn) (ch:=ch) (fun b hb=>?_) (fun b u _ _ hc e _=>k b u hc e) (fun b u _ _ hc e _=>⟨u.slots,k b u hc e⟩) (fun b u _ e n=>(zO (neT b u e)).trans n)
  (fun b u hc e=>⟨u,k b u hc e⟩) (fun b xs e=>up b _ e) (fun b u v e=>up b _ e) (fun b ps e=>⟨#[],by rw [up b _ e]; simp⟩) (fun m hm=>?_) (fun b u e=>?_) I.bare
 ·obtain ⟨_,f1,_,f3,f4,f5⟩:=hf b hb
  exact ⟨f3,f1,f4,f5⟩
 ·obtain ⟨ob,es,ep,ho,r⟩:=hm
  exact ⟨ob,es,ep,k _ ob (fun z=>(hf _ z).2.1 rfl) ho,r⟩
 ·by_cases hb:b = T
  ·subst hb
   rw [zN] at e
   cases e
   exact new
  ·rw [zO hb] at e
   refine (I.hok b u e).stay (fun c v hc q=>k c v ?_ q) (fun c q=>up c _ q) fun c xs q=>up c _ q
   rcases hc with z | z
   ·rw [z]; exact nch b u e
   ·exact nch c _ z
theorem Inv.turnedN {t':Nat} {ch:List Addr} (I:Inv X zk σ H s) (k:∀ b u,b ∉ ch->s.heap.get? b = some u->h'.get? b = some u) (hf:∀ b ∈ ch,FpOk X zk H b):Inv X zk σ H { s with heap:=h',toks:=t' }:=by
 have nch:∀ b u,H b = some u->b ∉ ch:=fun b u e m=>by rw [(hf b m).1] at e; cases e
 refine I.step (g':=s.gens) (d':=s.drawn) (ch:=ch) (fun b hb=>?_) (fun b u _ _ hc e _=>k b u hc e) (fun b u _ _ hc e _=>⟨u.slots,k b u hc e⟩) (fun b u _ e n=>n)
  (fun b u hc e=>⟨u,k b u hc e⟩) (fun b xs e=>e) (fun b u v e=>e) (fun b ps e=>⟨#[],by rw [e]; simp⟩) (fun m hm=>?_) (fun b u e=>?_) I.bare
 ·obtain ⟨_,f1,_,f3,f4,f5⟩:=hf b hb
  exact ⟨f3,f1,f4,f5⟩
 ·obtain ⟨ob,es,ep,ho,r⟩:=hm
  exact ⟨ob,es,ep,k _ ob (fun z=>(hf _ z).2.1 rfl) ho,r⟩
 ·refine (I.hok b u e).stay (fun c v hc q=>k c v ?_ q) (fun _ q=>q) fun _ _ q=>q
  rcases hc with z | z
  ·rw [z]; exact nch b u e
  ·exact nch c _ z
end
section
variable {prog:Program} {w:World} {A:Around} {E:Value->Shared->Prop} {s:Shared}
theorem zli {j t:Addr} {i:Nat} {vs:Array Value} {x:Value} {Q:Value->Shared->Prop} (hj:s.heap.IsTupleIter j t i) (ht:s.heap.IsTuple t vs) (hx:vs[i]? = some x)
  (hQ:∀ g,g.IsTupleIter j t (i + 1)->Heap.SameBut j s.heap g->Q x { s with heap:=g }):wpAny (model prog w) A (Builtin.SmallTypes.nextOf (.ref j)) Q E s:=by
 obtain ⟨oj,ej,cj,dj⟩:=id hj
 obtain ⟨ot,et,_,nt,dt⟩:=ht
 unfold Builtin.SmallTypes.nextOf
 refine wpAny_bind (wpAny_callSpecial?_slot (name:=Str.ofString "__next__") hj.typeIs F.slot_tuple_iterator_next (wpAny_call_entry F.slot_tuple_iterator_next hj.typeIs F.entry_tuple_iterator_next ?_ (F.args_tuple_iterator_next_1 _)))
 show wpAny _ _ (field (.ref j) 0 >>= _) _ _ s
 refine wpAny_bind (wpAny_field ej dj (x:=.ref t) rfl ?_)
 show wpAny _ _ (ite ((Value.ref t == Value.none) = true) _ _) _ _ s
 refine (if_neg (show ¬ ((Value.ref t == Value.none) = true) from Bool.false_ne_true)) ▸ ?_
 show wpAny _ _ (field (.ref j) 1 >>= _) _ _ s
 refine wpAny_bind (wpAny_field ej dj (x:=.int i 0) rfl ?_)
 refine wpAny_bind (m:=seqItems? (.ref t)) (wpAny_seqItems et dt ?_)
 simp only [hx,Int.toNat_natCast]
 refine wpAny_bind (wpAny_setField ej dj (by simp) (wpAny_pure ⟨x,rfl,wpAny_pure (hQ _ ⟨_,Heap.get?_update_self _ ej (Obj.isFreed_of_fields (Obj.data_mapFields dj _)),(Obj.cls_mapFields ..).trans cj,?_⟩ (Heap.SameBut.update ..))⟩))
 rw [Obj.data_mapFields dj]
 simp [rawInt]
theorem zgX {j t:Addr} {i:Nat} {vs:Array Value} {Q:Value->Shared->Prop} (hh:A.handled = none) (hj:s.heap.IsTupleIter j t i) (ht:s.heap.IsTuple t vs) (hx:vs[i]? = none)
  (hE:∀ g e,Heap.ExtBut j s.heap g->(∃ o,g.get? e = some o/\o.cls = .type "StopIteration")->E (.ref e) { s with heap:=g }):wpAny (model prog w) A (Builtin.SmallTypes.nextOf (.ref j)) Q E s:=by
 obtain ⟨oj,ej,cj,dj⟩:=id hj
 obtain ⟨ot,et,_,nt,dt⟩:=ht
 unfold Builtin.SmallTypes.nextOf
 refine wpAny_bind (wpAny_callSpecial?_slot (name:=Str.ofString "__next__") hj.typeIs F.slot_tuple_iterator_next (wpAny_call_entry F.slot_tuple_iterator_next hj.typeIs F.entry_tuple_iterator_next ?_ (F.args_tuple_iterator_next_1 _)))
 show wpAny _ _ (field (.ref j) 0 >>= _) _ _ s
 refine wpAny_bind (wpAny_field ej dj (x:=.ref t) rfl ?_)
 show wpAny _ _ (ite ((Value.ref t == Value.none) = true) _ _) _ _ s
 refine (if_neg (show ¬ ((Value.ref t == Value.none) = true) from Bool.false_ne_true)) ▸ ?_
 show wpAny _ _ (field (.ref j) 1 >>= _) _ _ s
 refine wpAny_bind (wpAny_field ej dj (x:=.int i 0) rfl ?_)
 refine wpAny_bind (m:=seqItems? (.ref t)) (wpAny_seqItems et dt ?_)
 simp only [hx,Int.toNat_natCast]
 refine wpAny_bind (wpAny_rule (wpAny_bind (wpAny_setField ej dj (by simp) ?_)))
 show wpAny _ _ (newExc (.type "StopIteration") [] >>= _) _ _ _
 refine wpAny_bind ?_
 simp only [newExc,newTuple]
 refine wpAny_bind (wpAny_newObj_type ?_ (by size_fits)); refine wpAny_bind (m:=firstArgMember _ _) (wpAny_of_eq (a:=Value.none) (by first | rfl | (simp only [firstArgMember]; rfl)) ?_)
 refine wpAny_newObj_type ?_ (by size_fits); simp only [raiseNew]
 refine wpAny_bind (wpAny_handled ?_)
 first | rw [show A.in1.handled = none from hh] | rw [hh]
 exact wpAny_bind (wpAny_pure (wpAny_throw (hE _ _ (((Heap.SameBut.update ..).extBut.push _).push _) ⟨_,Heap.get?_push_size _ rfl,rfl⟩)))
end
def zt3 (i:Nat):List PyData->List PyData
 | []=>[]
 | d :: ds=>.tuple [.int i,d] :: zt3 (i + 1) ds
theorem zh7 {X:Cx} {x:Str} {i:Int} {pos:Pos} (hg:Gl X x) (hm:∃ t,X.mg x = some (.int i t)) (hd:(x == ("__debug__":Str)) = false:=by decide):PE X (.Name x pos) (tC (.int i)):=by
 obtain ⟨t,e⟩:=hm
 exact zcr hg e ⟨t,rfl⟩ hd
end
section
def dIx:D2:=fun x y S R=>asI y fun i=>match x with
 | .d (.tuple ds)=>∃ d,atI ds i = some d/\R (.d d) S
 | .d (.list ds)=>∃ d,atI ds i = some d/\R (.d d) S
 | .l k=>∃ ds,S[k]? = some ds/\∃ d,atI ds i = some d/\R (.d d) S
 | .d (.str z)=>z.length <= sizeLine/\∃ c,atI z.cps.toList i = some c/\R (.d (.str ⟨#[c]⟩)) S
 | _=>False
theorem zsD:RO zvr (fun x y S R=>asS x fun z=>asI y fun i=>z.length <= sizeLine/\∃ c,atI z.cps.toList i = some c/\R (.d (.str ⟨#[c]⟩)) S):=fun h o H S x y v u R Q hs hx hy q c=>by
 replace q:=zpS q
 obtain ⟨z,rfl,q⟩:=q
 replace q:=zbd q
 obtain ⟨i,rfl,hz,k,ek,q⟩:=q
 exact ⟨z,i,k,zeT hx,zaT hy,hz,ek,c o H S _ _ Ex.refl hs (xS _) q⟩
theorem zR {K:W.Frag}:RO (rIx K) dIx:=fun h o H S x y v u R Q hs hx hy q c=>by
 replace q:=zbd q
 obtain ⟨i,rfl,q⟩:=q
 split at q
 ·exact .inr (.inl (zuq h o H S _ _ v u R Q hs hx hy q c))
 ·exact .inl (zp3 h o H S _ _ v u R Q hs hx hy ⟨_,rfl,q⟩ c)
 ·exact .inl (zp3 h o H S _ _ v u R Q hs hx hy q c)
 ·exact .inr (.inr (zsD h o H S _ _ v u R Q hs hx hy q c))
 ·exact q.elim
section
variable {S:Sto} {R:RX} {ds:List PyData} {i:Int} {k:Nat} {z:Str}
theorem zuf:dIx (.d (.tuple ds)) (.d (.int i)) S R = ∃ d,atI ds i = some d/\R (.d d) S:=rfl
theorem zuT:dIx (.d (.list ds)) (.d (.int i)) S R = ∃ d,atI ds i = some d/\R (.d d) S:=rfl
theorem zuC:dIx (.l k) (.d (.int i)) S R = ∃ ds,S[k]? = some ds/\∃ d,atI ds i = some d/\R (.d d) S:=rfl
theorem ztM:dIx (.d (.str z)) (.d (.int i)) S R = (z.length <= sizeLine/\∃ c,atI z.cps.toList i = some c/\R (.d (.str ⟨#[c]⟩)) S):=rfl
end
def zwl (K:W.Frag):V->Option Int->Option Int->Hp->VK->Prop:=fun x a b H Q=>zsS K x a b H Q\/(zvB K x a b H Q\/zwd x a b H Q)
theorem zkN {X:Cx}:SlR X (zwl X.K):=zmO.or (zq2.or ztJ)
def zlv:D3:=fun x i j S R=>match x with
 | .d (.tuple ds)=>¬ (HT.sIx ds.length 0 i = 0/\HT.sIx ds.length ds.length j = ds.length)/\R (.d (.tuple (zeb ds i j))) S
 | .d (.list ds)=>R (.d (.list (zeb ds i j))) S
 | .l k=>∃ ds,S[k]? = some ds/\R (.d (.list (zeb ds i j))) S
 | .d (.str z)=>z.length <= sizeLine/\R (.d (.str (PySem.Txt.slice z i j))) S
 | _=>False
theorem zku {K:W.Frag}:RL (zwl K) zlv:=fun h o H S x v a b R Q hs hx q c=>by
 unfold zlv at q
 split at q
 ·exact .inr (.inl (zs2 h o H S _ v a b R Q hs hx q c))
 ·exact .inl (zmg h o H S _ v a b R Q hs hx ⟨_,rfl,q⟩ c)
 ·exact .inl (zmg h o H S _ v a b R Q hs hx q c)
 ·exact .inr (.inr ⟨_,zeT hx,q.1,c o H S _ _ Ex.refl hs (xS _) q.2⟩)
 ·exact q.elim
section
variable {S:Sto} {R:RX} {ds:List PyData} {i j:Option Int} {k:Nat} {z:Str}
theorem zpM:zlv (.d (.tuple ds)) i j S R = (¬ (HT.sIx ds.length 0 i = 0/\HT.sIx ds.length ds.length j = ds.length)/\R (.d (.tuple (zeb ds i j))) S):=rfl
theorem zpT:zlv (.d (.list ds)) i j S R = R (.d (.list (zeb ds i j))) S:=rfl
theorem zqe:zlv (.l k) i j S R = ∃ ds,S[k]? = some ds/\R (.d (.list (zeb ds i j))) S:=rfl
theorem zqL:zlv (.d (.str z)) i j S R = (z.length <= sizeLine/\R (.d (.str (PySem.Txt.slice z i j))) S):=rfl
end
def zq7 (K:W.Frag):R2:=fun x y H Q=>∃ a b ys,x = .ref a/\y = .ref b/\SqT K H a []/\SqT K H b ys/\Q (.ref b) H
theorem zpa {X:Cx}:OpR X (binaryOp .Add) (zq7 X.K):=by
 intro zk s σ H x y v u Q I rx ry h
 obtain ⟨a,b,ys,rfl,rfl,ha,hb,q⟩:=h
 cases rx
 cases ry
 obtain ⟨its,r1,p1,_⟩:=I.tuple ha
 obtain ⟨its2,r2,p2,_⟩:=I.tuple hb
 cases r1
 obtain ⟨⟨c1,d1,e1,l1⟩,o1,w1,n1,k1⟩:=id p1
 obtain ⟨⟨c2,d2,e2,l2⟩,o2,w2,n2,k2⟩:=id p2
 simp only at w1 k1 w2 k2
 subst w1 k1 w2 k2
 exact concat_meets ⟨_,o1,rfl⟩ ⟨_,o2,rfl⟩ noFill_tuple_add seq_tuple_add PySem.F.slot_tuple_add PySem.F.entry_tuple_add (PySem.F.args_tuple_add_2 _ _) (tuple_addW0 a b _ _ n1 n2 d1 d2 l1 l2 (by simp)) ⟨o1,o2,⟨.ref b,H,I,rfl,q⟩⟩
def zuv (K:W.Frag):R2:=fun x y H Q=>rI0 (fun i j=>.int (i + j)) x y H Q\/(zsw x y H Q\/(zrQ K x y H Q\/(zq7 K x y H Q\/∃ i j,x = .str i/\y = .str j/\i.length + j.length <= sizeLine/\Q (.str (i ++ j)) H)))
theorem zJ {X:Cx}:OpR X (binaryOp .Add) (zuv X.K):=ztq.or (zop.or (zrG.or (zpa.or zlA)))
def zaX:D2:=fun x y S R=>match x,y with
 | .d (.int i),.d (.int j)=>R (.d (.int (i + j))) S
 | .d (.tuple ds),.d (.tuple es)=>ds.length + es.length <= 1000/\R (.d (.tuple (ds ++ es))) S
 | .d (.str a),.d (.str b)=>a.length + b.length <= sizeLine/\R (.d (.str (a ++ b))) S
 | x,y=>asL S x fun ds=>asL S y fun es=>ds.length + es.length <= 1000/\R (.d (.list (ds ++ es))) S
theorem zY {K:W.Frag}:RO (zuv K) zaX:=fun h o H S x y v u R Q hs hx hy q c=>by
 unfold zaX at q
 split at q
 ·exact .inl (zcN h o H S _ _ v u R Q hs hx hy q c)
 ·rename_i ds es
  cases ds with
  | cons d ds=>exact .inr (.inr (.inl (zr6 h o H S _ _ v u R Q hs hx hy ⟨by simp,q⟩ c)))
  | nil =>
   obtain ⟨a,vs,rfl,ea,l⟩:=zdv hx
   obtain ⟨b,us,rfl,eb,l'⟩:=zdv hy
   rw [zV.mp l] at ea
   exact .inr (.inr (.inr (.inl ⟨a,b,us,rfl,rfl,.of ea,.of eb,c o H S (.d (.tuple es)) _ Ex.refl hs hy q.2⟩)))
 ·exact .inr (.inr (.inr (.inr ⟨_,_,zeT hx,zeT hy,q.1,c o H S _ _ Ex.refl hs (xS _) q.2⟩)))
 ·exact .inr (.inl (ztr h o H S _ _ v u R Q hs hx hy q c))
section
variable {S:Sto} {R:RX} {ds es:List PyData} {i j:Int} {k l:Nat} {a b:Str}
theorem zqu:zaX (.d (.int i)) (.d (.int j)) S R = R (.d (.int (i + j))) S:=rfl
theorem zqz:zaX (.d (.tuple ds)) (.d (.tuple es)) S R = (ds.length + es.length <= 1000/\R (.d (.tuple (ds ++ es))) S):=rfl
theorem zpy:zaX (.d (.str a)) (.d (.str b)) S R = (a.length + b.length <= sizeLine/\R (.d (.str (a ++ b))) S):=rfl
theorem zou:zaX (.d (.list ds)) (.d (.list es)) S R ↔ (ds.length + es.length <= 1000/\R (.d (.list (ds ++ es))) S):=⟨fun ⟨_,e,_,e',q⟩=>by cases e; cases e'; exact q,fun q=>⟨_,rfl,_,rfl,q⟩⟩
theorem zmv:zaX (.d (.list ds)) (.l k) S R ↔ ∃ es,S[k]? = some es/\ds.length + es.length <= 1000/\R (.d (.list (ds ++ es))) S:=⟨fun ⟨_,e,_,e',q⟩=>by cases e; exact ⟨_,e',q⟩,fun ⟨_,e,q⟩=>⟨_,rfl,_,e,q⟩⟩
theorem zno:zaX (.l k) (.d (.list es)) S R ↔ ∃ ds,S[k]? = some ds/\ds.length + es.length <= 1000/\R (.d (.list (ds ++ es))) S:=⟨fun ⟨_,e,_,e',q⟩=>by cases e'; exact ⟨_,e,q⟩,fun ⟨_,e,q⟩=>⟨_,e,_,rfl,q⟩⟩
end
def zur:R2:=fun x y H Q=>rI IntMulOk (fun i j=>.int (i * j)) x y H Q\/(ztN x y H Q\/zvK x y H Q)
theorem zax {X:Cx}:OpR X (binaryOp .Mult) zur:=zrf.or (zrB.or zsV)
def zdr:D2:=fun x y S R=>asI y fun j=>match x with
 | .d (.int i)=>IntMulOk i j/\R (.d (.int (i * j))) S
 | .d (.str z)=>z.length <= 1000/\j <= 1000/\-1000 <= j/\R (.d (.str (PySem.Txt.mul z j))) S
 | .d (.list ds)=>j <= 1000/\-1000 <= j/\ds.length * j.toNat <= 1000/\R (.d (.list (List.replicate j.toNat ds).flatten)) S
 | _=>False
theorem HasL.rep {H:Hp} {ds:List PyData} {vs:List V} (l:HasL H ds vs):∀ n:Nat,HasL H (List.replicate n ds).flatten (List.replicate n vs).flatten
 | 0=>zV.mpr rfl
 | n + 1=>by
  rw [List.replicate_succ,List.replicate_succ,List.flatten_cons,List.flatten_cons]
  exact l.append (HasL.rep l n)
theorem za9:RO zur zdr:=fun h o H S x y v u R Q hs hx hy q c=>by
 replace q:=zbd q
 obtain ⟨j,rfl,q⟩:=q
 split at q
 ·exact .inl (zie h o H S _ _ v u R Q hs hx hy q c)
 ·exact .inr (.inl ⟨_,_,zeT hx,zaT hy,q.1,q.2.1,q.2.2.1,c o H S _ _ Ex.refl hs (xS _) q.2.2.2⟩)
 ·obtain ⟨a,vs,rfl,ea,l⟩:=zbr (x:=.d (.list _)) hs rfl hx
  obtain ⟨h1,h2,h3,q⟩:=q
  exact .inr (.inr ⟨a,j,vs,rfl,zaT hy,ea,by omega,by omega,by rw [l.length]; exact Nat.le_of_lt (small1000 h3),zoV hs (l.rep j.toNat) c q⟩)
 ·exact q.elim
section
variable {S:Sto} {R:RX} {i j:Int} {z:Str} {ds:List PyData}
theorem zqA:zdr (.d (.list ds)) (.d (.int j)) S R = (j <= 1000/\-1000 <= j/\ds.length * j.toNat <= 1000/\R (.d (.list (List.replicate j.toNat ds).flatten)) S):=rfl
theorem zqX:zdr (.d (.int i)) (.d (.int j)) S R = (IntMulOk i j/\R (.d (.int (i * j))) S):=rfl
theorem zpO:zdr (.d (.str z)) (.d (.int j)) S R = (z.length <= 1000/\j <= 1000/\-1000 <= j/\R (.d (.str (PySem.Txt.mul z j))) S):=rfl
end
def zwa:R2:=fun x y H Q=>rI CDivX (fun i j=>.int (i / j)) x y H Q\/rI CDivN (fun i j=>.int (i.fdiv j)) x y H Q
theorem zgt {X:Cx}:OpR X (binaryOp .FloorDiv) zwa:=zoF.or zoE
def dFd:D2:=fun x y S R=>asI x fun i=>asI y fun j=>(CDivX i j/\R (.d (.int (i / j))) S)\/(CDivN i j/\R (.d (.int (i.fdiv j))) S)
theorem zjX:RO zwa dFd:=fun h o H S x y v u R Q hs hx hy q c=>by
 replace q:=zbd q
 obtain ⟨i,rfl,q⟩:=q
 replace q:=zbd q
 obtain ⟨j,rfl,q⟩:=q
 rcases q with q | q
 ·exact .inl (zie (C:=CDivX) (g:=fun i j=>i / j) h o H S _ _ v u R Q hs hx hy q c)
 ·exact .inr (zie (C:=CDivN) (g:=fun i j=>i.fdiv j) h o H S _ _ v u R Q hs hx hy q c)
def zpz (S:Sto):XV->Option Bool
 | .d .none=>some false
 | .d (.bool b)=>some b
 | .d (.int i)=>some (i != 0)
 | .d (.str z)=>if z.length <= sizeLine then some ((z.length:Int) != 0) else none
 | .d (.list ds)=>some (!ds.isEmpty)
 | .d (.tuple ds)=>some (!ds.isEmpty)
 | .l k=>(S[k]?).map fun ds=>!ds.isEmpty
 | _=>none
def zjp (a:DE):DT:=fun δ S R=>a δ S fun x S1=>∃ k,zpz S1 x = some k/\R k S1
theorem zeo {H:Hp} {ds:List PyData} {vs:List V} (l:HasL H ds vs):(!ds.isEmpty) = !vs.isEmpty:=by
 have:=l.length
 cases ds <;> cases vs <;> simp_all
theorem zdl {K:W.Frag} {ta:TE} {da:DE} (ha:RE ta da):RT (fun σ H Q=>ta σ H fun x H'=>∃ k,TruV K x H' k/\Q k H') (zjp da):=fun h o H δ σ S R Q he hs q c =>
 ha h o H δ σ S _ _ he hs q fun o1 H1 S1 x v e1 s1 x1 ⟨k,ek,d1⟩=>by
  refine ⟨k,?_,c o1 H1 S1 k e1 s1 d1⟩
  unfold zpz at ek
  split at ek
  ·cases ek; rw [(zfG (H:=vx h o1 H1)).mp x1]; rfl
  ·cases ek; rw [zdz x1]; rfl
  ·cases ek; rw [zaT x1]; rfl
  ·split at ek
   ·rename_i hz
    cases ek; rw [zeT x1]; exact ⟨hz,rfl⟩
   ·cases ek
  ·obtain ⟨a,vs,rfl,ea,l⟩:=zbr (x:=.d (.list _)) s1 rfl x1
   cases ek
   exact .inl ⟨vs,.of ea,zeo l⟩
  ·obtain ⟨a,vs,rfl,ea,l⟩:=zdv x1
   cases ek
   exact .inr (.inl ⟨vs,.of ea,zeo l⟩)
  ·rename_i j _
   cases hj:S1[j]? with
   | none=>rw [hj] at ek; cases ek
   | some ds =>
    rw [hj] at ek
    cases ek
    obtain ⟨a,vs,rfl,ea,l⟩:=zbr (x:=.l j) s1 hj x1
    exact .inl ⟨vs,.of ea,zeo l⟩
  ·cases ek
section
variable {S:Sto} {b:Bool} {i:Int} {ds:List PyData} {k:Nat}
theorem zqC:zpz S (.d .none) = some false:=rfl
theorem zqK:zpz S (.d (.bool b)) = some b:=rfl
theorem zqq:zpz S (.d (.int i)) = some (i != 0):=rfl
theorem zqg:zpz S (.d (.list ds)) = some (!ds.isEmpty):=rfl
theorem zqn:zpz S (.d (.tuple ds)) = some (!ds.isEmpty):=rfl
theorem zq5:zpz S (.l k) = (S[k]?).map fun ds=>!ds.isEmpty:=rfl
end
def zho:DS:=fun _ _ _=>False
theorem zhJ:RS zqY zho:=fun h o H δ σ S E D he hs q c=>q.elim
def zwn (K:W.Frag) (tl:TE):TI:=fun σ H R=>tl σ H fun x H1=>∃ a,x = .ref a/\(((∃ xs,SqL K H1 a xs)/\R (Itl K a) H1)\/((∃ xs,SqT K H1 a xs)/\R (Itt K a) H1))
theorem zdk {X:Cx} {tg:Expr} {l:Expr} {tl:TE} (hl:PE X l tl):PI X tg l (zwn X.K tl):=by
 intro zk s σ H R I h
 refine thn (hl zk s σ H _ I h) fun v s1 ⟨x,H1,I1,r1,q1⟩=>?_
 obtain ⟨a,e,⟨⟨xs,hq⟩,q⟩ | ⟨⟨xs,hq⟩,q⟩⟩:=q1
 ·subst e
  cases r1
  obtain ⟨its,rv,p,hz⟩:=I1.list hq
  refine wpAny_pyIter_list p.isList ?_
  refine ⟨s1.heap.objs.size,[s1.heap.objs.size],_,_,H1,rfl,I1.kept (t':=s1.toks) fun b o e=>Heap.get?_push_of_some _ e,zif a _,⟨_,Heap.get?_push_size _ rfl,rfl,rfl⟩,fun b hb=>?_,q⟩
  have e:b = s1.heap.objs.size:=by simpa using hb
  subst e
  exact I1.fpOk (Nat.le_refl _) (I1.hok.fresh (Nat.le_refl _))
 ·subst e
  cases r1
  obtain ⟨its,rv,p,hz⟩:=I1.tuple hq
  refine wpAny_pyIter_tuple (show s1.heap.IsTuple a its.toArray from p) ?_
  refine ⟨s1.heap.objs.size,[s1.heap.objs.size],_,_,H1,rfl,I1.kept (t':=s1.toks) fun b o e=>Heap.get?_push_of_some _ e,zlt a _,⟨_,Heap.get?_push_size _ rfl,rfl,rfl⟩,fun b hb=>?_,q⟩
  have e:b = s1.heap.objs.size:=by simpa using hb
  subst e
  exact I1.fpOk (Nat.le_refl _) (I1.hok.fresh (Nat.le_refl _))
def zke:XV->Option (List PyData)
 | .d (.list ds)=>some ds
 | .d (.tuple ds)=>some ds
 | _=>none
theorem zp1 {ds:List PyData}:zke (.d (.list ds)) = some ds:=rfl
theorem zpJ {ds:List PyData}:zke (.d (.tuple ds)) = some ds:=rfl
def zcQ (e:DE):DI:=fun δ S R=>e δ S fun x S1=>∃ ds,zke x = some ds/\R ds S1
theorem zdi {K:W.Frag} {te:TE} {de:DE} (he':RE te de):RI (zwn K te) (zcQ de):=fun h o H δ σ S R Q he hs q c =>
 he' h o H δ σ S _ _ he hs q fun o1 H1 S1 x v e1 s1 x1 ⟨ds,ex,d1⟩=>by
  unfold zke at ex
  split at ex
  ·cases ex
   obtain ⟨a,vs,rfl,ea,l⟩:=zbs.mp (show Has _ _ _ from x1)
   have hl:=l.length
   refine ⟨a,rfl,.inl ⟨⟨vs,.of (zaj _ _ ea)⟩,c o1 H1 S1 ds _ e1 s1 ⟨fun i o2 H2 e2 hi=>⟨vs,.of (zaj _ _ (e2.vx _ _ ea)),by omega⟩,fun i d o2 H2 e2 hi=>?_,fun i d o2 H2 x H3 S2 e2 s2 hi y=>?_⟩ d1⟩⟩
   ·obtain ⟨v,ev,_⟩:=l.get hi
    exact ⟨vs,v,.of (zaj _ _ (e2.vx _ _ ea)),ev⟩
   ·obtain ⟨v,ev,hv⟩:=l.get hi
    have e3:H3 = H2:=y.1
    subst e3
    have ex:=y.2 vs (.of (zaj _ _ (e2.vx _ _ ea)))
    rw [ev] at ex
    cases ex
    exact ⟨Same.refl _,hv.mono e2.vx⟩
  ·cases ex
   obtain ⟨a,vs,rfl,ea,l⟩:=za7.mp (show Has _ _ _ from x1)
   have hl:=l.length
   refine ⟨a,rfl,.inr ⟨⟨vs,.of (zaj _ _ ea)⟩,c o1 H1 S1 ds _ e1 s1 ⟨fun i o2 H2 e2 hi=>⟨vs,.of (zaj _ _ (e2.vx _ _ ea)),by omega⟩,fun i d o2 H2 e2 hi=>?_,fun i d o2 H2 x H3 S2 e2 s2 hi y=>?_⟩ d1⟩⟩
   ·obtain ⟨v,ev,_⟩:=l.get hi
    exact ⟨vs,v,.of (zaj _ _ (e2.vx _ _ ea)),ev⟩
   ·obtain ⟨v,ev,hv⟩:=l.get hi
    have e3:H3 = H2:=y.1
    subst e3
    have ex:=y.2 vs (.of (zaj _ _ (e2.vx _ _ ea)))
    rw [ev] at ex
    cases ex
    exact ⟨Same.refl _,hv.mono e2.vx⟩
  ·cases ex
def ztE (dt:DS):DS:=fun E δ S=>dt { E with nx:=fun δ' S'=>∃ S0 ds,S' = S0 ++ [ds]/\S.length <= S0.length/\E.nx (δ'.map (frz S0.length ds)) S0 } δ S
theorem zum {t:TS} {dt:DS} (ht:RS t dt):RS t (ztE dt):=fun h o H δ σ S E D he hs q c=>by
 refine ht h o H δ σ S _ D he hs q ⟨fun o' H' δ' S' σ' e he' hs' ⟨S0,ds,eS,hl,n⟩=>?_,c.rt,c.bk,c.ct⟩
 subst eS
 obtain ⟨r,rfl⟩:=e.pre
 have hL:=hs'.len
 simp only [List.length_append,List.length_singleton] at hL
 have hS:=hs.len
 have rne:r ≠ []:=fun z=>by subst z; simp at hL; omega
 obtain ⟨r0,a,rfl⟩:∃ r0 a,r = r0 ++ [a]:=⟨r.dropLast,r.getLast rne,(List.dropLast_concat_getLast rne).symm⟩
 have hS0:S0.length = (o ++ r0).length:=by simp at hL ⊢; omega
 rw [<- List.append_assoc] at hs' he' e
 have nd:=List.nodup_append.mp hs'.nd
 have na:a ∉ o ++ r0:=fun m=>nd.2.2 a m a (by simp) rfl
 have nh:a ∉ h:=hs'.dis a (by simp)
 refine c.nx (o ++ r0) H' _ S0 σ' ⟨⟨r0,rfl⟩,fun b u hb eb=>?_⟩ ⟨by rw [List.length_map]; exact he'.len,fun i x ex=>?_⟩ (hs'.pop hS0) n
 ·obtain ⟨z1,z2⟩:=e.kp b u hb eb
  exact ⟨fun m=>z1 (List.mem_append_left _ m),z2⟩
 ·rw [List.getElem?_map] at ex
  obtain ⟨y,ey,ex⟩:=Option.map_eq_some_iff.mp ex
  match y,ey,ex with
  | none,ey,ex=>cases ex
  | some (.d d),ey,ex =>
   cases ex
   obtain ⟨v,e1,e2⟩:=he'.get i _ ey
   exact ⟨v,e1,Has.mono zgB d v e2⟩
  | some (.o w),ey,ex =>
   cases ex
   exact he'.get i _ ey
  | some (.x C fs),ey,ex =>
   cases ex
   obtain ⟨v,e1,e2⟩:=he'.get i _ ey
   exact ⟨v,e1,HasE.mono zgB e2⟩
  | some (.l k),ey,ex =>
   obtain ⟨v,e1,b,eb,rfl⟩:=he'.get i _ ey
   unfold frz at ex
   by_cases hk:k = S0.length
   ·simp only [hk,↓reduceIte] at ex
    cases ex
    rw [hk,hS0,List.getElem?_concat_length] at eb
    cases eb
    obtain ⟨vs,ev,l⟩:=hs'.cont k a ds (by rw [hk,hS0,List.getElem?_concat_length]) (by rw [hk,List.getElem?_concat_length])
    exact ⟨_,e1,zbs.mpr ⟨a,vs,rfl,zae.mpr ⟨nh,na,ev⟩,l.mono zgB⟩⟩
   ·simp only [hk,↓reduceIte] at ex
    cases ex
    have hlt:=(List.getElem?_eq_some_iff.mp eb).1
    simp only [List.length_append,List.length_singleton] at hlt
    simp only [List.length_append] at hS0
    rw [List.getElem?_append_left (by simp only [List.length_append]; omega)] at eb
    exact ⟨_,e1,b,eb,rfl⟩
section
variable {t1 t2 t3 t4 t5 t6 t7 t8:TS} {d:DS}
theorem zuk (h:RS (zjr (zjr t1 t2) t3) d):RS (zjr t1 (zjr t2 t3)) d:=h
end
end
section
abbrev PN:=List XV->Sto->RX->Prop
def lfN (q:PN):List V->Hp->VK->Prop:=fun vs H Q=>∃ h o S xs R,RepS h o H S/\HasXs h o H xs vs/\q xs S R/\Cn h o H R Q
def spN (ps:List Str) (q:PN):Sp:=fun vs H Q _=>vs.length = ps.length/\lfN q vs H Q
theorem HasXs.len {h o:List Addr} {H:Hp}:∀ {xs:List XV} {vs:List V},HasXs h o H xs vs->vs.length = xs.length
 | [],vs,q=>by rw [show vs = [] from q]; rfl
 | x :: xs,vs,⟨v,r,e,_,l⟩=>by rw [e,List.length_cons,List.length_cons,HasXs.len l]
theorem HasXs.get {h o:List Addr} {H:Hp}:∀ {xs:List XV} {vs:List V} {i:Nat} {x:XV},HasXs h o H xs vs->xs[i]? = some x->∃ v,vs[i]? = some v/\HasX h o H x v
 | [],_,i,_,_,e=>by simp at e
 | y :: xs,vs,0,x,⟨v,r,e1,q,l⟩,e=>by
  rw [List.getElem?_cons_zero] at e
  cases e
  subst e1
  exact ⟨v,rfl,q⟩
 | y :: xs,vs,i + 1,x,⟨v,r,e1,q,l⟩,e=>by
  subst e1
  rw [List.getElem?_cons_succ] at e ⊢
  exact HasXs.get l e
theorem ze1 {h o:List Addr} {H:Hp} {xs:List XV} {vs:List V} {n:Nat} (q:HasXs h o H xs vs):RepE h o H (xs.map some ++ List.replicate n none) (vs.map some ++ List.replicate n none):=by
 have hl:=q.len
 refine ⟨by simp [hl],fun i x e=>?_⟩
 by_cases hi:i < xs.length
 ·rw [List.getElem?_append_left (by rw [List.length_map]; exact hi),List.getElem?_map] at e
  obtain ⟨y,ey,e⟩:=Option.map_eq_some_iff.mp e
  cases e
  obtain ⟨v,ev,hv⟩:=q.get ey
  exact ⟨v,by rw [List.getElem?_append_left (by rw [List.length_map,hl]; exact hi),List.getElem?_map,ev]; rfl,hv⟩
 ·rw [List.getElem?_append_right (by rw [List.length_map]; omega),List.getElem?_replicate] at e
  split at e <;> cases e
section
variable {P:Program} {w:World} {K:W.Frag} {mg:Str->Option Value} {base:Heap} {x:Str} {st:Stmt} {N ps:List Str} {k:Nat}
theorem Df.dN {q:PN} (D:Dd K mg x st ps) (S:FnScope N ps (zp st)) (n:Nat) (hn:N.length = ps.length + n)
  (hbody:∀ (f:Addr) (cdv:Value) (A:Around) (outer:List Env) (s:Shared) (H:Hp) (E:XK),Room k (A.deeper (envOfC x (zp st) s.heap.objs.size f cdv)) ->
   ∃ t dt,PSs (zhc CX0 P w K mg base N x (zp st) f cdv A outer s H E).nox (zba st) t/\RS t dt/\∀ xs S R,q xs S R->dt (zb3 S.length R) (xs.map some ++ List.replicate n none) S):Df P w K mg base x ps (k + 1) (spN ps q):=by
 refine Df.of D S (fun vs H Q E h=>h.1) fun f cdv A outer s H vs Q E hr ⟨hl,h,o,S',xs,R,hs',hx,hq,c⟩=>?_
 obtain ⟨t,dt,h1,h2,h3⟩:=hbody f cdv A outer s H E hr
 refine ⟨t,h1,h2 h o H _ _ S' _ _ ?_ hs' (h3 xs S' R hq) (eok hs' c)⟩
 have e:N.length - vs.length = n:=by omega
 unfold start
 rw [e]
 exact ze1 hx
end
section
variable {X:Cx} {x:Str} {ps:List Str} {k j:Nat} {pos pos':Pos} {e:Expr} {es:List Expr} {t:TA}
theorem zA {q:PN} (D:Df X.prog X.w X.K X.mg X.base x ps k (spN ps q)) (hr:Room j X.A) (hk:k <= j) (ha:PA X (e :: es) t) (hg:Gl X x:=by rfl) (hdb:(x == ("__debug__":Str)) = false:=by decide)
  (q1:starEach (e :: es) X.env = (false,eval e X.env) :: starEach es X.env:=by rfl) (q2:((backTo pos (starEach es X.env)).any fun x=>x.fst) = false:=by rfl):PE X (.Call (.Name x pos') (e :: es) [] pos) (zi9 (spN ps q) [] E0 t):=by
 obtain ⟨f,fd,F,hm,kp,hb⟩:=D.ex
 exact zjW (dvs:=[]) (ds:=[]) (E:=E0) F (hr.mono hk) hg hm kp hb .nil pass0 ha hdb q1 q2
end
def zaf (m:Nat) (q:PN) (da:DA):DE:=fun δ S R=>da δ S fun xs S1=>∃ ds,datas xs = some ds/\ds.length = m/\q (ds.map XV.d) [] (ret0 S1 R)
theorem hxs0 {h o:List Addr} {H:Hp}:∀ {ds:List PyData} {vs:List V},HasXs h o H (ds.map XV.d) vs->HasXs (h ++ o) [] H (ds.map XV.d) vs
 | [],_,q=>q
 | d :: ds,vs,⟨v,r,e,q,l⟩=>⟨v,r,e,hx0 q,hxs0 l⟩
theorem zG {ps:List Str} {q:PN} {m:Nat} {t:TA} {da:DA} (ha:RA t da) (hm:ps.length = m:=by rfl):RE (zi9 (spN ps q) [] E0 t) (zaf m q da):=fun h o H δ σ S R Q he hs w c =>
 ha h o H δ σ S _ _ he hs w fun o1 H1 S1 xs vs e1 s1 x1 ⟨ds,e,hl,d1⟩=>by
  have ex:=zbP e
  subst ex
  have hv:=x1.len
  rw [List.append_nil]
  exact ⟨by rw [hv,List.length_map,hl,hm],h ++ o1,[],[],_,_,rep0 s1,hxs0 x1,d1,cn0 s1 (c.pre e1)⟩
def zad (i m:Nat) (q:PN) (da:DA):DE:=fun δ S R=>da δ S fun xs S1=>∃ k,xs[i]? = some (.l k)/\∃ p,S1[k]? = some p/\∃ ds,datas (xs.set i (.d .none)) = some ds/\ds.length = m/\q ((ds.map XV.d).set i (.l 0)) [p] (ztC k S1 R)
theorem zvP {h o:List Addr} {H:Hp} {k:Nat} {a:Addr} (ea:o[k]? = some a):∀ {xs:List XV} {vs:List V} {ds:List PyData} {i:Nat},HasXs h o H xs vs->xs[i]? = some (.l k)->datas (xs.set i (.d .none)) = some ds->HasXs (h ++ o.filter (fun b=>b ≠ a)) [a] H ((ds.map XV.d).set i (.l 0)) vs
 | [],_,_,i,_,e,_=>by simp at e
 | x :: xs,vs,ds,0,⟨v,r,e1,q,l⟩,e,ed=>by
  rw [List.getElem?_cons_zero] at e
  cases e
  rw [List.set_cons_zero] at ed
  obtain ⟨ds',rfl⟩:∃ ds',ds = .none :: ds':=by
   unfold datas at ed
   cases hd:datas xs with
   | none=>rw [hd] at ed; cases ed
   | some y=>rw [hd] at ed; cases ed; exact ⟨y,rfl⟩
  have ed':datas xs = some ds':=by
   unfold datas at ed
   cases hd:datas xs with
   | none=>rw [hd] at ed; cases ed
   | some y=>rw [hd] at ed; cases ed; rfl
  have ex:=zbP ed'
  subst ex
  obtain ⟨b,eb,rfl⟩:=q
  rw [ea] at eb
  cases eb
  exact ⟨_,r,e1,⟨a,rfl,rfl⟩,go (ea:=ea) l⟩
 | x :: xs,vs,ds,i + 1,⟨v,r,e1,q,l⟩,e,ed=>by
  rw [List.getElem?_cons_succ] at e
  rw [List.set_cons_succ] at ed
  match x,q,ed with
  | .d d,q,ed =>
   unfold datas at ed
   cases hd:datas (xs.set i (.d .none)) with
   | none=>rw [hd] at ed; cases ed
   | some ds' =>
    rw [hd] at ed
    cases ed
    exact ⟨v,r,e1,hxP ea q,zvP ea l e hd⟩
  | .l j,q,ed=>cases ed
  | .o w,q,ed=>cases ed
  | .x _ _,q,ed=>cases ed
where
 go {h o:List Addr} {H:Hp} {k:Nat} {a:Addr} {ea:o[k]? = some a}:∀ {ds:List PyData} {vs:List V},HasXs h o H (ds.map XV.d) vs->HasXs (h ++ o.filter (fun b=>b ≠ a)) [a] H (ds.map XV.d) vs
 | [],_,q=>q
 | d :: ds,vs,⟨v,r,e,q,l⟩=>⟨v,r,e,hxP ea q,go (ea:=ea) l⟩
theorem zmT:∀ {xs:List XV} {ds:List PyData},datas xs = some ds->xs.length = ds.length:=fun e=>by
 rw [zbP e,List.length_map]
theorem zab {ps:List Str} {q:PN} {i m:Nat} {t:TA} {da:DA} (ha:RA t da) (hm:ps.length = m:=by rfl):RE (zi9 (spN ps q) [] E0 t) (zad i m q da):=fun h o H δ σ S R Q he hs w c =>
 ha h o H δ σ S _ _ he hs w fun o1 H1 S1 xs vs e1 s1 x1 ⟨k,ek,p,ep,ds,e,hl,d1⟩=>by
  have hv:=x1.len
  have hd:=zmT e
  rw [List.length_set] at hd
  obtain ⟨v,_,a,ea,_⟩:=x1.get ek
  rw [List.append_nil]
  exact ⟨by rw [hv,hd,hl,hm],_,[a],[p],_,_,zu6 s1 ea ep,zvP ea x1 ek e,d1,cnP s1 ea ep (c.pre e1)⟩
mutual
def zo6:PyData->Bool
 | .list _=>false
 | .dict _=>false
 | .tuple ds=>zpF ds
 | _=>true
def zpF:List PyData->Bool
 | []=>true
 | d :: ds=>zo6 d && zpF ds
end
def zvy (S:Sto) (R:RX):RX:=fun y S'=>match y,S' with
 | .d d,[]=>zo6 d = true/\R (.d d) S
 | _,_=>False
theorem zqs {S:Sto} {R:RX} {d:PyData}:zvy S R (.d d) [] = (zo6 d = true/\R (.d d) S):=rfl
def views (S:Sto):List XV->Option (List PyData)
 | []=>some []
 | x :: r=>(zb9 S x).bind fun d=>(views S r).map (d :: ·)
theorem zi8 {S:Sto}:views S [] = some []:=rfl
theorem zha {S:Sto} {x:XV} {r:List XV}:views S (x :: r) = (zb9 S x).bind fun d=>(views S r).map (d :: ·):=rfl
def zqV (m:Nat) (q:PN) (da:DA):DE:=fun δ S R=>da δ S fun xs S1=>∃ ds,views S1 xs = some ds/\ds.length = m/\q (ds.map XV.d) [] (zvy S1 R)
end
section
def zt9 (K:W.Frag):List V->Hp->VK->Prop:=fun xs H Q=>zvt K xs H Q\/∃ z,xs = [.str z]/\z.length <= sizeLine/\Q (.int z.length) H
theorem zai {X:Cx}:CallR X (.builtin "len") (zt9 X.K):=zfn.or zi2
def zox (S:Sto):XV->Option Nat
 | .d (.tuple ds)=>some ds.length
 | .d (.list ds)=>some ds.length
 | .l k=>(S[k]?).map List.length
 | .d (.str z)=>if z.length <= sizeLine then some z.length else none
 | _=>none
def zbR:List XV->Sto->RX->Prop:=fun xs S R=>arg1 xs fun x=>∃ n,zox S x = some n/\R (.d (.int n)) S
theorem zaS {K:W.Frag}:RC (zt9 K) zbR:=fun h o H S xs vs R Q hs hx q c=>by
 obtain ⟨x,rfl,n,hd,q1⟩:=za3 q
 unfold zox at hd
 split at hd
 ·cases hd
  exact .inl (znd h o H S _ vs R Q hs hx ⟨_,rfl,q1⟩ c)
 ·cases hd
  exact .inl (znd h o H S _ vs R Q hs hx ⟨_,rfl,q1⟩ c)
 ·rename_i k
  cases hk:S[k]? with
  | none=>rw [hk] at hd; cases hd
  | some ds =>
   rw [hk] at hd
   cases hd
   exact .inl (znd h o H S _ vs R Q hs hx ⟨ds,hk,q1⟩ c)
 ·split at hd
  ·rename_i hz
   cases hd
   obtain ⟨v,rfl,hx1⟩:=hxs1 hx
   exact .inr ⟨_,by rw [zeT hx1],hz,c o H S _ _ Ex.refl hs (xI _) q1⟩
  ·cases hd
 ·cases hd
section
variable {S:Sto} {ds:List PyData} {k:Nat} {z:Str}
theorem zkb:zox S (.d (.tuple ds)) = some ds.length:=rfl
theorem zpQ:zox S (.d (.list ds)) = some ds.length:=rfl
theorem zp6:zox S (.l k) = (S[k]?).map List.length:=rfl
end
theorem zlr {ds:List PyData} (h:SeqAt.shaped (.list ds) = true):PyData.canLayAll0 ds = true/\PyData.depthAll ds <= 63:=by
 have h1:=SeqAt.canLay_of_shaped h
 have h2:=SeqAt.depth_of_shaped h
 simp only [PyData.canLay0,PyData.depth] at h1 h2
 exact ⟨h1,by omega⟩
def dIn:D2:=fun x y S R=>match y with
 | .d (.str b)=>asS x fun a=>R (.d (.bool (!(Builtin.Str.occurrences b a 0 b.length 1).isEmpty))) S
 | y=>∃ d,zb9 S x = some d/\∃ ds,asQ S y = some ds/\SeqAt.shaped d = true/\SeqAt.shaped (.list ds) = true/\R (.d (.bool (ds.any fun y=>PyData.eqv y d))) S
def zkZ:D2:=fun x y S R=>match y with
 | .d (.str b)=>asS x fun a=>R (.d (.bool (!(!(Builtin.Str.occurrences b a 0 b.length 1).isEmpty)))) S
 | y=>∃ d,zb9 S x = some d/\∃ ds,asQ S y = some ds/\SeqAt.shaped d = true/\SeqAt.shaped (.list ds) = true/\R (.d (.bool (!ds.any fun y=>PyData.eqv y d))) S
section
variable {S:Sto} {ds:List PyData} {k:Nat} {a b:Str} {x:XV} {R:RX}
theorem ztU:dIn (.d (.str a)) (.d (.str b)) S R = R (.d (.bool (!(Builtin.Str.occurrences b a 0 b.length 1).isEmpty))) S:=rfl
theorem ztl:dIn x (.d (.tuple ds)) S R ↔ ∃ d,zb9 S x = some d/\SeqAt.shaped d = true/\SeqAt.shaped (.list ds) = true/\R (.d (.bool (ds.any fun y=>PyData.eqv y d))) S:=⟨fun ⟨d,e,_,e',q⟩=>by cases e'; exact ⟨d,e,q⟩,fun ⟨d,e,q⟩=>⟨d,e,_,rfl,q⟩⟩
theorem zs8:dIn x (.d (.list ds)) S R ↔ ∃ d,zb9 S x = some d/\SeqAt.shaped d = true/\SeqAt.shaped (.list ds) = true/\R (.d (.bool (ds.any fun y=>PyData.eqv y d))) S:=⟨fun ⟨d,e,_,e',q⟩=>by cases e'; exact ⟨d,e,q⟩,fun ⟨d,e,q⟩=>⟨d,e,_,rfl,q⟩⟩
theorem zs6:dIn x (.l k) S R ↔ ∃ d,zb9 S x = some d/\∃ ds,S[k]? = some ds/\SeqAt.shaped d = true/\SeqAt.shaped (.list ds) = true/\R (.d (.bool (ds.any fun y=>PyData.eqv y d))) S:=Iff.rfl
theorem zlh:zkZ (.d (.str a)) (.d (.str b)) S R = R (.d (.bool (!(!(Builtin.Str.occurrences b a 0 b.length 1).isEmpty)))) S:=rfl
theorem zj7:zkZ x (.d (.tuple ds)) S R ↔ ∃ d,zb9 S x = some d/\SeqAt.shaped d = true/\SeqAt.shaped (.list ds) = true/\R (.d (.bool (!ds.any fun y=>PyData.eqv y d))) S:=⟨fun ⟨d,e,_,e',q⟩=>by cases e'; exact ⟨d,e,q⟩,fun ⟨d,e,q⟩=>⟨d,e,_,rfl,q⟩⟩
theorem zkC:zkZ x (.d (.list ds)) S R ↔ ∃ d,zb9 S x = some d/\SeqAt.shaped d = true/\SeqAt.shaped (.list ds) = true/\R (.d (.bool (!ds.any fun y=>PyData.eqv y d))) S:=⟨fun ⟨d,e,_,e',q⟩=>by cases e'; exact ⟨d,e,q⟩,fun ⟨d,e,q⟩=>⟨d,e,_,rfl,q⟩⟩
theorem zki:zkZ x (.l k) S R ↔ ∃ d,zb9 S x = some d/\∃ ds,S[k]? = some ds/\SeqAt.shaped d = true/\SeqAt.shaped (.list ds) = true/\R (.d (.bool (!ds.any fun y=>PyData.eqv y d))) S:=Iff.rfl
end
def znH (a:DA):DI:=fun δ S R=>a δ S fun xs S1=>arg1 xs fun x=>∃ ds,zke x = some ds/\R (zt3 0 ds) S1
def zv4:XV->List XV->Sto->RX->Prop:=fun x xs S R=>∃ k,x = .l k/\∃ ds,S[k]? = some ds/\xs = []/\∃ d,ds[ds.length - 1]? = some d/\R (.d d) (S.set k ds.dropLast)
def ztm (rd:XV->List XV->Sto->RX->Prop) (e:DE) (a:DA):DE:=fun δ S R=>e δ S fun x S1=>∃ z,x = .d (.str z)/\a δ S1 fun xs S2=>rd x xs S2 R
theorem zuZ {K:W.Frag} {r:V->List V->Hp->VK->Prop} {rd:XV->List XV->Sto->RX->Prop} {te:TE} {de:DE} {tl:TA} {dl:DA} (hr:RM r rd) (he':RE te de) (ha:RA tl dl):RE (tBM K "str" r te tl) (ztm rd de dl):=fun h o H δ σ S R Q he hs q c =>
 he' h o H δ σ S _ _ he hs q fun o1 H1 S1 x v e1 s1 x1 ⟨z,ez,d1⟩=>by
  subst ez
  cases zeT x1
  exact ⟨rfl,ha h o1 H1 δ σ S1 _ _ (he.mono e1) s1 d1 fun o2 H2 S2 xs vs e2 s2 x2 d2=>hr h o2 H2 S2 (.d (.str z)) _ xs vs R Q s2 (HasX.mono (x:=.d (.str z)) e2 x1) x2 d2 (c.pre (e1.trans e2))⟩
theorem zhn {H:Hp}:∀ {ns:List Str} {vs:List V},HasL H (ns.map PyData.str) vs->vs = ns.map V.str
 | [],vs,h=>zV.mp h
 | n :: ns,vs,h=>by
  obtain ⟨v,r,rfl,h1,h2⟩:=zI.mp h
  rw [zdw.mp h1,zhn h2]
  rfl
def znh:XV->List XV->Sto->RX->Prop:=fun x xs S R=>asS x fun z=>arg1 xs fun y=>∃ ds,zgP S y = some ds/\∃ zs:List Str,ds = zs.map PyData.str/\z.length <= 16/\zs.length <= 1000/\(∀ y ∈ zs,y.length <= 1000)/\R (.d (.str (PySem.Txt.join z zs))) S
theorem zpf {K:W.Frag}:RM (zty K) znh:=fun h o H S x v xs vs R Q hs hx hxs q c=>by
 replace q:=zpS q
 obtain ⟨z,rfl,q⟩:=q
 obtain ⟨y,rfl,ds,e,zs,rfl,h1,h2,h3,q1⟩:=za3 q
 obtain ⟨u,rfl,hu⟩:=hxs1 hxs
 obtain ⟨a,ws,rfl,ea,l⟩:=zbr hs e hu
 rw [zhn l] at ea
 exact ⟨z,a,zs,zeT hx,rfl,.of ea,h1,h2,h3,c o H S _ _ Ex.refl hs (xS _) q1⟩
def znW:D2:=fun x y S R=>asL S x fun ds=>asL S y fun es=>ds.length + es.length <= 1000/\R (.l S.length) (S ++ [ds ++ es])
theorem zrz:RO zsw znW:=fun h o H S x y v u R Q hs hx hy q c=>by
 obtain ⟨ds,e0,es,e1,hl,q⟩:=q
 obtain ⟨a,vs,rfl,ea,la⟩:=zbr hs e0 hx
 obtain ⟨b,us,rfl,eb,lb⟩:=zbr hs e1 hy
 exact ⟨a,b,vs,us,rfl,rfl,ea,eb,by rw [la.length,lb.length]; exact Nat.le_of_lt (small1000 hl),zto hs (la.append lb) c q⟩
def zwf:D3:=fun x i j S R=>asL S x fun ds=>R (.l S.length) (S ++ [zeb ds i j])
def zvN (i:Nat) (f:Int->Int->Int) (e:DE):DS:=fun E δ S=>∃ x,δ[i]? = some (some x)/\asI x fun n=>e δ S fun y S1=>asI y fun m=>E.nx (δ.set i (some (.d (.int (f n m))))) S1
def zni:V->List V->Hp->VK->Prop:=fun x vs H Q=>∃ (d:PyData) (ds:List PyData) (j:Nat),Has H (.list ds) x/\(∃ v,vs = [v]/\Has H d v)/\SeqAt.shaped d = true/\SeqAt.shaped (.list ds) = true/\ds.length <= 1000/\(∃ e,ds[j]? = some e/\PyData.eqv e d = true)/\(∀ m e,m < j->ds[m]? = some e->PyData.eqv e d = false)/\Q (.int j) H
theorem zmU {X:Cx} (hu:X.A.units + 64 < cLine):MtR X "list.index" zni:=by
 intro zk s σ H x vs v us Q I rx rv h
 obtain ⟨d,ds,j,hl,⟨y,rfl,hy⟩,sd,se,h1000,⟨e,ej,he⟩,hno,q⟩:=h
 obtain ⟨s1,s2⟩:=zlr se
 obtain ⟨u,rfl,r1⟩:=rv.one
 obtain ⟨as,q1⟩:=Has.reads I d y u hy (SeqAt.canLay_of_shaped sd) r1
 obtain ⟨bs,q2⟩:=Has.reads I (.list ds) x v hl (by simpa only [PyData.canLay0] using s1) rx
 have hm:X.A.units + 1 + min (PyData.depthAll ds) d.depth < cLine:=by
  have:=Nat.min_le_left (PyData.depthAll ds) d.depth
  omega
 cases q2 with
 | @list l o vs n xs as₁ h1 h2 h3 h4 =>
  have hn:vs.size = ds.length:=by simpa using SeqAt.ReadsAll.length _ _ _ h4
  have hmap:=SeqAt.readsAll_map _ _ _ s1 h4
  have hget:∀ (m:Nat) (hm:m < vs.size) e,ds[m]? = some e->SeqAt.readOf s.heap vs[m] = e:=fun m hm e h=>by
   rw [<- hmap,List.getElem?_map] at h
   have:vs.toList[m]? = some vs[m]:=by simp [hm]
   rw [this] at h
   exact Option.some.inj h
  have hj:j < vs.size:=by rw [hn]; exact (List.getElem?_eq_some_iff.mp ej).1
  obtain ⟨cls,dd,data,sl⟩:=o
  simp only at h2 h3
  subst h2 h3
  refine call_meets PySem.F.slot_list_index ⟨_,h1,rfl⟩ PySem.F.entry_list_index (PySem.F.args_list_index_2 _ _)
   (SeqAt.list_indexAt l vs n dd sl u (fun y=>PyData.eqv (SeqAt.readOf s.heap y) d) j hj (by omega) ?_ ?_) ⟨h1,SeqAt.items_eqAt h4 q1 s1 (SeqAt.canLay_of_shaped sd) hm,⟨.int j,H,I.tok _,⟨_,rfl⟩,q⟩⟩
  ·show PyData.eqv (SeqAt.readOf s.heap vs[j]) d = true
   rw [hget j hj e ej]; exact he
  ·intro m hm hlt
   show PyData.eqv (SeqAt.readOf s.heap vs[m]) d = false
   have em:ds[m]? = some ds[m]:=List.getElem?_eq_getElem (by omega)
   rw [hget m hm _ em]; exact hno m _ hlt em
def zlc:XV->List XV->Sto->RX->Prop:=fun x xs S R=>arg1 xs fun y=>∃ d,zb9 S y = some d/\∃ ds,zgP S x = some ds/\SeqAt.shaped d = true/\SeqAt.shaped (.list ds) = true/\ds.length <= 1000/\∃ j,(∃ e,ds[j]? = some e/\PyData.eqv e d = true)/\(∀ m e,m < j->ds[m]? = some e->PyData.eqv e d = false)/\R (.d (.int (j:Nat))) S
theorem zns:RM zni zlc:=fun h o H S x v xs vs R Q hs hx hxs q c=>by
 obtain ⟨y,rfl,d,e1,ds,e2,s1,s2,h1,j,h2,h3,q1⟩:=za3 q
 obtain ⟨u,rfl,hu⟩:=hxs1 hxs
 have hl:Has H (.list ds) v:=zdE (x:=x) hs (by
  unfold zgP at e2
  split at e2
  ·cases e2; rfl
  ·rename_i k; show (S[k]?).map PyData.list = _; rw [e2]; rfl
  ·cases e2) hx
 exact ⟨d,ds,j,hl,⟨u,rfl,zdE hs e1 hu⟩,s1,s2,h1,h2,h3,c o H S _ _ Ex.refl hs (xI _) q1⟩
def zt7 (rd:XV->List XV->Sto->RX->Prop) (e:DE) (a:DA):DE:=fun δ S R=>e δ S fun x S1=>∃ ds,zgP S1 x = some ds/\a δ S1 fun xs S2=>rd x xs S2 R
theorem zqf {K:W.Frag} {r:V->List V->Hp->VK->Prop} {rd:XV->List XV->Sto->RX->Prop} {te:TE} {de:DE} {tl:TA} {dl:DA} (hr:RM r rd) (he':RE te de) (ha:RA tl dl):RE (tBM K "list" r te tl) (zt7 rd de dl):=fun h o H δ σ S R Q he hs q c =>
 he' h o H δ σ S _ _ he hs q fun o1 H1 S1 x v e1 s1 x1 ⟨ds,ez,d1⟩=>by
  obtain ⟨a,ws,rfl,ea,_⟩:=zbr s1 ez x1
  exact ⟨zhF ea,ha h o1 H1 δ σ S1 _ _ (he.mono e1) s1 d1 fun o2 H2 S2 xs vs e2 s2 x2 d2=>hr h o2 H2 S2 x _ xs vs R Q s2 (x1.mono e2) x2 d2 (c.pre (e1.trans e2))⟩
abbrev zwx (a:Addr) (m:Nat):DEnds:={ nx:=fun δ _=>δ[0]? = some (some (.o (.ref a)))/\δ.length = m + 1,ct:=fun δ _=>δ[0]? = some (some (.o (.ref a)))/\δ.length = m + 1,rt:=fun _ _=>False }
abbrev zv9 (a:Addr) (m:Nat):DEnds:={ nx:=fun δ _=>δ[0]? = some (some (.o (.ref a)))/\δ.length = m + 1,rt:=fun _ _=>False }
section
variable {a:Addr} {m:Nat} {t1 t2 t3 t4 u:TS} {dt:DS} {D:Ends} {σ:St} {H:Hp}
theorem zsq (ht:RS t1 dt) (h0:σ[0]? = some (some (.ref a))) (hl:σ.length = m + 1) (go:dt (zv9 a m) (some (.o (.ref a)) :: List.replicate m none) [])
  (next:∀ (σ:St) (H1:Hp),σ[0]? = some (some (.ref a))->σ.length = m + 1->Same H H1->u D σ H1):zjr t1 u D σ H:=zvw ht h0 hl go next
end
end
section
open Sem (wp)
def ItK (t:Bool) (h:Heap) (j a:Addr) (k:Nat):Prop:=match t with
 | true=>h.IsTupleIter j a k
 | false=>h.IsListIter j a k
def SqK (t:Bool) (h:Heap) (a:Addr) (xs:Array Value):Prop:=match t with
 | true=>h.IsTuple a xs
 | false=>h.IsList a xs
theorem ItK.at {t:Bool} {h g:Heap} {j a:Addr} {k:Nat} (q:ItK t h j a k) (f:∀ o,h.get? j = some o->g.get? j = some o):ItK t g j a k:=by
 cases t
 ·exact Heap.IsListIter.at (show h.IsListIter j a k from q) f
 ·exact Heap.IsTupleIter.at (show h.IsTupleIter j a k from q) f
theorem ItK.here {t:Bool} {h:Heap} {j a:Addr} {k:Nat} (q:ItK t h j a k):∃ o,h.get? j = some o/\∀ v,o.data ≠ .cell v:=by
 cases t <;> (obtain ⟨o,e,c,d⟩:=q; exact ⟨o,e,fun v z=>by rw [d] at z; cases z⟩)
theorem SqK.at {t:Bool} {h g:Heap} {a:Addr} {xs:Array Value} (q:SqK t h a xs) (f:∀ o,h.get? a = some o->g.get? a = some o):SqK t g a xs:=by
 cases t <;> (obtain ⟨o,e,r⟩:=q; exact ⟨o,f o e,r⟩)
theorem SqK.here {t:Bool} {h:Heap} {a:Addr} {xs:Array Value} (q:SqK t h a xs):∃ o,h.get? a = some o:=by
 cases t <;> (obtain ⟨o,e,r⟩:=q; exact ⟨o,e⟩)
section
variable {prog:Program} {w:World} {A:Around} {E:Value->Shared->Prop} {s:Shared}
theorem zsh {t:Bool} {j a:Addr} {k:Nat} {xs:Array Value} {x:Value} {Q:Value->Shared->Prop} (hj:ItK t s.heap j a k) (ha:SqK t s.heap a xs) (hx:xs[k]? = some x)
  (hQ:∀ g,ItK t g j a (k + 1)->Heap.SameBut j s.heap g->Q x { s with heap:=g }):wpAny (model prog w) A (Builtin.SmallTypes.nextOf (.ref j)) Q E s:=by
 cases t
 ·exact wpAny_nextOf_list_item hj ha hx hQ
 ·exact zli hj ha hx hQ
theorem ziM {t:Bool} {j a:Addr} {k:Nat} {xs:Array Value} {Q:Value->Shared->Prop} (hh:A.handled = none) (hj:ItK t s.heap j a k) (ha:SqK t s.heap a xs) (hx:xs[k]? = none)
  (hE:∀ g e,Heap.ExtBut j s.heap g->(∃ o,g.get? e = some o/\o.cls = .type "StopIteration")->E (.ref e) { s with heap:=g }):wpAny (model prog w) A (Builtin.SmallTypes.nextOf (.ref j)) Q E s:=by
 cases t
 ·exact wpAny_nextOf_list_end hh hj ha hx hE
 ·exact zgX hh hj ha hx hE
theorem ztd {t:Bool} {a:Addr} {xs:Array Value} {Q:Value->Shared->Prop} (ha:SqK t s.heap a xs) (hQ:Q (.ref s.heap.objs.size) { s with heap:=s.heap.push { cls:=.type (if t then "tuple_iterator" else "list_iterator"),data:=.fields #[.ref a,.int 0 0] } }):wpAny (model prog w) A (pyIter (.ref a)) Q E s:=by
 cases t
 ·exact wpAny_pyIter_list ha hQ
 ·exact wpAny_pyIter_tuple ha hQ
theorem zm7 {T:Addr} {c d x:Value} {k:Nat} {Q:Unit->Shared->Prop} (hT:IsPair s.heap T c d) (hQ:∀ g,g.get? T = some { cls:=.type "tuple",data:=.seq ((#[c,d]:Array Value).setIfInBounds k x) }->Heap.SameBut T s.heap g->Q () { s with heap:=g }) :
  wpAny (model prog w) A (updateSeq T (·.setIfInBounds k x)) Q E s:=wpAny_updateSeq_pair hT hQ
structure ZAp (z p r i j a b:Addr):Prop where
 pz:p ≠ z
 rz:r ≠ z
 iz:i ≠ z
 jz:j ≠ z
 pr:p ≠ r
 pi:p ≠ i
 pj:p ≠ j
 ri:r ≠ i
 rj:r ≠ j
 ij:i ≠ j
 az:a ≠ z
 ar:a ≠ r
 ai:a ≠ i
 aj:a ≠ j
 bz:b ≠ z
 br:b ≠ r
 bi:b ≠ i
 bj:b ≠ j
theorem zos {t u:Bool} {z p r i j a b:Addr} {k m:Nat} {xs ys:Array Value} {x y c d:Value} {Q:Value->Shared->Prop} (D:ZAp z p r i j a b) (hz:IsZip s.heap z p r .none) (hp:IsPair s.heap p (.ref i) (.ref j)) (hr:IsPair s.heap r c d)
  (hi:ItK t s.heap i a k) (hj:ItK u s.heap j b m) (ha:SqK t s.heap a xs) (hb:SqK u s.heap b ys) (hx:xs[k]? = some x) (hy:ys[m]? = some y)
  (hQ:∀ g,IsZip g z p r (rawInt s.heap.objs.size)->IsPair g r x y->ItK t g i a (k + 1)->ItK u g j b (m + 1)->IsPair g s.heap.objs.size x y ->
   (∀ q o,q ≠ z->q ≠ r->q ≠ i->q ≠ j->s.heap.get? q = some o->g.get? q = some o)->Q (.ref s.heap.objs.size) { s with heap:=g }) :
  wpAny (model prog w) A (Builtin.«zip.__next__» ⟨[.ref z],[]⟩) (fun fn s'=>∃ v,fn = .done (.ret v)/\Q v s') E s:=by
 obtain ⟨h0,gs,dr,tk,os⟩:=s
 show wpAny _ _ (field (.ref z) 2 >>= _) _ _ ⟨h0,gs,dr,tk,os⟩
 refine wpAny_bind (wpAny_field hz rfl (x:=.bool false) rfl ?_)
 show wpAny _ _ (field (.ref z) 3 >>= _) _ _ ⟨h0,gs,dr,tk,os⟩
 refine wpAny_bind (wpAny_field hz rfl (x:=.ref p) rfl (wpAny_bind (wpAny_seqItems hp rfl ?_)))
 show wpAny _ _ (Builtin.SmallTypes.ownedTupleIsFree (.ref z) >>= _) _ _ ⟨h0,gs,dr,tk,os⟩
 refine wpAny_bind ?_
 unfold Builtin.SmallTypes.ownedTupleIsFree
 refine wpAny_bind (wpAny_field hz rfl (x:=.none) rfl (wpAny_pure ?_))
 simp only [if_true]
 refine wpAny_bind (wpAny_rule (wpAny_bind (wpAny_field hz rfl (x:=.ref r) rfl (wpAny_bind (wpAny_setField_rec hz (by simp) fun g1 z1 b1=>?_)))))
 replace z1:IsZip g1 z p r .ellipsis:=z1
 replace b1:Heap.SameBut z h0 g1:=b1
 refine wpAny_bind ?_
 simp only [List.zipIdx_cons,List.zipIdx_nil,List.forIn_cons,List.forIn_nil]
 refine wpAny_bind (wpAny_bind (wpAny_onRaise ?_))
 show wpAny _ _ (Builtin.SmallTypes.nextOf (.ref i) >>= _) _ _ ⟨g1,gs,dr,tk,os⟩
 refine wpAny_bind (zsh (s:=⟨g1,gs,dr,tk,os⟩) (hi.at fun o e=>b1.extBut i o D.iz e) (ha.at fun o e=>b1.extBut a o D.az e) hx fun g2 i2 b2=>wpAny_pure ?_)
 replace b2:Heap.SameBut i g1 g2:=b2
 have r2:IsPair g2 r c d:=b2.extBut r _ D.ri (b1.extBut r _ D.rz hr)
 refine wpAny_bind (wpAny_seqItems (s:=⟨g2,gs,dr,tk,os⟩) r2 rfl (wpAny_bind (zm7 (s:=⟨g2,gs,dr,tk,os⟩) r2 fun g3 r3 b3=>?_)))
 replace r3:IsPair g3 r x d:=r3
 replace b3:Heap.SameBut r g2 g3:=b3
 refine wpAny_bind (wpAny_letGo (wpAny_pure (wpAny_bind (wpAny_bind (wpAny_onRaise ?_)))))
 show wpAny _ _ (Builtin.SmallTypes.nextOf (.ref j) >>= _) _ _ ⟨g3,gs,dr,tk,os⟩
 have k13:∀ q o,q ≠ z->q ≠ r->q ≠ i->h0.get? q = some o->g3.get? q = some o:=fun q o n1 n2 n3 e=>b3.extBut q o n2 (b2.extBut q o n3 (b1.extBut q o n1 e))
 refine wpAny_bind (zsh (s:=⟨g3,gs,dr,tk,os⟩) (hj.at fun o e=>k13 j o D.jz (Ne.symm D.rj) (Ne.symm D.ij) e) (hb.at fun o e=>k13 b o D.bz D.br D.bi e) hy fun g4 j4 b4=>wpAny_pure ?_)
 replace b4:Heap.SameBut j g3 g4:=b4
 have r4:IsPair g4 r x d:=b4.extBut r _ D.rj r3
 refine wpAny_bind (wpAny_seqItems (s:=⟨g4,gs,dr,tk,os⟩) r4 rfl (wpAny_bind (zm7 (s:=⟨g4,gs,dr,tk,os⟩) r4 fun g5 r5 b5=>?_)))
 replace r5:IsPair g5 r x y:=r5
 replace b5:Heap.SameBut r g4 g5:=b5
 refine wpAny_bind (wpAny_letGo (wpAny_pure (wpAny_pure (wpAny_bind (wpAny_seqItems (s:=⟨g5,gs,dr,tk,os⟩) r5 rfl (wpAny_bind (wpAny_newTuple ?_)))))))
 have sz:g5.objs.size = h0.objs.size:=by rw [b5.1,b4.1,b3.1,b2.1,b1.1]
 have z5:IsZip g5 z p r .ellipsis:=b5.extBut z _ (Ne.symm D.rz) (b4.extBut z _ (Ne.symm D.jz) (b3.extBut z _ (Ne.symm D.rz) (b2.extBut z _ (Ne.symm D.iz) z1)))
 have k5:∀ q o,q ≠ z->q ≠ r->q ≠ i->q ≠ j->h0.get? q = some o->g5.get? q = some o:=fun q o n1 n2 n3 n4 e=>b5.extBut q o n2 (b4.extBut q o n4 (k13 q o n1 n2 n3 e))
 have i5:ItK t g5 i a (k + 1):=ItK.at i2 fun o e=>b5.extBut i o (Ne.symm D.ri) (b4.extBut i o D.ij (b3.extBut i o (Ne.symm D.ri) e))
 have j5:ItK u g5 j b (m + 1):=ItK.at j4 fun o e=>b5.extBut j o (Ne.symm D.rj) e
 have zl:z < g5.objs.size:=Heap.lt_size z5
 show wpAny _ _ (Builtin.SmallTypes.ownedTupleHandOut (.ref z) (.ref g5.objs.size) >>= _) _ _ _
 refine wpAny_bind ?_
 unfold Builtin.SmallTypes.ownedTupleHandOut
 have z6:IsZip (g5.push { cls:=.type "tuple",data:=.seq #[x,y] }) z p r .ellipsis:=Heap.get?_push_of_some _ z5
 refine wpAny_bind (wpAny_setField_rec z6 (by simp) fun g7 z7 b7=>?_)
 replace z7:IsZip g7 z p r (rawInt g5.objs.size):=z7
 replace b7:Heap.SameBut z (g5.push { cls:=.type "tuple",data:=.seq #[x,y] }) g7:=b7
 refine wpAny_setField_rec z7 (by simp) fun g8 z8 b8=>?_
 replace z8:IsZip g8 z p r (rawInt g5.objs.size):=z8
 replace b8:Heap.SameBut z g7 g8:=b8
 have up:∀ q o,q ≠ z->g5.get? q = some o->g8.get? q = some o:=fun q o n e=>b8.extBut q o n (b7.extBut q o n (Heap.get?_push_of_some _ e))
 have t8:IsPair g8 g5.objs.size x y:=b8.extBut _ _ (Nat.ne_of_gt zl) (b7.extBut _ _ (Nat.ne_of_gt zl) (Heap.get?_push_size _ rfl))
 rw [sz] at z8 t8
 refine wpAny_pure ⟨_,rfl,?_⟩
 show Q (.ref g5.objs.size) _
 rw [sz]
 exact hQ g8 z8 (up r _ D.rz r5) (i5.at fun o e=>up i o D.iz e) (j5.at fun o e=>up j o D.jz e) t8 fun q o n1 n2 n3 n4 e=>up q o n1 (k5 q o n1 n2 n3 n4 e)
theorem znQ {t u:Bool} {z p r i j a b:Addr} {k m:Nat} {xs ys:Array Value} {c d:Value} {Q:Fin->Shared->Prop} (hh:A.handled = none) (D:ZAp z p r i j a b) (hz:IsZip s.heap z p r .none) (hp:IsPair s.heap p (.ref i) (.ref j)) (hr:IsPair s.heap r c d)
  (hi:ItK t s.heap i a k) (hj:ItK u s.heap j b m) (ha:SqK t s.heap a xs) (hb:SqK u s.heap b ys) (hend:xs[k]? = none\/ys[m]? = none)
  (hE:∀ g e,(∀ q o,q ≠ z->q ≠ r->q ≠ i->q ≠ j->s.heap.get? q = some o->g.get? q = some o)->(∃ o,g.get? e = some o/\o.cls = .type "StopIteration")->E (.ref e) { s with heap:=g }) :
  wpAny (model prog w) A (Builtin.«zip.__next__» ⟨[.ref z],[]⟩) Q E s:=by
 obtain ⟨h0,gs,dr,tk,os⟩:=s
 show wpAny _ _ (field (.ref z) 2 >>= _) _ _ ⟨h0,gs,dr,tk,os⟩
 refine wpAny_bind (wpAny_field hz rfl (x:=.bool false) rfl ?_)
 show wpAny _ _ (field (.ref z) 3 >>= _) _ _ ⟨h0,gs,dr,tk,os⟩
 refine wpAny_bind (wpAny_field hz rfl (x:=.ref p) rfl (wpAny_bind (wpAny_seqItems hp rfl ?_)))
 show wpAny _ _ (Builtin.SmallTypes.ownedTupleIsFree (.ref z) >>= _) _ _ ⟨h0,gs,dr,tk,os⟩
 refine wpAny_bind ?_
 unfold Builtin.SmallTypes.ownedTupleIsFree
 refine wpAny_bind (wpAny_field hz rfl (x:=.none) rfl (wpAny_pure ?_))
 simp only [if_true]
 refine wpAny_bind (wpAny_rule (wpAny_bind (wpAny_field hz rfl (x:=.ref r) rfl (wpAny_bind (wpAny_setField_rec hz (by simp) fun g1 z1 b1=>?_)))))
 replace z1:IsZip g1 z p r .ellipsis:=z1
 replace b1:Heap.SameBut z h0 g1:=b1
 refine wpAny_bind ?_
 simp only [List.zipIdx_cons,List.zipIdx_nil,List.forIn_cons,List.forIn_nil]
 refine wpAny_bind (wpAny_bind (wpAny_onRaise ?_))
 show wpAny _ _ (Builtin.SmallTypes.nextOf (.ref i) >>= _) _ _ ⟨g1,gs,dr,tk,os⟩
 have notz:∀ {g:Heap} {e:Addr} {o:Obj},IsZip g z p r .ellipsis->g.get? e = some o->o.cls = .type "StopIteration"->e ≠ z:=fun h1 h2 h3 w=>by
  subst w
  rw [h1] at h2
  cases h2
  simp at h3
 cases hx:xs[k]? with
 | none =>
  refine wpAny_bind (ziM (s:=⟨g1,gs,dr,tk,os⟩) hh (hi.at fun o e=>b1.extBut i o D.iz e) (ha.at fun o e=>b1.extBut a o D.az e) hx fun g2 e b2 he=>?_)
  obtain ⟨oe,e1,e2⟩:=he
  have z2:IsZip g2 z p r .ellipsis:=b2 z _ (Ne.symm D.iz) z1
  exact wpAny_setField_rec z2 (by simp) fun g3 _ b3=>hE g3 e (fun q o n1 _ n3 _ w=>b3.extBut q o n1 (b2 q o n3 (b1.extBut q o n1 w))) ⟨oe,b3.extBut e oe (notz z2 e1 e2) e1,e2⟩
 | some x =>
  have hy:ys[m]? = none:=hend.elim (fun w=>by rw [hx] at w; cases w) id
  refine wpAny_bind (zsh (s:=⟨g1,gs,dr,tk,os⟩) (hi.at fun o e=>b1.extBut i o D.iz e) (ha.at fun o e=>b1.extBut a o D.az e) hx fun g2 i2 b2=>wpAny_pure ?_)
  replace b2:Heap.SameBut i g1 g2:=b2
  have r2:IsPair g2 r c d:=b2.extBut r _ D.ri (b1.extBut r _ D.rz hr)
  refine wpAny_bind (wpAny_seqItems (s:=⟨g2,gs,dr,tk,os⟩) r2 rfl (wpAny_bind (zm7 (s:=⟨g2,gs,dr,tk,os⟩) r2 fun g3 r3 b3=>?_)))
  replace b3:Heap.SameBut r g2 g3:=b3
  refine wpAny_bind (wpAny_letGo (wpAny_pure (wpAny_bind (wpAny_bind (wpAny_onRaise ?_)))))
  show wpAny _ _ (Builtin.SmallTypes.nextOf (.ref j) >>= _) _ _ ⟨g3,gs,dr,tk,os⟩
  have k13:∀ q o,q ≠ z->q ≠ r->q ≠ i->h0.get? q = some o->g3.get? q = some o:=fun q o n1 n2 n3 e=>b3.extBut q o n2 (b2.extBut q o n3 (b1.extBut q o n1 e))
  refine wpAny_bind (ziM (s:=⟨g3,gs,dr,tk,os⟩) hh (hj.at fun o e=>k13 j o D.jz (Ne.symm D.rj) (Ne.symm D.ij) e) (hb.at fun o e=>k13 b o D.bz D.br D.bi e) hy fun g4 e b4 he=>?_)
  obtain ⟨oe,e1,e2⟩:=he
  have z4:IsZip g4 z p r .ellipsis:=b4 z _ (Ne.symm D.jz) (b3.extBut z _ (Ne.symm D.rz) (b2.extBut z _ (Ne.symm D.iz) z1))
  exact wpAny_setField_rec z4 (by simp) fun g5 _ b5=>hE g5 e (fun q o n1 n2 n3 n4 w=>b5.extBut q o n1 (b4 q o n4 (k13 q o n1 n2 n3 w))) ⟨oe,b5.extBut e oe (notz z4 e1 e2) e1,e2⟩
abbrev zpA (t:Bool) (h:Heap) (a:Addr):Heap:=h.push { cls:=.type (if t then "tuple_iterator" else "list_iterator"),data:=.fields #[.ref a,.int 0 0] }
abbrev zpB (t u:Bool) (h:Heap) (a b:Addr):Heap:=(zpA t h a).push { cls:=.type (if u then "tuple_iterator" else "list_iterator"),data:=.fields #[.ref b,.int 0 0] }
abbrev zpC (t u:Bool) (h:Heap) (a b:Addr):Heap:=(zpB t u h a b).push { cls:=.type "tuple",data:=.seq #[.ref h.objs.size,.ref (zpA t h a).objs.size] }
abbrev zpD (t u:Bool) (h:Heap) (a b:Addr):Heap:=(zpC t u h a b).push { cls:=.type "tuple",data:=.seq #[.none,.none] }
abbrev zpE (t u:Bool) (h:Heap) (a b:Addr):Heap:=(zpD t u h a b).push { cls:=.type "zip",data:=.fields #[.none,.bool false,.bool false,.ref (zpB t u h a b).objs.size,.ref (zpC t u h a b).objs.size] }
theorem zrX (t u:Bool) (a b:Addr) (xs ys:Array Value):Meets (Builtin.«zip.__new__» ⟨[.type "zip",.ref a,.ref b],[]⟩) (fun _ R s=>SqK t s.heap a xs/\SqK u s.heap b ys /\
   ∀ g,IsZip g (s.heap.objs.size + 4) (s.heap.objs.size + 2) (s.heap.objs.size + 3) .none->IsPair g (s.heap.objs.size + 2) (.ref s.heap.objs.size) (.ref (s.heap.objs.size + 1))->IsPair g (s.heap.objs.size + 3) .none .none ->
    ItK t g s.heap.objs.size a 0->ItK u g (s.heap.objs.size + 1) b 0->(∀ q o,s.heap.get? q = some o->g.get? q = some o)->R (.ok (.ret (.ref (s.heap.objs.size + 4)))) { s with heap:=g }) :=
 .of_wp fun prog w A R s hyp=>by
  obtain ⟨g0,gs,dr,tk,os⟩:=s
  obtain ⟨ha,hb,hyp⟩:=hyp
  have sub:=sub_zip
  have hA:SqK t (Shared.heap ⟨g0,gs,dr,tk,os⟩) a xs:=ha
  have hB:SqK u (Shared.heap ⟨g0.push { cls:=.type (if t then "tuple_iterator" else "list_iterator"),data:=.fields #[.ref a,.int 0 0] },gs,dr,tk,os⟩) b ys:=SqK.at hb fun o e=>Heap.get?_push_of_some _ e
  wp_walk using ztd hA,ztd hB
  refine ⟨_,rfl,?_⟩
  have z1:(zpA t g0 a).objs.size = g0.objs.size + 1:=Heap.size_push ..
  have z2:(zpB t u g0 a b).objs.size = g0.objs.size + 2:=by rw [Heap.size_push,z1]
  have z3:(zpC t u g0 a b).objs.size = g0.objs.size + 3:=by rw [Heap.size_push,z2]
  have z4:(zpD t u g0 a b).objs.size = g0.objs.size + 4:=by rw [Heap.size_push,z3]
  have f1:=Heap.get?_push_size g0 (o:={ cls:=.type (if t then "tuple_iterator" else "list_iterator"),data:=.fields #[.ref a,.int 0 0] }) (by cases t <;> rfl)
  have f2:=Heap.get?_push_size (zpA t g0 a) (o:={ cls:=.type (if u then "tuple_iterator" else "list_iterator"),data:=.fields #[.ref b,.int 0 0] }) (by cases u <;> rfl)
  have f3:=Heap.get?_push_size (zpB t u g0 a b) (o:={ cls:=.type "tuple",data:=.seq #[.ref g0.objs.size,.ref (zpA t g0 a).objs.size] }) rfl
  have f4:=Heap.get?_push_size (zpC t u g0 a b) (o:={ cls:=.type "tuple",data:=.seq #[.none,.none] }) rfl
  have f5:=Heap.get?_push_size (zpD t u g0 a b) (o:={ cls:=.type "zip",data:=.fields #[.none,.bool false,.bool false,.ref (zpB t u g0 a b).objs.size,.ref (zpC t u g0 a b).objs.size] }) rfl
  have c1:∀ q o,g0.get? q = some o->(zpA t g0 a).get? q = some o:=fun q o e=>Heap.get?_push_of_some _ e
  have c2:∀ q o,(zpA t g0 a).get? q = some o->(zpB t u g0 a b).get? q = some o:=fun q o e=>Heap.get?_push_of_some _ e
  have c3:∀ q o,(zpB t u g0 a b).get? q = some o->(zpC t u g0 a b).get? q = some o:=fun q o e=>Heap.get?_push_of_some _ e
  have c4:∀ q o,(zpC t u g0 a b).get? q = some o->(zpD t u g0 a b).get? q = some o:=fun q o e=>Heap.get?_push_of_some _ e
  have c5:∀ q o,(zpD t u g0 a b).get? q = some o->(zpE t u g0 a b).get? q = some o:=fun q o e=>Heap.get?_push_of_some _ e
  have y1:=c5 _ _ (c4 _ _ (c3 _ _ (c2 _ _ f1)))
  have y2:=c5 _ _ (c4 _ _ (c3 _ _ f2))
  have y3:=c5 _ _ (c4 _ _ f3)
  have y4:=c5 _ _ f4
  have y5:(zpE t u g0 a b).get? (zpD t u g0 a b).objs.size = some { cls:=.type "zip",data:=.fields #[.none,.bool false,.bool false,.ref (zpB t u g0 a b).objs.size,.ref (zpC t u g0 a b).objs.size] }:=f5
  have fin:R (.ok (.ret (.ref (zpD t u g0 a b).objs.size))) ⟨zpE t u g0 a b,gs,dr,tk,os⟩:=by
   rw [z4,z2,z3] at y5
   rw [z2,z1] at y3
   rw [z3] at y4
   rw [z1] at y2
   rw [z4]
   refine hyp _ y5 y3 y4 ?_ ?_ fun q o e=>c5 q o (c4 q o (c3 q o (c2 q o (c1 q o e))))
   ·cases t <;> exact ⟨_,y1,rfl,rfl⟩
   ·cases u <;> exact ⟨_,y2,rfl,rfl⟩
  exact fin
theorem zmq {t u:Bool} {a b:Addr} {xs ys:Array Value} {Q:Value->Shared->Prop} (ha:SqK t s.heap a xs) (hb:SqK u s.heap b ys)
  (hyp:∀ g,IsZip g (s.heap.objs.size + 4) (s.heap.objs.size + 2) (s.heap.objs.size + 3) .none->IsPair g (s.heap.objs.size + 2) (.ref s.heap.objs.size) (.ref (s.heap.objs.size + 1))->IsPair g (s.heap.objs.size + 3) .none .none ->
    ItK t g s.heap.objs.size a 0->ItK u g (s.heap.objs.size + 1) b 0->(∀ q o,s.heap.get? q = some o->g.get? q = some o)->Q (.ref (s.heap.objs.size + 4)) { s with heap:=g }):wpAny (model prog w) A (call (.type "zip") [.ref a,.ref b]) Q E s:=by
 refine callType_new F.called_zip (by decide) (F.typeCall_zip_2 _ _) (F.newCall_zip_2 _ _) (fun ob=>F.args_object_init_3 ob _ _) F.entry_zip_new (zrX t u a b xs ys) ⟨ha,hb,fun g h1 h2 h3 h4 h5 h6=>?_⟩
 exact ⟨⟨_,h1,rfl⟩,hyp g h1 h2 h3 h4 h5 h6⟩
end
def Itz (S1 S2:Hp->Addr->List V->Prop) (a b:Addr):It :=
 ⟨fun i H=>∃ xs ys x y,S1 H a xs/\S2 H b ys/\xs[i]? = some x/\ys[i]? = some y,fun i H x H'=>∃ p v u,H p = none/\x = .ref p/\H' = upd H p (.tup [v,u])/\(∀ xs,S1 H a xs->xs[i]? = some v)/\(∀ ys,S2 H b ys->ys[i]? = some u),fun i H=>∃ xs ys,S1 H a xs/\S2 H b ys/\(xs.length <= i\/ys.length <= i)⟩
def SqV (K:W.Frag) (t:Bool) (H:Hp) (a:Addr) (xs:List V):Prop:=match t with
 | true=>SqT K H a xs
 | false=>SqL K H a xs
theorem Inv.seqK {X:Cx} {zk:List (Addr × Obj)} {σ:St} {H:Hp} {s:Shared} {t:Bool} {a:Addr} {xs:List V} (I:Inv X zk σ H s) (h:SqV X.K t H a xs):∃ its:List Value,Vals xs its/\SqK t s.heap a its.toArray/\∀ ys,SqV X.K t H a ys->ys = xs:=by
 cases t
 ·obtain ⟨its,rv,p,_⟩:=I.list h
  exact ⟨its,rv,p.isList,fun ys hy=>I.list_inj hy h⟩
 ·obtain ⟨its,rv,p,_⟩:=I.tuple h
  exact ⟨its,rv,p,fun ys hy=>I.tuple_inj hy h⟩
theorem zpb {P:Program} {w:World} {K:W.Frag} {elts:List Expr} {n:Nat} {pos:Pos} (t u:Bool) (z p r i j a b:Addr) (D:ZAp z p r i j a b):Turn P w K (.Tuple elts n pos) (Itz (SqV K t) (SqV K u) a b) [z,p,r,i,j] z
  (fun k h=>IsZip h z p r .none/\IsPair h p (.ref i) (.ref j)/\(∃ c d,IsPair h r c d)/\ItK t h i a k/\ItK u h j b k) where
 mem:=by simp
 obj:=fun k h ⟨h1,h2,⟨c,d,h3⟩,h4,h5⟩ q hq=>by
  simp only [List.mem_cons,List.not_mem_nil,or_false] at hq
  rcases hq with rfl | rfl | rfl | rfl | rfl
  ·exact ⟨_,h1,fun v e=>by cases (show Data.fields _ = Data.cell v from e)⟩
  ·exact ⟨_,h2,fun v e=>by cases (show Data.seq _ _ = Data.cell v from e)⟩
  ·exact ⟨_,h3,fun v e=>by cases (show Data.seq _ _ = Data.cell v from e)⟩
  ·exact h4.here
  ·exact h5.here
 keep:=fun k h h' ⟨h1,h2,⟨c,d,h3⟩,h4,h5⟩ f=>⟨f z (by simp) _ h1,f p (by simp) _ h2,⟨c,d,f r (by simp) _ h3⟩,h4.at fun o e=>f i (by simp) o e,h5.at fun o e=>f j (by simp) o e⟩
 item:=by
  intro X hP hw hK hc k zk s σ H E I hf st hg
  subst hP hw hK
  obtain ⟨xs,ys,x,y,q1,q2,ex,ey⟩:=hg
  obtain ⟨its,rv,sq,inj⟩:=I.seqK q1
  obtain ⟨its2,rv2,sq2,inj2⟩:=I.seqK q2
  obtain ⟨v1,e1,r1⟩:=rv.get ex
  obtain ⟨v2,e2,r2⟩:=rv2.get ey
  obtain ⟨h1,h2,⟨c,d,h3⟩,h4,h5⟩:=st
  have ty:s.TypeIs (.ref z) "zip":=⟨_,h1,rfl⟩
  unfold pyNext
  refine wpAny_bind (wpAny_attempt (wpAny_callSpecial?_slot (name:=Str.ofString "__next__") ty F.slot_zip_next (wpAny_call_entry F.slot_zip_next ty F.entry_zip_next
   (zos D h1 h2 h3 h4 h5 sq sq2 (by simpa using e1) (by simpa using e2) fun g a1 a2 a3 a4 a5 kk=>wpAny_pure ⟨_,rfl,?_⟩) (F.args_zip_next_1 _))))
  refine wpAny_letOwnedTupleGo_zip (s:={ s with heap:=g }) a1 fun g' z' b'=>?_
  have lt:∀ {q o},s.heap.get? q = some o->s.heap.objs.size ≠ q:=fun e=>Nat.ne_of_gt (Heap.lt_size e)
  have b'':Heap.SameBut z g g':=b'
  have pT:IsPair g' s.heap.objs.size v1 v2:=b''.extBut _ _ (lt h1) a5
  have hn:=I.hok.fresh (Nat.le_refl s.heap.objs.size)
  have kk':∀ q o,q ∉ [z,r,i,j]->s.heap.get? q = some o->g'.get? q = some o:=fun q o hq e=>by
   simp only [List.mem_cons,List.not_mem_nil,or_false,not_or] at hq
   exact b''.extBut q o hq.1 (kk q o hq.1 hq.2.1 hq.2.2.1 hq.2.2.2 e)
  have I1:Inv X zk σ (upd H s.heap.objs.size (.tup [x,y])) { s with heap:=g' }:=I.turnLaid (t':=s.toks) (ch:=[z,r,i,j]) kk' (fun q hq=>hf q (by
   simp only [List.mem_cons,List.not_mem_nil,or_false] at hq ⊢
   rcases hq with h | h | h | h
   ·exact .inl h
   ·exact .inr (.inr (.inl h))
   ·exact .inr (.inr (.inr (.inl h)))
   ·exact .inr (.inr (.inr (.inr h))))) (Nat.le_refl _) ⟨⟨by show 2 <= sizeLine; decide,_,pT,rfl⟩,[v1,v2],.cons r1 (.cons r2 .nil),⟨_,pT,rfl,_,rfl⟩⟩
  have fresh:∀ q,q ∈ [z,p,r,i,j]->q ≠ s.heap.objs.size:=fun q hq w=>by
   simp only [List.mem_cons,List.not_mem_nil,or_false] at hq
   obtain ⟨o1,w1,_⟩:=h4.here
   obtain ⟨o2,w2,_⟩:=h5.here
   rcases hq with h | h | h | h | h
   ·exact lt h1 (w.symm.trans h)
   ·exact lt h2 (w.symm.trans h)
   ·exact lt h3 (w.symm.trans h)
   ·exact lt w1 (w.symm.trans h)
   ·exact lt w2 (w.symm.trans h)
  refine ⟨.ref s.heap.objs.size,_,I1,rfl,⟨_,x,y,hn,rfl,rfl,fun zs hz=>by rw [inj zs hz]; exact ex,fun zs hz=>by rw [inj2 zs hz]; exact ey⟩,⟨z',kk' p _ (by simp [D.pz,D.pr,D.pi,D.pj]) h2,⟨_,_,b''.extBut r _ D.rz a2⟩,a3.at fun o e=>b''.extBut i o D.iz e,a4.at fun o e=>b''.extBut j o D.jz e⟩,fun q hq=>?_⟩
  rw [zO (fresh q hq)]
  exact (hf q hq).1
 done:=by
  intro X hP hw hK hc k zk s σ H E I hf st hg
  subst hP hw hK
  obtain ⟨xs,ys,q1,q2,hl⟩:=hg
  obtain ⟨its,rv,sq,inj⟩:=I.seqK q1
  obtain ⟨its2,rv2,sq2,inj2⟩:=I.seqK q2
  obtain ⟨h1,h2,⟨c,d,h3⟩,h4,h5⟩:=st
  have l1:=rv.length
  have l2:=rv2.length
  have ty:s.TypeIs (.ref z) "zip":=⟨_,h1,rfl⟩
  unfold pyNext
  refine wpAny_bind (wpAny_attempt (wpAny_callSpecial?_slot (name:=Str.ofString "__next__") ty F.slot_zip_next (wpAny_call_entry F.slot_zip_next ty F.entry_zip_next
   (znQ (I.ok.hd hc) D h1 h2 h3 h4 h5 sq sq2 (hl.elim (fun h=>.inl (by simp; omega)) fun h=>.inr (by simp; omega)) fun g e kk he=>?_) (F.args_zip_next_1 _))))
  obtain ⟨o,ho,hc'⟩:=he
  refine wpAny_bind (wpAny_isInstance (T:="StopIteration") (b:=true) ⟨o,ho,hc'⟩ isSubtype_stop (wpAny_pure ⟨rfl,?_⟩))
  refine I.turnedN (t':=s.toks) (ch:=[z,r,i,j]) (fun q o hq e=>?_) fun q hq=>hf q (by
   simp only [List.mem_cons,List.not_mem_nil,or_false] at hq ⊢
   rcases hq with h | h | h | h
   ·exact .inl h
   ·exact .inr (.inr (.inl h))
   ·exact .inr (.inr (.inr (.inl h)))
   ·exact .inr (.inr (.inr (.inr h))))
  simp only [List.mem_cons,List.not_mem_nil,or_false,not_or] at hq
  exact kk q o hq.1 hq.2.1 hq.2.2.1 hq.2.2.2 e
 self:=fun _ _ _ _ _ st h=>wpAny_pyIter_zip st.1 h
theorem nne {a b:Nat} (h:a < b\/b < a):(show Addr from a) ≠ (show Addr from b):=fun e=>by
 have e':a = b:=e
 omega
theorem ztX (N a b:Nat) (ha:a < N) (hb:b < N):ZAp (N + 4) (N + 2) (N + 3) N (N + 1) a b:=by
 constructor <;> exact nne (by omega)
theorem zsi (N q:Nat) (hq:q = N + 4\/q = N + 2\/q = N + 3\/q = N\/q = N + 1):N <= q:=by omega
section
variable {X:Cx} {elts:List Expr} {n:Nat} {tpos:Pos}
theorem zpc:bootBuiltins "zip" = some (.type "zip"):=by decide +kernel
def zsP (K:W.Frag) (ta:TA):TI:=fun σ H R=>ta σ H fun vs H1=>∃ a b t u,vs = [.ref a,.ref b]/\(∃ xs,SqV K t H1 a xs)/\(∃ ys,SqV K u H1 b ys)/\R (Itz (SqV K t) (SqV K u) a b) H1
theorem zrO {e1 e2:Expr} {ta:TA} {p pos:Pos} (hg:Gl X "zip") (hm:X.mg "zip" = none) (ha:PA X [e1,e2] ta) (hs:starEach [e1,e2] X.env = [(false,eval e1 X.env),(false,eval e2 X.env)]:=by rfl) (hs2:starEach [e2] X.env = [(false,eval e2 X.env)]:=by rfl) :
  PI X (.Tuple elts n tpos) (.Call (.Name "zip" p) [e1,e2] [] pos) (zsP X.K ta):=by
 intro zk s σ H R I h
 refine Call_ (zfS I hg hm zpc (PyProof.Rows.callWith_type1 (thn (ha pos zk s σ H _ I h) fun us s1 ⟨vs,H1,I1,r1,q1⟩=>?_) (by rw [hs,hs2]) (by rw [hs2]; rfl)))
 obtain ⟨a,b,t,u,e,⟨xs,q1⟩,⟨ys,q2⟩,q⟩:=q1
 subst e
 cases r1 with
 | cons r rr =>
  cases rr with
  | cons r' rr =>
   cases rr
   cases r
   cases r'
   obtain ⟨its,rv,sq,_⟩:=I1.seqK q1
   obtain ⟨its2,rv2,sq2,_⟩:=I1.seqK q2
   refine zmq sq sq2 fun g h1 h2 h3 h4 h5 k=>?_
   refine wpAny_pyIter_zip (s:={ s1 with heap:=g }) h1 ?_
   have I2:Inv X zk σ H1 { s1 with heap:=g }:=I1.kept (t':=s1.toks) k
   obtain ⟨oa,fa⟩:=sq.here
   obtain ⟨ob,fb⟩:=sq2.here
   have la:=Heap.lt_size fa
   have lb:=Heap.lt_size fb
   have D:ZAp (s1.heap.objs.size + 4) (s1.heap.objs.size + 2) (s1.heap.objs.size + 3) s1.heap.objs.size (s1.heap.objs.size + 1) a b:=ztX _ _ _ la lb
   refine ⟨_,[s1.heap.objs.size + 4,s1.heap.objs.size + 2,s1.heap.objs.size + 3,s1.heap.objs.size,s1.heap.objs.size + 1],_,_,H1,rfl,I2,zpb t u _ _ _ _ _ a b D,⟨h1,h2,⟨_,_,h3⟩,h4,h5⟩,fun q hq=>?_,q⟩
   have hl:s1.heap.objs.size <= q:=by
    simp only [List.mem_cons,List.not_mem_nil,or_false] at hq
    exact zsi _ _ hq
   exact I1.fpOk hl (I1.hok.fresh hl)
end
def zjq:List PyData->List PyData->List PyData
 | d :: ds,e :: es=>.tuple [d,e] :: zjq ds es
 | _,_=>[]
theorem zhR:∀ (ds es:List PyData) (k:Nat) (x:PyData),(zjq ds es)[k]? = some x->∃ d e,ds[k]? = some d/\es[k]? = some e/\x = .tuple [d,e]
 | [],_,_,_,h=>by simp [zjq] at h
 | _ :: _,[],_,_,h=>by simp [zjq] at h
 | d :: ds,e :: es,0,x,h=>by
  have e':PyData.tuple [d,e] = x:=by simpa [zjq] using h
  exact ⟨d,e,rfl,rfl,e'.symm⟩
 | d :: ds,e :: es,k + 1,x,h=>by
  obtain ⟨d',e',h1,h2,h3⟩:=zhR ds es k x (by simpa [zjq] using h)
  exact ⟨d',e',by simpa using h1,by simpa using h2,h3⟩
theorem zj8:∀ (ds es:List PyData),(zjq ds es).length = min ds.length es.length
 | [],_=>by simp [zjq]
 | _ :: _,[]=>by simp [zjq]
 | d :: ds,e :: es=>by simp [zjq,zj8 ds es]; try omega
theorem zkl {α β:Type} (f:α->PyData) (g:β->PyData):∀ (xs:List α) (ys:List β),zjq (xs.map f) (ys.map g) = (xs.zip ys).map fun q=>.tuple [f q.1,g q.2]
 | [],_=>by simp [zjq]
 | _ :: _,[]=>by simp [zjq]
 | x :: xs,y :: ys=>by simp [zjq,zkl f g xs ys]
def zkq (a:DA):DI:=fun δ S R=>a δ S fun xs S1=>arg2 xs fun x y=>∃ ds,zke x = some ds/\∃ es,zke y = some es/\R (zjq ds es) S1
theorem zkS {K:W.Frag} {h o:List Addr} {H:Hp} {x:XV} {v:V} {ds:List PyData} (e:zke x = some ds) (q:HasX h o H x v):∃ t a ws,v = .ref a/\HasL (vx h o H) ds ws/\∀ {o2 H2},ExH h o H o2 H2->SqV K t H2 a ws:=by
 unfold zke at e
 split at e
 ·cases e
  obtain ⟨a,ws,rfl,ea,l⟩:=zbs.mp (show Has (vx h o H) (.list ds) v from q)
  exact ⟨false,a,ws,rfl,l,fun e2=>(SqL.of (zaj _ _ (e2.vx _ _ ea)):SqL K _ a ws)⟩
 ·cases e
  obtain ⟨a,ws,rfl,ea,l⟩:=za7.mp (show Has (vx h o H) (.tuple ds) v from q)
  exact ⟨true,a,ws,rfl,l,fun e2=>(SqT.of (zaj _ _ (e2.vx _ _ ea)):SqT K _ a ws)⟩
 ·cases e
theorem zrh {K:W.Frag} {ta:TA} {da:DA} (ha:RA ta da):RI (zsP K ta) (zkq da):=fun h o H δ σ S R Q he hs q c =>
 ha h o H δ σ S _ _ he hs q fun o1 H1 S1 xs vs e1 s1 x1 d0=>by
  obtain ⟨x,y,rfl,ds,hd,es,hes,d1⟩:=zgr d0
  obtain ⟨v,u,rfl,hv,hu⟩:=hxs2 x1
  obtain ⟨t,a,ws,rfl,l,k1⟩:=zkS (K:=K) hd hv
  obtain ⟨t',b,zs,rfl,l',k2⟩:=zkS (K:=K) hes hu
  have hl:=l.length
  have hl':=l'.length
  refine ⟨a,b,t,t',rfl,⟨ws,k1 ExH.refl⟩,⟨zs,k2 ExH.refl⟩,c o1 H1 S1 _ _ e1 s1 ⟨fun i o2 H2 e2 hi=>⟨ws,zs,k1 e2,k2 e2,by rw [zj8] at hi; omega⟩,fun i d o2 H2 e2 hi=>?_,fun i d o2 H2 x H3 S2 e2 s2 hi y=>?_⟩ d1⟩
  ·obtain ⟨d',e',h1,h2,rfl⟩:=zhR ds es i d hi
   obtain ⟨u1,eu1,_⟩:=l.get h1
   obtain ⟨u2,eu2,_⟩:=l'.get h2
   exact ⟨ws,zs,u1,u2,k1 e2,k2 e2,eu1,eu2⟩
  ·obtain ⟨d',e',h1,h2,rfl⟩:=zhR ds es i d hi
   obtain ⟨u1,eu1,hu1⟩:=l.get h1
   obtain ⟨u2,eu2,hu2⟩:=l'.get h2
   obtain ⟨p,v,u,hp,rfl,rfl,y1,y2⟩:=y
   have f1:=y1 ws (k1 e2)
   have f2:=y2 zs (k2 e2)
   rw [eu1] at f1
   rw [eu2] at f2
   cases f1
   cases f2
   exact ⟨Same.laid hp,za7.mpr ⟨p,_,rfl,s2.laid hp,zI.mpr ⟨_,_,rfl,(hu1.mono e2.vx).mono (zc8 (Same.laid hp)),zI.mpr ⟨_,_,rfl,(hu2.mono e2.vx).mono (zc8 (Same.laid hp)),zV.mpr rfl⟩⟩⟩⟩
end
section
open Sem (wp)
section
variable {prog:Program} {w:World} {A:Around} {R:Result->Shared->Prop} {I:Addr} {fp wr:List Addr} {n:Nat} {P:Nat->Value->Prop} {St:Nat->Heap->Prop}
def CmpH (prog:Program) (w:World) (A:Around) (g:Heap) (own:List Addr) (P:Nat->Value->Prop) (bt:Nat->Nat->Bool):Prop :=
 ∀ i j x y (s:Shared) (Q:Value->Shared->Prop) (E:Value->Shared->Prop),(∀ b o,b ∉ own->g.get? b = some o->s.heap.get? b = some o)->P i x->P j y->Q (.bool (bt i j)) s->wpAny (model prog w) A (richCompare .Lt x y) Q E s
theorem znk (W:Walks prog w A.in1 I fp wr n P St) (bt:Nat->Nat->Bool) {g:Heap} (S:Addr) (cm:CmpH prog w A.in1 g (S :: wr) P bt) (nS:S ∉ fp):∀ (d j:Nat) (s:Shared) (best:Value) (c:Nat),n = j + 1 + d->(∀ b o,b ∉ S :: wr->g.get? b = some o->s.heap.get? b = some o)->St (j + 1) s.heap->P (argBest bt j) best ->
   s.heap.get? S = some { cls:=.type "list",dict:=none,data:=.seq #[best,best] c,slots:=#[] } ->
   (∀ v h' tk,P (argBest bt (n - 1)) v->(∀ b o,b ∉ S :: wr->s.heap.get? b = some o->h'.get? b = some o)->R (.ok (.ret v)) { s with heap:=h',toks:=tk })->codeAny (model prog w) A (.builtin "min.loop" ⟨[.ref I,.none,.ref S],[]⟩) R s:=by
 have nw:S ∉ wr:=fun m=>nS (W.sub _ m)
 have nm:(toString "min" ++ toString ".loop":String) = "min.loop":=by decide
 intro d
 induction d with
 | zero =>
  intro j s best c hd kg st hb hS fin
  have hj:j + 1 = n:=by omega
  refine codeAny_builtin F.entry_min_loop ?_
  rw [Around.under_plainId F.plain_min_loop _]
  show wpAny _ A.in1 (seqItems? (.ref S) >>= _) _ _ s
  refine wpAny_bind (wpAny_seqItems hS rfl ?_)
  show wpAny _ A.in1 (tryCatch (pyNext (.ref I)) _ >>= _) _ _ s
  refine wpAny_bind (wpAny_tryCatch (W.done s _ _ (by rw [<- hj]; exact st) fun h1 t1 k1=>?_))
  have hS1:=k1 S _ nw hS
  show wpAny _ A.in1 (updateSeq S (fun _=>#[]) >>= _) _ _ _
  refine wpAny_bind (wpAny_updateSeq hS1 rfl (wpAny_bind (wpAny_letGo (wpAny_pure (fin best _ t1 (by rw [<- hj]; exact hb) fun b o hn e=>?_)))))
  rw [List.mem_cons,not_or] at hn
  exact (Heap.get?_update_other _ _ (Ne.symm hn.1)).trans (k1 b o hn.2 e)
 | succ d ih =>
  intro j s best c hd kg st hb hS fin
  refine codeAny_builtin F.entry_min_loop ?_
  rw [Around.under_plainId F.plain_min_loop _]
  show wpAny _ A.in1 (seqItems? (.ref S) >>= _) _ _ s
  refine wpAny_bind (wpAny_seqItems hS rfl ?_)
  show wpAny _ A.in1 (tryCatch (pyNext (.ref I)) _ >>= _) _ _ s
  refine wpAny_bind (wpAny_tryCatch (W.item (j + 1) s _ _ (by omega) st fun x h1 t1 hx st1 k1=>?_))
  have hS1:=k1 S _ nw hS
  have kg1:∀ b o,b ∉ S :: wr->g.get? b = some o->h1.get? b = some o:=fun b o hn e=>k1 b o (fun m=>hn (List.mem_cons_of_mem _ m)) (kg b o hn e)
  show wpAny _ A.in1 (tryCatch (holding [x,x] (richCompare .Lt x best >>= _)) _ >>= _) _ _ _
  refine wpAny_bind (wpAny_tryCatch (wpAny_holding (wpAny_bind (cm (j + 1) (argBest bt j) x best _ _ _ kg1 hx hb (wpAny_bind (wpAny_holding (wpAny_truthy_bool (wpAny_bind (wpAny_letGo (wpAny_pure ?_)))))))))) 
  cases ht:bt (j + 1) (argBest bt j) with
  | true =>
   simp only [if_true]
   refine wpAny_bind (wpAny_updateSeq hS1 rfl (wpAny_bind (wpAny_letGo ?_)))
   rw [nm]
   have keep:∀ b o,b ∉ S :: wr->s.heap.get? b = some o->(h1.update S (Obj.mapSeq fun _=>#[x,x])).get? b = some o:=fun b o hn e=>by
    rw [List.mem_cons,not_or] at hn
    exact (Heap.get?_update_other _ _ (Ne.symm hn.1)).trans (k1 b o hn.2 e)
   refine wpAny_pure ⟨plainId_quiet F.plain_min_loop _,ih (j + 1) _ x _ (by omega) (fun b o hn e=>keep b o hn (kg b o hn e)) (W.frame _ _ _ st1 fun b m o e=>?_) (by simp only [argBest,ht,if_true]; exact hx) (Heap.get?_update_self _ hS1 rfl) fun v h2 t2 hv k2=>fin v h2 t2 hv fun b o hn e=>k2 b o hn (keep b o hn e)⟩
   exact (Heap.get?_update_other _ _ (fun z:S = b=>nS (by rw [z]; exact m))).trans e
  | false =>
   simp only [Bool.false_eq_true,if_false]
   refine wpAny_bind (wpAny_letGo ?_)
   rw [nm]
   exact wpAny_pure ⟨plainId_quiet F.plain_min_loop _,ih (j + 1) _ best c (by omega) kg1 st1 (by simp only [argBest,ht,Bool.false_eq_true,if_false]; exact hb) hS1 fun v h2 t2 hv k2=>fin v h2 t2 hv fun b o hn e=>k2 b o hn (k1 b o (fun m=>hn (List.mem_cons_of_mem _ m)) e)⟩
theorem zlZ (W:Walks prog w A.in1 I fp wr n P St) (bt:Nat->Nat->Bool) (S:Addr) (nS:S ∉ fp) (hn:0 < n) {s:Shared} {c:Nat} (cm:CmpH prog w A.in1 s.heap (S :: wr) P bt) (st:St 0 s.heap) (hS:s.heap.get? S = some { cls:=.type "list",dict:=none,data:=.seq #[] c,slots:=#[] })
  (fin:∀ v h' tk,P (argBest bt (n - 1)) v->(∀ b o,b ∉ S :: wr->s.heap.get? b = some o->h'.get? b = some o)->R (.ok (.ret v)) { s with heap:=h',toks:=tk }):codeAny (model prog w) A (.builtin "min.loop" ⟨[.ref I,.none,.ref S],[]⟩) R s:=by
 have nw:S ∉ wr:=fun m=>nS (W.sub _ m)
 have nm:(toString "min" ++ toString ".loop":String) = "min.loop":=by decide
 refine codeAny_builtin F.entry_min_loop ?_
 rw [Around.under_plainId F.plain_min_loop _]
 show wpAny _ A.in1 (seqItems? (.ref S) >>= _) _ _ s
 refine wpAny_bind (wpAny_seqItems hS rfl ?_)
 show wpAny _ A.in1 (tryCatch (pyNext (.ref I)) _ >>= _) _ _ s
 refine wpAny_bind (wpAny_tryCatch (W.item 0 s _ _ hn st fun x h1 t1 hx st1 k1=>?_))
 have hS1:=k1 S _ nw hS
 show wpAny _ A.in1 (updateSeq S (fun _=>#[x,x]) >>= _) _ _ _
 refine wpAny_bind (wpAny_updateSeq hS1 rfl ?_)
 rw [nm]
 have keep:∀ b o,b ∉ S :: wr->s.heap.get? b = some o->(h1.update S (Obj.mapSeq fun _=>#[x,x])).get? b = some o:=fun b o hn e=>by
  rw [List.mem_cons,not_or] at hn
  exact (Heap.get?_update_other _ _ (Ne.symm hn.1)).trans (k1 b o hn.2 e)
 refine wpAny_pure ⟨plainId_quiet F.plain_min_loop _,znk W bt S cm nS (n - 1) 0 _ x _ (by omega) keep (W.frame _ _ _ st1 fun b m o e=>?_) hx (Heap.get?_update_self _ hS1 rfl) fun v h2 t2 hv k2=>fin v h2 t2 hv fun b o hn e=>k2 b o hn (keep b o hn e)⟩
 exact (Heap.get?_update_other _ _ (fun z:S = b=>nS (by rw [z]; exact m))).trans e
end
section
variable {prog:Program} {w:World} {A:Around} {E:Value->Shared->Prop} {s:Shared}
theorem zmr {l:Addr} {its:Array Value} {Q:Value->Shared->Prop} (hh:A.handled = none) (hl:s.heap.IsList l its) (hne:0 < its.size) (bt:Nat->Nat->Bool)
  (cm:∀ i j x y (s':Shared) (Q:Value->Shared->Prop) (E:Value->Shared->Prop),(∀ b o,s.heap.get? b = some o->s'.heap.get? b = some o)->its[i]? = some x->its[j]? = some y->Q (.bool (bt i j)) s'->wpAny (model prog w) A.in1 (richCompare .Lt x y) Q E s')
  (fin:∀ v h' tk,its[argBest bt (its.size - 1)]? = some v->(∀ b o,s.heap.get? b = some o->h'.get? b = some o)->Q v { s with heap:=h',toks:=tk }):wpAny (model prog w) A (call (.builtin "min") [.ref l]) Q E s:=by
 have nm:(toString "min" ++ toString ".loop":String) = "min.loop":=by decide
 have lt:l < s.heap.objs.size:=by obtain ⟨o,e,_⟩:=hl; exact Heap.lt_size e
 refine call_function_tree F.kind_min F.plain_min F.entry_min (F.args_min1 _) ?_
 show wpAny _ A.in1 (Builtin.Builtins.bindParams "min" ["key","default"] 0 ⟨[],[]⟩ >>= _) _ _ s
 refine wpAny_bind (wpAny_of_eq (show Builtin.Builtins.bindParams "min" ["key","default"] 0 ⟨[],[]⟩ = pure [none,none] from rfl) (wpAny_bind (wpAny_pure (wpAny_bind (wpAny_pyIter_list hl ?_)))))
 refine wpAny_bind (wpAny_newObj_type ?_)
 rw [nm]
 have z1:(s.heap.push { cls:=.type "list_iterator",data:=.fields #[.ref l,.int 0 0] }).objs.size = s.heap.objs.size + 1:=Heap.size_push ..
 have nS:(s.heap.push { cls:=.type "list_iterator",data:=.fields #[.ref l,.int 0 0] }).objs.size ∉ [s.heap.objs.size,l]:=by
  rw [z1]
  simp only [List.mem_cons,List.not_mem_nil,or_false,not_or]
  exact ⟨Nat.succ_ne_self _,Nat.ne_of_gt (Nat.lt_succ_of_lt lt)⟩
 have up:∀ b o,s.heap.get? b = some o->((s.heap.push { cls:=.type "list_iterator",data:=.fields #[.ref l,.int 0 0] }).push { cls:=.type "list",data:=.seq #[] }).get? b = some o:=fun b o e=>Heap.get?_push_of_some _ (Heap.get?_push_of_some _ e)
 have old:∀ b o,s.heap.get? b = some o->b ∉ (s.heap.push { cls:=.type "list_iterator",data:=.fields #[.ref l,.int 0 0] }).objs.size :: [s.heap.objs.size]:=fun b o e=>by
  rw [z1]
  simp only [List.mem_cons,List.not_mem_nil,or_false,not_or]
  have:=Heap.lt_size e
  exact ⟨Nat.ne_of_lt (Nat.lt_succ_of_lt this),Nat.ne_of_lt this⟩
 refine wpAny_pure ⟨plainId_quiet F.plain_min_loop _,zlZ (Walks.list (A:=A.in1) hh _ l (Nat.ne_of_lt lt) its) bt _ nS hne (fun i j x y s' Q' E' k hi hj q=>cm i j x y s' Q' E' (fun b o e=>k b o (old b o e) (up b o e)) hi hj q) ?_ (Heap.get?_push_size _ rfl) fun v h' tk hv k=>fin v h' tk hv fun b o e=>k b o (old b o e) (up b o e)⟩
 exact ⟨⟨_,Heap.get?_push_of_some _ (Heap.get?_push_size _ rfl),rfl,rfl⟩,(hl.push _).push _⟩
end
def zts (K:W.Frag):List V->Hp->VK->Prop:=fun xs H Q=>∃ (p:Addr) (vs:List V) (nss:List (List Int)),xs = [.ref p]/\SqL K H p vs/\vs ≠ []/\Paired (fun (v:V) (ns:List Int)=>∃ a,v = .ref a/\H a = some (.tup (ns.map V.int))) vs nss /\
 ∀ (i:Nat) v ns,vs[i]? = some v->nss[i]? = some ns->(∀ ms ∈ nss,HT.lexLt ms ns = false)->Q v H
theorem zgp {ns:Nat->List Int} (tr:∀ a b c:List Int,HT.lexLt a b = false->HT.lexLt b c = false->HT.lexLt a c = false) (as:∀ a b:List Int,HT.lexLt a b = true->HT.lexLt b a = false):∀ k,argBest (fun i j=>HT.lexLt (ns i) (ns j)) k <= k/\∀ j,j <= k->HT.lexLt (ns j) (ns (argBest (fun i j=>HT.lexLt (ns i) (ns j)) k)) = false
 | 0=>⟨Nat.le_refl _,fun j hj=>by
   have:j = 0:=by omega
   subst this
   show HT.lexLt (ns 0) (ns 0) = false
   cases h:HT.lexLt (ns 0) (ns 0) with
   | false=>rfl
   | true=>have:=as _ _ h; rw [h] at this; cases this⟩
 | k + 1=>by
  obtain ⟨h1,h2⟩:=zgp tr as (ns:=ns) k
  simp only [argBest]
  by_cases hb:HT.lexLt (ns (k + 1)) (ns (argBest (fun i j=>HT.lexLt (ns i) (ns j)) k)) = true
  ·rw [if_pos hb]
   refine ⟨Nat.le_refl _,fun j hj=>?_⟩
   by_cases e:j = k + 1
   ·subst e
    cases h:HT.lexLt (ns (k + 1)) (ns (k + 1)) with
    | false=>rfl
    | true=>have:=as _ _ h; rw [h] at this; cases this
   ·exact tr _ _ _ (h2 j (by omega)) (as _ _ hb)
  ·rw [if_neg hb]
   refine ⟨by omega,fun j hj=>?_⟩
   by_cases e:j = k + 1
   ·subst e; exact Bool.eq_false_iff.mpr hb
   ·exact h2 j (by omega)
theorem zkY:∀ a b:List Int,HT.lexLt a b = true->HT.lexLt b a = false
 | [],[],h=>by cases h
 | [],y :: ys,_=>rfl
 | x :: xs,[],h=>by cases h
 | x :: xs,y :: ys,h=>by
  rw [HT.lexLt_cons] at h ⊢
  by_cases e:x = y
  ·subst e
   rw [if_pos rfl] at h ⊢
   exact zkY xs ys h
  ·rw [if_neg e] at h
   rw [if_neg (Ne.symm e)]
   simp only [decide_eq_true_eq] at h
   simp only [decide_eq_false_iff_not]
   omega
theorem zhl:∀ a b c:List Int,HT.lexLt a b = false->HT.lexLt b c = false->HT.lexLt a c = false
 | _,_,[],_,_=>by rename_i a b _ _; cases a <;> rfl
 | [],[],z :: zs,_,h=>by cases h
 | [],y :: ys,z :: zs,h,_=>by cases h
 | x :: xs,[],z :: zs,_,h=>by cases h
 | x :: xs,y :: ys,z :: zs,h,k=>by
  rw [HT.lexLt_cons] at h k ⊢
  by_cases e:x = y
  ·subst e
   rw [if_pos rfl] at h
   by_cases e2:x = z
   ·subst e2
    rw [if_pos rfl] at k ⊢
    exact zhl xs ys zs h k
   ·rw [if_neg e2] at k ⊢
    exact k
  ·rw [if_neg e] at h
   by_cases e2:y = z
   ·subst e2
    rw [if_neg e]
    exact h
   ·rw [if_neg e2] at k
    simp only [decide_eq_false_iff_not] at h k
    rw [if_neg (by omega)]
    simp only [decide_eq_false_iff_not]
    omega
theorem zms {X:Cx} (hc:X.calm = true) (hu:X.A.units + 64 < cLine):CallR X (.builtin "min") (zts X.K):=by
 intro zk s σ H xs us Q I r h
 obtain ⟨p,vs,nss,rfl,hq,hne,pr,q⟩:=h
 obtain ⟨u,rfl,rx⟩:=vals1 r
 cases (show u = Value.ref p from rx)
 obtain ⟨its,rv,pl,_⟩:=I.list hq
 have hl:=rv.length
 have hl2:=Paired.length pr
 have hsz:0 < its.toArray.size:=by
  rw [List.size_toArray,<- hl]
  exact List.length_pos_iff.mpr hne
 have at_:∀ (i:Nat) x,its.toArray[i]? = some x->∃ (v:V) (ns:List Int),vs[i]? = some v/\nss[i]? = some ns/\RelV v x/\∃ a,v = .ref a/\H a = some (.tup (ns.map V.int)):=fun i x hx=>by
  have hi:i < its.length:=by
   have:=(Array.getElem?_eq_some_iff.mp hx).1
   simpa using this
  have e1:vs[i]? = some vs[i]:=List.getElem?_eq_getElem (by omega)
  have e2:nss[i]? = some nss[i]:=List.getElem?_eq_getElem (by omega)
  obtain ⟨x',hx',rr⟩:=rv.get e1
  have:x = x':=by
   have h2:its[i]? = some x:=by simpa using hx
   rw [hx'] at h2
   exact (Option.some.inj h2).symm
  subst this
  have pg:∀ {a:List V} {b:List (List Int)} {i:Nat} {v:V} {ns:List Int},Paired (fun (v:V) (ns:List Int)=>∃ a,v = .ref a/\H a = some (.tup (ns.map V.int))) a b->a[i]? = some v->b[i]? = some ns->∃ a,v = .ref a/\H a = some (.tup (ns.map V.int)):=by
   intro a b i v ns pq
   induction pq generalizing i with
   | nil=>intro h; simp at h
   | cons r0 _ ih =>
    cases i with
    | zero =>
     intro h1 h2
     rw [List.getElem?_cons_zero] at h1 h2
     cases h1
     cases h2
     exact r0
    | succ i =>
     intro h1 h2
     rw [List.getElem?_cons_succ] at h1 h2
     exact ih h1 h2
  exact ⟨_,_,e1,e2,rr,pg pr e1 e2⟩
 refine zmr (I.ok.hd hc) pl.isList hsz (fun i j=>HT.lexLt (nss.getD i []) (nss.getD j [])) (fun i j x y s' Q' E' k hx hy q'=>?_) fun v h' tk hv k=>?_
 ·obtain ⟨v1,n1,_,f1,r1,a1,rfl,e1⟩:=at_ i x hx
  obtain ⟨v2,n2,_,f2,r2,a2,rfl,e2⟩:=at_ j y hy
  cases r1
  cases r2
  obtain ⟨_,is1,w1,t1⟩:=(show ObjOk X.prog X.w H s.heap a1 (.tup (n1.map V.int)) from I.hok a1 _ e1)
  obtain ⟨_,is2,w2,t2⟩:=(show ObjOk X.prog X.w H s.heap a2 (.tup (n2.map V.int)) from I.hok a2 _ e2)
  have g1:nss.getD i [] = n1:=by rw [List.getD_eq_getElem?_getD,f1]; rfl
  have g2:nss.getD j [] = n2:=by rw [List.getD_eq_getElem?_getD,f2]; rfl
  rw [g1,g2] at q'
  obtain ⟨o1,b1,c1⟩:=t1
  obtain ⟨o2,b2,c2⟩:=t2
  exact HT.lt_tupInts ⟨o1,k _ _ b1,c1⟩ ⟨o2,k _ _ b2,c2⟩ (zbM w1) (zbM w2) (by show X.A.units + 1 < cLine; omega) q'
 ·obtain ⟨v1,n1,e1,f1,r1,_⟩:=at_ _ v hv
  obtain ⟨_,h2⟩:=zgp (ns:=fun i=>nss.getD i []) zhl zkY (its.toArray.size - 1)
  refine ⟨v1,H,I.kept (t':=tk) k,r1,q _ v1 n1 e1 f1 fun ms hm=>?_⟩
  obtain ⟨j,hj⟩:=List.mem_iff_getElem?.mp hm
  have hjl:=(List.getElem?_eq_some_iff.mp hj).1
  have:=h2 j (by rw [List.size_toArray]; omega)
  rw [show nss.getD j [] = ms by rw [List.getD_eq_getElem?_getD,hj]; rfl] at this
  rw [show nss.getD (argBest (fun i j=>HT.lexLt (nss.getD i []) (nss.getD j [])) (its.toArray.size - 1)) [] = n1 by rw [List.getD_eq_getElem?_getD,f1]; rfl] at this
  exact this
def zuX (K:W.Frag):List V->Hp->VK->Prop:=fun xs H Q=>zvg K xs H Q\/zts K xs H Q
theorem zjj {X:Cx} (hc:X.calm = true) (hu:X.A.units + 64 < cLine):CallR X (.builtin "min") (zuX X.K):=(zm2 hc).or (zms hc hu)
def zo7 (ns:List Int):PyData:=.tuple (ns.map PyData.int)
def zlX:List XV->Sto->RX->Prop:=fun xs S R=>zvZ xs S R\/arg1 xs fun x=>∃ ds,zgP S x = some ds/\∃ nss:List (List Int),ds = nss.map zo7/\nss ≠ []/\∀ m,m ∈ nss->(∀ a,a ∈ nss->HT.lexLt a m = false)->R (.d (zo7 m)) S
theorem zm6 {K:W.Frag}:RC (zuX K) zlX:=fun h o H S xs vs R Q hs hx q c=>by
 rcases q with q | q
 ·exact .inl (zsR h o H S xs vs R Q hs hx q c)
 ·obtain ⟨x,rfl,ds,hd,nss,rfl,hn,q1⟩:=za3 q
  obtain ⟨v,rfl,hx1⟩:=hxs1 hx
  obtain ⟨a,ws,rfl,ea,l⟩:=zbr hs hd hx1
  have hl:=l.length
  refine .inr ⟨a,ws,nss,rfl,.of ea,fun z=>hn ?_,?_,fun i v ns e1 e2 hm=>?_⟩
  ·subst z
   rw [List.length_map] at hl
   exact List.eq_nil_of_length_eq_zero hl.symm
  ·have go:∀ {nss:List (List Int)} {ws:List V},HasL (vx h o H) (nss.map zo7) ws->Paired (fun (v:V) (ns:List Int)=>∃ a,v = .ref a/\H a = some (.tup (ns.map V.int))) ws nss:=by
    intro nss
    induction nss with
    | nil=>intro ws l; rw [zV.mp l]; exact .nil
    | cons n nss ih =>
     intro ws l
     obtain ⟨v,r,rfl,h1,l2⟩:=zI.mp l
     obtain ⟨b,us,rfl,eb,lb⟩:=za7.mp h1
     rw [zcL lb] at eb
     exact .cons ⟨b,rfl,zaj _ _ eb⟩ (ih l2)
   exact go l
  ·obtain ⟨v',ev,hv⟩:=l.get (show (nss.map zo7)[i]? = some (zo7 ns) by rw [List.getElem?_map,e2]; rfl)
   rw [e1] at ev
   cases ev
   exact c o H S (.d (zo7 ns)) v Ex.refl hs hv (q1 ns (List.mem_of_getElem? e2) hm)
def zvG:List XV->Sto->RX->Prop:=fun xs S R=>arg1 xs fun x=>asI x fun i=>i.natAbs.log2 < 1920/\R (.d (.str (toString i))) S
theorem zrS:RE (ztQ zn4) (dC (.dict [])):=fun h o H δ σ S R Q he hs q c p hp=>⟨p,[],rfl,zN,fun ob=>by
 have e:upd (upd H p (.dK [])) p (.frz ob (.dK [])) = upd H p (.frz ob (.dK [])):=zfh
 rw [e]
 refine c o _ S (.d (.dict [])) _ (Ex.of_same (Same.laid hp)) (hs.same (Same.laid hp)) ?_ q
 show Has _ _ _
 simp only [Has]
 exact ⟨p,[],rfl,⟨ob,[],hs.laid hp,rfl,rfl⟩,zkV.mpr rfl⟩⟩
section
variable {S:Sto} {P:Sto->List PyData->Prop} {a b c d:List PyData} {x:List PyData}
theorem zfe {S0:Sto}:(∃ T ds,S0 ++ [x] = T ++ [ds]/\P T ds) ↔ P S0 x:=by
 constructor
 ·rintro ⟨T,ds,e,q⟩
  obtain ⟨rfl,e2⟩:=List.append_inj' e rfl
  cases e2
  exact q
 ·exact fun q=>⟨S0,x,rfl,q⟩
theorem zkg:(∃ T ds,[a] = T ++ [ds]/\P T ds) ↔ P [] a:=zfe (S0:=[])
theorem zk5:(∃ T ds,[a,b] = T ++ [ds]/\P T ds) ↔ P [a] b:=zfe (S0:=[a])
theorem zkm:(∃ T ds,[a,b,c] = T ++ [ds]/\P T ds) ↔ P [a,b] c:=zfe (S0:=[a,b])
theorem zkf:(∃ T ds,[a,b,c,d] = T ++ [ds]/\P T ds) ↔ P [a,b,c] d:=zfe (S0:=[a,b,c])
end
section
variable {n k:Nat} {ds:List PyData} {d:PyData} {v:V}
theorem ztA:frz n ds none = none:=rfl
theorem zsJ:frz n ds (some (.d d)) = some (.d d):=rfl
theorem zut:frz n ds (some (.o v)) = some (.o v):=rfl
theorem zs4:frz n ds (some (.l k)) = if k = n then some (.d (.list ds)) else some (.l k):=rfl
end
section
variable {α:Type} {n:Nat} {g:DG} {tt:DT} {te:DE} {fin:Sto->Prop} {S0:Sto} {caps:XE}
theorem zqG {h:α->PyData} {f:α->PyData} (P:XE->Prop) (hn:S0.length = n) (l:List α) (τ:XE) (hP:P τ) (hl:l.length <= 1000)
  (el:∀ x ∈ l,∀ τ acc (R:XE->RX),P τ->(∀ τ',P τ'->R τ' (.d (f x)) (S0 ++ [acc]))->g (.d (h x)) τ (S0 ++ [acc]) fun τ1 S1=>te τ1 S1 (R τ1)) (hf:fin (S0 ++ [l.map f])):zff n g zaJ te fin (l.map h) τ (S0 ++ [[]]):=by
 have go:∀ (l:List α) (acc:List PyData) (τ:XE),P τ->acc.length + l.length <= 1000->(∀ x ∈ l,∀ τ acc (R:XE->RX),P τ->(∀ τ',P τ'->R τ' (.d (f x)) (S0 ++ [acc]))->g (.d (h x)) τ (S0 ++ [acc]) fun τ1 S1=>te τ1 S1 (R τ1)) ->
   fin (S0 ++ [acc ++ l.map f])->zff n g zaJ te fin (l.map h) τ (S0 ++ [acc]):=by
  intro l
  induction l with
  | nil=>intro acc τ _ _ _ h; rw [List.map_nil,List.append_nil] at h; exact h
  | cons x l ih =>
   intro acc τ hP hl el hh
   show g (.d (h x)) τ (S0 ++ [acc]) fun τ1 S1=>zaJ τ1 S1 fun b S2=>if b = true then te τ1 S2 fun x S3=>asD x fun e=>∃ acc,S3[n]? = some acc/\acc.length < 1000/\zff n g zaJ te fin (l.map h) τ1 (S3.set n (acc ++ [e])) else zff n g zaJ te fin (l.map h) τ1 S2
   simp only [zaJ,↓reduceIte]
   rw [List.length_cons] at hl
   refine el x List.mem_cons_self τ acc (fun τ1 x S3=>asD x fun e=>∃ acc,S3[n]? = some acc/\acc.length < 1000/\zff n g zaJ te fin (l.map h) τ1 (S3.set n (acc ++ [e]))) hP fun τ' hP'=>?_
   refine ⟨acc,by rw [<- hn,List.getElem?_concat_length],by omega,?_⟩
   rw [zhz hn]
   refine ih (acc ++ [f x]) τ' hP' (by rw [List.length_append,List.length_singleton]; omega) (fun e m=>el e (List.mem_cons_of_mem _ m)) ?_
   rw [List.append_assoc]
   exact hh
 exact go l [] τ hP (by simpa using hl) el (by simpa using hf)
theorem cmp1 {h:α->PyData} (f:α->PyData) (hn:S0.length = n) (l:List α) {u:Option XV} (hl:l.length <= 1000)
  (el:∀ x ∈ l,∀ (u:Option XV) acc (R:XE->RX),(∀ u',R (u' :: caps) (.d (f x)) (S0 ++ [acc]))->g (.d (h x)) (u :: caps) (S0 ++ [acc]) fun τ1 S1=>te τ1 S1 (R τ1)) (hf:fin (S0 ++ [l.map f])):zff n g zaJ te fin (l.map h) (u :: caps) (S0 ++ [[]]) :=
 zqG (fun τ=>∃ u,τ = u :: caps) hn l _ ⟨u,rfl⟩ hl (fun x m τ acc R ⟨u,e⟩ k=>by subst e; exact el x m u acc R fun u'=>k _ ⟨u',rfl⟩) hf
theorem cmp2 {h:α->PyData} (f:α->PyData) (hn:S0.length = n) (l:List α) {u v:Option XV} (hl:l.length <= 1000)
  (el:∀ x ∈ l,∀ (u v:Option XV) acc (R:XE->RX),(∀ u' v',R (u' :: v' :: caps) (.d (f x)) (S0 ++ [acc]))->g (.d (h x)) (u :: v :: caps) (S0 ++ [acc]) fun τ1 S1=>te τ1 S1 (R τ1)) (hf:fin (S0 ++ [l.map f])):zff n g zaJ te fin (l.map h) (u :: v :: caps) (S0 ++ [[]]) :=
 zqG (fun τ=>∃ u v,τ = u :: v :: caps) hn l _ ⟨u,v,rfl⟩ hl (fun x m τ acc R ⟨u,v,e⟩ k=>by subst e; exact el x m u v acc R fun u' v'=>k _ ⟨u',v',rfl⟩) hf
theorem zqj {h:α->PyData} {f:α->PyData} {p:α->Bool} (P:XE->Prop) (hn:S0.length = n) (l:List α) (τ:XE) (hP:P τ) (hl:l.length <= 1000)
  (el:∀ x ∈ l,∀ τ acc (R:XE->Bool->Sto->Prop),P τ->(∀ τ',P τ'->(p x = true->∀ T:RX,T (.d (f x)) (S0 ++ [acc])->te τ' (S0 ++ [acc]) T)->R τ' (p x) (S0 ++ [acc]))->g (.d (h x)) τ (S0 ++ [acc]) fun τ1 S1=>tt τ1 S1 (R τ1))
  (hf:fin (S0 ++ [(l.filter p).map f])):zff n g tt te fin (l.map h) τ (S0 ++ [[]]):=by
 have go:∀ (l:List α) (acc:List PyData) (τ:XE),P τ->acc.length + l.length <= 1000->(∀ x ∈ l,∀ τ acc (R:XE->Bool->Sto->Prop),P τ->(∀ τ',P τ'->(p x = true->∀ T:RX,T (.d (f x)) (S0 ++ [acc])->te τ' (S0 ++ [acc]) T)->R τ' (p x) (S0 ++ [acc]))->g (.d (h x)) τ (S0 ++ [acc]) fun τ1 S1=>tt τ1 S1 (R τ1)) ->
   fin (S0 ++ [acc ++ (l.filter p).map f])->zff n g tt te fin (l.map h) τ (S0 ++ [acc]):=by
  intro l
  induction l with
  | nil=>intro acc τ _ _ _ h; rw [List.filter_nil,List.map_nil,List.append_nil] at h; exact h
  | cons x l ih =>
   intro acc τ hP hl el hh
   show g (.d (h x)) τ (S0 ++ [acc]) fun τ1 S1=>tt τ1 S1 fun b S2=>if b = true then te τ1 S2 fun x S3=>asD x fun e=>∃ acc,S3[n]? = some acc/\acc.length < 1000/\zff n g tt te fin (l.map h) τ1 (S3.set n (acc ++ [e])) else zff n g tt te fin (l.map h) τ1 S2
   rw [List.length_cons] at hl
   refine el x List.mem_cons_self τ acc (fun τ1 b S2=>if b = true then te τ1 S2 fun x S3=>asD x fun e=>∃ acc,S3[n]? = some acc/\acc.length < 1000/\zff n g tt te fin (l.map h) τ1 (S3.set n (acc ++ [e])) else zff n g tt te fin (l.map h) τ1 S2) hP fun τ' hP' ev=>?_
   cases hp:p x with
   | false =>
    rw [List.filter_cons_of_neg (by rw [hp]; exact Bool.false_ne_true)] at hh
    exact zq1 (ih acc τ' hP' (by omega) (fun e m=>el e (List.mem_cons_of_mem _ m)) hh)
   | true =>
    rw [List.filter_cons_of_pos hp,List.map_cons] at hh
    refine zqi (ev hp _ ⟨acc,by rw [<- hn,List.getElem?_concat_length],by omega,?_⟩)
    rw [zhz hn]
    exact ih (acc ++ [f x]) τ' hP' (by rw [List.length_append,List.length_singleton]; omega) (fun e m=>el e (List.mem_cons_of_mem _ m)) (by rw [List.append_assoc]; exact hh)
 exact go l [] τ hP (by simpa using hl) el (by simpa using hf)
theorem cmf1 {h:α->PyData} (f:α->PyData) (p:α->Bool) (hn:S0.length = n) (l:List α) {u:Option XV} (hl:l.length <= 1000)
  (el:∀ x ∈ l,∀ (u:Option XV) acc (R:XE->Bool->Sto->Prop),(∀ u',(p x = true->∀ T:RX,T (.d (f x)) (S0 ++ [acc])->te (u' :: caps) (S0 ++ [acc]) T)->R (u' :: caps) (p x) (S0 ++ [acc]))->g (.d (h x)) (u :: caps) (S0 ++ [acc]) fun τ1 S1=>tt τ1 S1 (R τ1)) (hf:fin (S0 ++ [(l.filter p).map f])):zff n g tt te fin (l.map h) (u :: caps) (S0 ++ [[]]) :=
 zqj (fun τ=>∃ u,τ = u :: caps) hn l _ ⟨u,rfl⟩ hl (fun x m τ acc R ⟨u,e⟩ k=>by subst e; exact el x m u acc R fun u' hh=>k _ ⟨u',rfl⟩ hh) hf
theorem cmf2 {h:α->PyData} (f:α->PyData) (p:α->Bool) (hn:S0.length = n) (l:List α) {u v:Option XV} (hl:l.length <= 1000)
  (el:∀ x ∈ l,∀ (u v:Option XV) acc (R:XE->Bool->Sto->Prop),(∀ u' v',(p x = true->∀ T:RX,T (.d (f x)) (S0 ++ [acc])->te (u' :: v' :: caps) (S0 ++ [acc]) T)->R (u' :: v' :: caps) (p x) (S0 ++ [acc]))->g (.d (h x)) (u :: v :: caps) (S0 ++ [acc]) fun τ1 S1=>tt τ1 S1 (R τ1)) (hf:fin (S0 ++ [(l.filter p).map f])):zff n g tt te fin (l.map h) (u :: v :: caps) (S0 ++ [[]]) :=
 zqj (fun τ=>∃ u v,τ = u :: v :: caps) hn l _ ⟨u,v,rfl⟩ hl (fun x m τ acc R ⟨u,v,e⟩ k=>by subst e; exact el x m u v acc R fun u' v' hh=>k _ ⟨u',v',rfl⟩ hh) hf
end
end
section
def zro (x:XV) (S:Sto) (R:RX):Prop:=match x with
 | .d (.list ds)=>R (.d (.list ds.reverse)) S
 | .l k=>∃ ds,S[k]? = some ds/\R (.d (.list ds.reverse)) S
 | _=>False
def zvH (e k:DE):DE:=fun δ S R=>e δ S fun x S1=>k δ S1 fun y S2=>y = .d (.int (-1))/\zro x S2 R
section
variable {S:Sto} {R:RX} {ds:List PyData} {k:Nat}
theorem znN:zro (.d (.list ds)) S R = R (.d (.list ds.reverse)) S:=rfl
theorem zmp:zro (.l k) S R = ∃ ds,S[k]? = some ds/\R (.d (.list ds.reverse)) S:=rfl
end
end
section
def zvI:D2:=fun x y S R=>asT x fun ds=>asT y fun es=>∃ ns,ds = ns.map PyData.int/\∃ ms,es = ms.map PyData.int/\R (.d (.bool (HT.lexLt ms ns))) S
end
section
def arg3 (xs:List XV) (k:XV->XV->XV->Prop):Prop:=∃ x y z,xs = [x,y,z]/\k x y z
theorem zq0 {x y z:XV} {k:XV->XV->XV->Prop}:arg3 [x,y,z] k = k x y z:=propext ⟨fun ⟨_,_,_,e,q⟩=>by cases e; exact q,fun q=>⟨_,_,_,rfl,q⟩⟩
def zuL:List XV->Sto->RX->Prop:=fun xs S R=>arg3 xs fun x y z=>asI x fun i=>asI y fun j=>asI z fun k=>R (.d (.int (min (min i j) k))) S
end
section
@[irreducible] def QSs (X:Cx) (st:List Stmt) (t:TS):Prop:=PSs X st t
theorem QSs.out {X:Cx} {st:List Stmt} {t:TS} (h:QSs X st t):PSs X st t:=by unfold QSs at h; exact h
@[irreducible] def QA (X:Cx) (es:List Expr) (t:TA):Prop:=PA X es t
theorem QA.out {X:Cx} {es:List Expr} {t:TA} (h:QA X es t):PA X es t:=by unfold QA at h; exact h
theorem QA.mk {X:Cx} {es:List Expr} {t:TA} (h:PA X es t):QA X es t:=by unfold QA; exact h
theorem zfr {X:Cx}:QA X [] zsu:=QA.mk zg
theorem zE {X:Cx} {e:Expr} {es:List Expr} {te:TE} {t:TA} (ha:PE X e te) (hr:QA X es t) (hs:starEach (e :: es) X.env = (false,eval e X.env) :: starEach es X.env:=by rfl):QA X (e :: es) (zl2 te t):=QA.mk (zc ha hr.out hs)
theorem zdU {X:Cx} {es:List Expr} {t:TA} {pos:Pos} (h:QA X es t):PE X (.List es pos) (zss t):=zaG h.out
@[irreducible] def QS (X:Cx) (st:Stmt) (t:TS):Prop:=PS X st t
theorem QS.out {X:Cx} {st:Stmt} {t:TS} (h:QS X st t):PS X st t:=by unfold QS at h; exact h
end
section
def zuH:Str->DE:=fun out _ S R=>out.length <= sizeLine/\R (.d (.str out)) S
def zrb (d:DE) (t:Str->DE):Str->DE:=fun out δ S R=>d δ S fun x S1=>asS x fun y=>(out ++ y).length <= sizeLine/\t (out ++ y) δ S1 R
def zs5 (t:Str->DE):DE:=t Str.empty
def ztk (d:DE):DE:=fun δ S R=>d δ S fun x S1=>asS x fun z=>z.length <= sizeLine/\R (.d (.str z)) S1
def ztt (d:DE):DE:=fun δ S R=>d δ S fun x S1=>asI x fun i=>i.natAbs.log2 < 1920/\R (.d (.str (toString i))) S1
def zvJ:D2:=fun x y S R=>asS x fun i=>asS y fun j=>R (.d (.bool (!decide (i = j)))) S
end
section
def zsK (a:DA):DE:=fun δ S R=>a δ S fun xs S1=>arg2 xs fun x y=>asI x fun i=>asI y fun j=>(j - i).toNat <= 1000/\R (.d (.list (zhE i (j - i).toNat))) S1
end
section
def zwk (a:DE) (b:DA):DE:=fun δ S R=>a δ S fun x S1=>b δ S1 fun ys S2=>asI x fun i=>arg1 ys fun y=>asI y fun n=>R (.d (.bool (decide (0 <= i/\i < n)))) S2
end
end L2
namespace HT
open PySem PyProof.Rows
section
variable {prog:Program} {w:World} {A:Around} {E:Value->Shared->Prop} {s:Shared}
theorem tup_whole {t sl:Addr} {items:Array Value} {vl vu:Value} {lo hi:Option Int} {Q:Value->Shared->Prop} (ht:IsTup s.heap t items) (hs:s.heap.IsSliceOf sl vl vu .none) (pl:IsPart vl lo) (pu:IsPart vu hi)
  (hw:sIx items.size 0 lo = 0/\sIx items.size items.size hi = items.size) (h:Q (.ref t) s):wpAny (model prog w) A (getItem (.ref t) (.ref sl)) Q E s:=by
 obtain ⟨os,hos,hcs,hds⟩:=id hs
 have hTs:s.TypeIs (.ref sl) "slice":=⟨os,hos,hcs⟩
 unfold getItem
 try with_reducible refine wpAny_holding ?_
 first | refine wpAny_bind (wpAny_pure ?_) | skip
 refine wpAny_bind (wpAny_sequenceKey ht.typeIs (by decide) ?_)
 refine wpAny_bind (wpAny_callSpecial?_slot (name:=Str.ofString "__getitem__") ht.typeIs PyProof.Rows.slot_tuple_getitem
  (wpAny_call_entry PyProof.Rows.slot_tuple_getitem ht.typeIs entry_tuple_getitem ?_ (args_tuple_getitem _ _)))
 show wpAny _ _ (Builtin.Tuple.tupleItemsOf (.ref t) >>= _) _ _ s
 refine wpAny_bind (tupleItemsOf_ ht (wpAny_bind (wpAny_typeOf hTs ?_)))
 rw [if_pos (by decide)]
 refine wpAny_bind (zdo hs pl pu ?_)
 rw [hw.1,hw.2]
 show wpAny _ _ (if (((0:Nat):Int) == 0 && (1:Int) == 1 && (items.size - 0) == items.size) = true then _ else _) _ _ s
 rw [if_pos (by simp)]
 unfold Builtin.Tuple.tupleIsExact
 refine wpAny_bind (wpAny_bind (wpAny_typeOf ht.typeIs (wpAny_pure ?_)))
 rw [if_pos (by decide)]
 exact wpAny_bind (wpAny_rule (wpAny_pure ⟨_,rfl,wpAny_pure h⟩))
end
end HT
namespace L2
open PySem PySem.Spec PyProof.Rows
section
section
variable {X:Cx} {e ek:Expr} {te tk:TE} {pos p2:Pos}
def zwb (K:W.Frag):V->Option Int->Option Int->Hp->VK->Prop:=fun x lo hi H Q=>∃ a xs,x = .ref a/\SqT K H a xs /\
 ((HT.sIx xs.length 0 lo = 0/\HT.sIx xs.length xs.length hi = xs.length)->Q (.ref a) H)/\∀ p,H p = none->Q (.ref p) (upd H p (.tup (zkj xs lo hi)))
theorem zrk:SlR X (zwb X.K):=by
 intro zk s σ H x v vl vu lo hi sl Q I rx hs pl pu h
 obtain ⟨a,xs,rfl,hx,hw,q⟩:=h
 by_cases z:HT.sIx xs.length 0 lo = 0/\HT.sIx xs.length xs.length hi = xs.length
 ·cases rx
  obtain ⟨its,r,ht,hz⟩:=I.tuple hx
  have hlen:its.toArray.size = xs.length:=by rw [List.size_toArray]; exact r.length.symm
  refine ⟨"tuple",_,PyProof.Rows.slot_tuple_getitem.lookup,ht.typeIs,?_⟩
  exact HT.tup_whole ht hs pl pu (by rw [hlen]; exact z) ⟨.ref a,H,I,rfl,hw z⟩
 ·exact zq2 zk s σ H _ v vl vu lo hi sl Q I rx hs pl pu ⟨a,xs,rfl,hx,z,q⟩
end
def ztz:D3:=fun x i j S R=>asT x fun ds=>R (.d (.tuple (zeb ds i j))) S
theorem zls {α:Type} (xs:List α) (lo hi:Option Int) (h:HT.sIx xs.length 0 lo = 0/\HT.sIx xs.length xs.length hi = xs.length):zeb xs lo hi = xs:=by
 unfold zeb
 rw [h.1,h.2]
 simp
theorem zrC {K:W.Frag}:RL (zwb K) ztz:=fun h o H S x v a b R Q hs hx q c=>by
 replace q:=zgh q
 obtain ⟨ds,rfl,q⟩:=q
 obtain ⟨p,vs,rfl,ea,l⟩:=zdv hx
 refine ⟨p,vs,rfl,.of ea,fun z=>?_,zoj hs (l.cut a b) c q⟩
 rw [l.length] at z
 rw [zls ds a b z] at q
 exact c o H S _ _ Ex.refl hs hx q
def zsI (e k:DE):DE:=fun δ S R=>e δ S fun x S1=>k δ S1 fun y S2=>y = .d (.int (-1))/\asT x fun ds=>R (.d (.tuple ds.reverse)) S2
def zmC (r r' r2:D2) (a b c d:DE):DE:=fun δ S R=>a δ S fun x S1=>b δ S1 fun y S2=>r x y S2 fun z S3=>asB z fun k=>if k = true then (c δ S3 fun w S4=>r' y w S4 fun z' S5=>asB z' fun k'=>if k' = true then (d δ S5 fun v S6=>r2 w v S6 R) else R (.d (.bool false)) S5) else R (.d (.bool false)) S3
end
section
def zq3 (k:Bool) (a:DE) (b:DA):DE:=fun δ S R=>a δ S fun x S1=>b δ S1 fun ys S2=>asI x fun i=>arg1 ys fun y=>asI y fun n=>R (.d (.bool (if k = true then !decide (0 <= i/\i < n) else decide (0 <= i/\i < n)))) S2
def zqB (k:Bool) (a:DE) (b:DA):DE:=fun δ S R=>a δ S fun x S1=>b δ S1 fun ys S2=>asI x fun i=>arg2 ys fun y z=>asI y fun n=>asI z fun m=>R (.d (.bool (if k = true then !decide (n <= i/\i < m) else decide (n <= i/\i < m)))) S2
end
section
def zvL:D2:=fun x y S R=>asB x fun a=>asB y fun b=>R (.d (.bool (decide (a = b)))) S
def zsW:D2:=fun x y S R=>asB x fun a=>asB y fun b=>R (.d (.bool (!decide (a = b)))) S
def zsE:List XV->Sto->RX->Prop:=fun xs S R=>arg1 xs fun x=>asT x fun ds=>∃ ns:List Int,ds = ns.map PyData.int/\R (.d (.int ns.sum)) S
end
section
@[irreducible] def QE (X:Cx) (e:Expr) (t:TE):Prop:=PE X e t
theorem QE.out {X:Cx} {e:Expr} {t:TE} (h:QE X e t):PE X e t:=by unfold QE at h; exact h
end
end L2
namespace L2
open PySem PySem.Spec PySem.Calls PyProof.Rows PySem.W
section
variable {prog:Program} {w:World} {A:Around} {E:Value->Shared->Prop} {s:Shared}
def pLt (i i' j j':Int):Bool:=decide (i < j\/i = j/\i' < j')
end
def zpP:List XV->Sto->RX->Prop:=fun xs S R=>arg1 xs fun x=>∃ i i' j j':Int,zgP S x = some [.tuple [.int i,.int i'],.tuple [.int j,.int j']]/\R (.d (.list (if pLt j j' i i' = true then [.tuple [.int j,.int j'],.tuple [.int i,.int i']] else [.tuple [.int i,.int i'],.tuple [.int j,.int j']]))) S
end L2
namespace L2
open PySem PySem.Spec PyProof.Rows
section
def zuU (a:DA):DE:=fun δ S R=>a δ S fun xs S1=>arg1 xs fun y=>asI y fun n=>(0 <= n/\n <= 1000)/\R (.d (.tuple ((List.range n.toNat).map fun k:Nat=>PyData.int (0 + k)))) S1
def zwc:D2:=fun x y S R=>asT x fun ds=>asT y fun es=>∃ ns,ds = ns.map PyData.int/\∃ ms,es = ms.map PyData.int/\R (.d (.bool (HT.lexLt ns ms))) S
end
section
open Sem (wp)
namespace F4
end F4
def zsX:List PyData->List PyData->List PyData->List PyData->List PyData
 | d :: ds,e :: es,f :: fs,g :: gs=>.tuple [d,e,f,g] :: zsX ds es fs gs
 | _,_,_,_=>[]
def tup4D:XV->Option (List PyData)
 | .d (.tuple ds)=>some ds
 | _=>none
def arg4 (xs:List XV) (k:XV->XV->XV->XV->Prop):Prop:=∃ x y z u,xs = [x,y,z,u]/\k x y z u
theorem zp2 {x y z u:XV} {k:XV->XV->XV->XV->Prop}:arg4 [x,y,z,u] k = k x y z u:=propext ⟨fun ⟨_,_,_,_,e,q⟩=>by cases e; exact q,fun q=>⟨_,_,_,_,rfl,q⟩⟩
def zq8 (a:DA):DI:=fun δ S R=>a δ S fun xs S1=>arg4 xs fun x y z u=>∃ ds es fs gs,tup4D x = some ds/\tup4D y = some es/\tup4D z = some fs/\tup4D u = some gs/\es.length = ds.length/\fs.length = ds.length/\gs.length = ds.length/\R (zsX ds es fs gs) S1
end
section
namespace F4
end F4
end
section
namespace F4
end F4
end
section
namespace F4
end F4
end
section
def zkH:List XV->Sto->RX->Prop:=fun xs S R=>arg1 xs fun x=>∃ ds,zgP S x = some ds/\∃ ns:List Int,ds = ns.map PyData.int/\ns.length < 60/\∀ ms:List Int,ms.Pairwise (· < ·)->(∀ x,x ∈ ms ↔ x ∈ ns)->R (.d (.list (ms.map PyData.int))) S
end
section
def znG:D2:=fun x y S R=>asT x fun ds=>asI y fun j=>ds ≠ []/\-1000 <= j/\j <= 1000/\ds.length * j.toNat <= 1000/\R (.d (.tuple (List.replicate j.toNat ds).flatten)) S
end
section
def zp9 (n:Nat) (r:DGs):DG:=fun x δ S N=>asL S x fun ds=>ds.length = n/\r ds δ S N
end
section
theorem zgS (f:Array Value->Array Value) (o:Obj):(Obj.mapFields f o).dict = o.dict:=by
 unfold Obj.mapFields
 split <;> rfl
def RecAt (h base:Heap) (e:Addr) (cls:Value) (dx:Option Addr) (a0 fl:Value):Prop :=
 ∃ oe vs T oT ts,h.get? e = some oe/\oe.cls = cls/\oe.dict = dx/\oe.data = .fields vs/\vs[0]? = some a0/\vs[1]? = some (.ref T)/\base.get? T = none/\T ≠ e/\h.get? T = some oT/\oT.data = .fields ts/\ts[3]? = some fl
structure NotedD (base:Heap) (l:List Env) (e:Addr) (cls:Value) (dx:Option Addr) (a0 fl:Value) (h h':Heap):Prop where
 stays:base.StaysIn h'
 frames:h'.FunFrames base l
 rcd:RecAt h' base e cls dx a0 fl
 upto:h.UpToSlots h'
def FlyD (base:Heap) (l:List Env) (e:Addr) (cls:Value) (dx:Option Addr) (a0:Value) (h:Heap):Prop:=base.StaysIn h/\base.get? e = none/\h.FunFrames base l/\RecAt h base e cls dx a0 .none
def HeldD (base:Heap) (l:List Env) (e:Addr) (cls:Value) (dx:Option Addr) (a0:Value) (L:Addr) (h:Heap):Prop:=base.StaysIn h/\base.get? e = none/\h.FunFrames base l/\RecAt h base e cls dx a0 (rawInt L)
theorem FlyD.there {base h:Heap} {l:List Env} {e:Addr} {cls a0:Value} {dx:Option Addr} (x:FlyD base l e cls dx a0 h):∃ ob,h.get? e = some ob/\ob.cls = cls/\ob.dict = dx :=
 let ⟨_,_,_,oe,_,_,_,_,he,hc,hd,_⟩:=x; ⟨oe,he,hc,hd⟩
theorem FlyD.first {base h:Heap} {l:List Env} {e:Addr} {cls a0:Value} {dx:Option Addr} (x:FlyD base l e cls dx a0 h):∃ oe vs,h.get? e = some oe/\oe.cls = cls/\oe.data = .fields vs/\vs[0]? = some a0 :=
 let ⟨_,_,_,oe,vs,_,_,_,he,hc,_,hd,h0,_⟩:=x; ⟨oe,vs,he,hc,hd,h0⟩
section
variable {M:Model} {A:Around} {E:Value->Shared->Prop} {s:Shared}
theorem zje {base:Heap} {env:Env} {outer:List Env} {L e:Addr} {oe:Obj} {vs:Array Value} {head a0:Value} {hadNext:Bool} {Q:Unit->Shared->Prop}
  (hfr:A.frames = some (env :: outer)) (hl:s.heap.FunFrames base (env :: outer)) (hf:env.frame = some L)
  (he:s.heap.get? e = some oe) (hkb:base.StaysIn s.heap) (hen:base.get? e = none) (hd:oe.data = .fields vs) (hsz:1 < vs.size) (h0:vs[0]? = some a0)
  (h:∀ h',NotedD base (env :: outer) e oe.cls oe.dict a0 (rawInt L) s.heap h'->Q () { s with heap:=h' }) :
  wpAny M A (do let a <- frameOf env; let pl <- entryPlaceOf L hadNext; let b <- EntryCells.newEntry head a .none (rawInt L) .none pl; setField (.ref e) 1 b) Q E s:=by
 have ne:e ∉ (env :: outer).filterMap (·.frame):=fun hm=>by
  obtain ⟨_,o,ho,nf⟩:=hl.mem hm
  rw [he] at ho
  cases ho
  exact nf vs hd
 refine wpAny_bind (wpAny_frameOf_fun hfr hl hf fun h1 k1=>?_)
 refine wpAny_bind (wpAny_entryPlaceOf fun pl hpl=>?_)
 unfold EntryCells.newEntry newFields
 refine wpAny_bind (wpAny_newObj_type ?_ (hpl.sizeOk5 _ _ _ _ _))
 have e1:h1.get? e = some oe:=(k1.2.1 e ne).trans he
 have b1:base.StaysIn h1:=fun b o q=>(k1.2.1 b fun hm=>by rw [(hl.mem hm).1] at q; cases q).trans (hkb b o q)
 generalize hT:({ cls:=.type "traceback",dict:=none,data:=.fields ([head,.ref L,.none,rawInt L,.none] ++ (if pl.isEmpty then List.replicate 6 Value.none else pl)).toArray }:Obj) = tb
 have dT:∃ ts,tb.data = .fields ts/\ts[3]? = some (rawInt L):=by
  subst hT
  exact ⟨_,rfl,by simp⟩
 obtain ⟨ts,dT,zT⟩:=dT
 have fT:tb.isFreed = false:=Obj.isFreed_of_fields dT
 have e2:=Heap.get?_push_of_some (h:=h1) tb e1
 refine wpAny_setField e2 hd hsz (h _ ?_)
 have nT:h1.objs.size ≠ e:=Nat.ne_of_gt (Heap.lt_size e1)
 have d3:=Obj.data_mapFields hd (·.setIfInBounds 1 (Value.ref h1.objs.size))
 have e3:=Heap.get?_update_self (Obj.mapFields (·.setIfInBounds 1 (Value.ref h1.objs.size))) e2 (Obj.isFreed_of_fields d3)
 have t3:=(Heap.get?_update_other (h1.push tb) (Obj.mapFields (·.setIfInBounds 1 (Value.ref h1.objs.size))) (Ne.symm nT)).trans (Heap.get?_push_size h1 fT)
 have keep:∀ b o,b ≠ e->h1.get? b = some o->((h1.push tb).update e (Obj.mapFields (·.setIfInBounds 1 (Value.ref h1.objs.size)))).get? b = some o:=fun b o nb q=>by
  rw [Heap.get?_update_other _ _ (Ne.symm nb)]
  exact Heap.get?_push_of_some _ q
 have nr:∀ b o,s.heap.get? b = some o->(∀ vs,o.data ≠ .fields vs)->b ≠ e:=fun b o q nf z=>by
  rw [z,he] at q
  cases q
  exact nf vs hd
 refine ⟨fun b o q=>keep b o (fun z=>by rw [z,hen] at q; cases q) (b1 b o q),hl.of_keeps fun b o q nf=>?_,?_,fun b o q nf=>?_⟩
 ·obtain ⟨sl,z⟩:=k1.2.2 b o q
  exact ⟨_,keep b _ (nr b o q nf) z,rfl⟩
 ·exact ⟨_,_,h1.objs.size,_,_,e3,Obj.cls_mapFields _ _,zgS _ _,d3,by rw [Array.getElem?_setIfInBounds_ne (by decide)]; exact h0,by simp [hsz],b1.fresh,nT,t3,dT,zT⟩
 ·obtain ⟨sl,z⟩:=k1.2.2 b o q
  exact ⟨sl,keep b _ (nr b o q nf) z⟩
theorem zcZ {base:Heap} {l:List Env} {e:Addr} {cls a0 fl:Value} {dx:Option Addr} {Q:Unit->Shared->Prop} (hkb:base.StaysIn s.heap) (hen:base.get? e = none) (hl:s.heap.FunFrames base l) (ht:RecAt s.heap base e cls dx a0 fl)
  (h:∀ h',FlyD base l e cls dx a0 h'->s.heap.UpToSlots h'->Q () { s with heap:=h' }):wpAny M A (setFlight (.ref e) none) Q E s:=by
 obtain ⟨oe,vs,T,oT,ts,he,hc,hx,hd,h0,h1,hnT,hTe,hT,hdT,h3⟩:=ht
 have z3:3 < ts.size:=(Array.getElem?_eq_some_iff.mp h3).1
 have oth:∀ b,b ≠ T->(s.heap.update T (Obj.mapFields (·.setIfInBounds 3 ((none:Option Addr).elim Value.none fun f=>rawInt f)))).get? b = s.heap.get? b:=fun b hb=>Heap.get?_update_other _ _ (Ne.symm hb)
 have nr:∀ b o,s.heap.get? b = some o->(∀ vs,o.data ≠ .fields vs)->b ≠ T:=fun b o q nf z=>by
  rw [z,hT] at q
  cases q
  exact nf ts hdT
 unfold setFlight
 refine wpAny_bind (wpAny_field he hd h1 ?_)
 rw [if_pos (show (Value.ref T != Value.none) = true from by simp)]
 refine wpAny_setField hT hdT z3 (h _ ⟨fun b o q=>(oth b fun z=>by rw [z,hnT] at q; cases q).trans (hkb b o q),hen,hl.of_keeps fun b o q nf=>⟨o,(oth b (nr b o q nf)).trans q,rfl⟩,?_⟩ fun b o q nf=>⟨o.slots,(oth b (nr b o q nf)).trans q⟩)
 exact ⟨oe,vs,T,_,_,(oth e (Ne.symm hTe)).trans he,hc,hx,hd,h0,h1,hnT,hTe,Heap.get?_update_self _ hT (Obj.isFreed_of_fields (Obj.data_mapFields hdT _)),Obj.data_mapFields hdT _,by simp [z3]⟩
theorem zlG {base:Heap} {env:Env} {outer:List Env} {L e:Addr} {oe:Obj} {vs:Array Value} {a0:Value} {Q:Unit->Shared->Prop}
  (hfr:A.frames = some (env :: outer)) (hl:s.heap.FunFrames base (env :: outer)) (hf:env.frame = some L)
  (he:s.heap.get? e = some oe) (hkb:base.StaysIn s.heap) (hen:base.get? e = none) (hd:oe.data = .fields vs) (h1:vs[1]? = some .none) (h0:vs[0]? = some a0)
  (h:∀ h',NotedD base (env :: outer) e oe.cls oe.dict a0 (rawInt L) s.heap h'->Q () { s with heap:=h' }):wpAny M A (noteFrame (.ref e) env) Q E s:=by
 unfold noteFrame
 simp only [hf]
 refine wpAny_bind (wpAny_field he hd h1 ?_)
 rw [if_neg (by decide)]
 exact zje hfr hl hf he hkb hen hd (Array.getElem?_eq_some_iff.mp h1).1 h0 h
theorem zin {base:Heap} {env:Env} {outer:List Env} {L e:Addr} {cls a0:Value} {dx:Option Addr} {Q:Unit->Shared->Prop}
  (hfr:A.frames = some (env :: outer)) (hl:s.heap.FunFrames base (env :: outer)) (hf:env.frame = some L) (ht:RecAt s.heap base e cls dx a0 .none) (hkb:base.StaysIn s.heap) (hen:base.get? e = none)
  (h:∀ h',NotedD base (env :: outer) e cls dx a0 (rawInt L) s.heap h'->Q () { s with heap:=h' }):wpAny M A (noteFrame (.ref e) env) Q E s:=by
 obtain ⟨oe,vs,T,oT,ts,he,rfl,rfl,hd,h0,h1,hnT,hTe,hT,hdT,h3⟩:=ht
 unfold noteFrame
 simp only [hf]
 refine wpAny_bind (wpAny_field he hd h1 ?_)
 rw [if_pos (show (Value.ref T != Value.none) = true from by simp)]
 refine wpAny_bind (wpAny_field hT hdT h3 ?_)
 rw [if_neg (show ¬ ((Value.none == rawInt L) = true) from by simp [rawInt])]
 refine wpAny_bind (wpAny_setField hT hdT (Array.getElem?_eq_some_iff.mp h3).1 ?_)
 have oth:∀ b,b ≠ T->(s.heap.update T (Obj.mapFields (·.setIfInBounds 3 Value.none))).get? b = s.heap.get? b:=fun b hb=>Heap.get?_update_other _ _ (Ne.symm hb)
 have nr:∀ b o,s.heap.get? b = some o->(∀ vs,o.data ≠ .fields vs)->b ≠ T:=fun b o q nf z=>by
  rw [z,hT] at q
  cases q
  exact nf ts hdT
 refine zje hfr (hl.of_keeps fun b o q nf=>⟨o,(oth b (nr b o q nf)).trans q,rfl⟩) hf ((oth e (Ne.symm hTe)).trans he)
  (fun b o q=>(oth b fun z=>by rw [z,hnT] at q; cases q).trans (hkb b o q)) hen hd (Array.getElem?_eq_some_iff.mp h1).1 h0
  fun h' x=>h h' ⟨x.stays,x.frames,x.rcd,fun b o q nf=>x.upto b o ((oth b (nr b o q nf)).trans q) nf⟩
theorem znP {base:Heap} {env:Env} {outer:List Env} {L e:Addr} {cls a0:Value} {dx:Option Addr} {Q:Unit->Shared->Prop} (hfr:A.frames = some (env :: outer)) (hf:env.frame = some L) (hfl:FlyD base (env :: outer) e cls dx a0 s.heap)
  (hQ:∀ h',FlyD base outer e cls dx a0 h'->s.heap.UpToSlots h'->Q () { s with heap:=h' }):wpAny M A (leaving env (.ref e)) Q E s:=by
 obtain ⟨f1,f2,f3,f4⟩:=hfl
 unfold leaving
 refine wpAny_bind (zin hfr f3 hf f4 f1 f2 fun h' x=>?_)
 refine zcZ (s:={ s with heap:=h' }) x.stays f2 x.frames x.rcd fun h2 y u=>hQ h2 ⟨y.1,y.2.1,?_,y.2.2.2⟩ (x.upto.trans u)
 obtain ⟨_,_,k⟩:=y.2.2.1
 exact k
theorem zfv {base:Heap} {env:Env} {outer:List Env} {L e:Addr} {oe:Obj} {vs:Array Value} {a0:Value} {Q:Unit->Shared->Prop}
  (hfr:A.frames = some (env :: outer)) (hl:s.heap.FunFrames base (env :: outer)) (hf:env.frame = some L)
  (he:s.heap.get? e = some oe) (hkb:base.StaysIn s.heap) (hen:base.get? e = none) (hd:oe.data = .fields vs) (h1:vs[1]? = some .none) (h0:vs[0]? = some a0)
  (hQ:∀ h',FlyD base outer e oe.cls oe.dict a0 h'->s.heap.UpToSlots h'->Q () { s with heap:=h' }):wpAny M A (leaving env (.ref e)) Q E s:=by
 unfold leaving
 refine wpAny_bind (zlG hfr hl hf he hkb hen hd h1 h0 fun h' x=>?_)
 refine zcZ (s:={ s with heap:=h' }) x.stays hen x.frames x.rcd fun h2 y u=>hQ h2 ⟨y.1,y.2.1,?_,y.2.2.2⟩ (x.upto.trans u)
 obtain ⟨_,_,k⟩:=y.2.2.1
 exact k
theorem zmB {base:Heap} {env:Env} {outer:List Env} {L e:Addr} {cls a0:Value} {dx:Option Addr} {Q:Unit->Shared->Prop} (hfr:A.frames = some (env :: outer)) (hf:env.frame = some L) (hfl:FlyD base (env :: outer) e cls dx a0 s.heap)
  (hQ:∀ h',HeldD base (env :: outer) e cls dx a0 L h'->s.heap.UpToSlots h'->Q () { s with heap:=h' }):wpAny M A (noteFrame (.ref e) env) Q E s:=by
 obtain ⟨f1,f2,f3,f4⟩:=hfl
 exact zin hfr f3 hf f4 f1 f2 fun h' x=>hQ h' ⟨x.stays,f2,x.frames,x.rcd⟩ x.upto
theorem zuo {base:Heap} {l:List Env} {e L:Addr} {cls a0:Value} {dx:Option Addr} {Q:Unit->Shared->Prop} (hh:HeldD base l e cls dx a0 L s.heap) (hQ:∀ h',FlyD base l e cls dx a0 h'->s.heap.UpToSlots h'->Q () { s with heap:=h' }):wpAny M A (setFlight (.ref e) none) Q E s:=by
 obtain ⟨f1,f2,f3,f4⟩:=hh
 exact zcZ f1 f2 f3 f4 hQ
theorem zik {base:Heap} {l:List Env} {e:Addr} {cls a0:Value} {dx:Option Addr} {Q:Unit->Shared->Prop} (hh:FlyD base l e cls dx a0 s.heap) (hQ:∀ h',FlyD base l e cls dx a0 h'->s.heap.UpToSlots h'->Q () { s with heap:=h' }):wpAny M A (setFlight (.ref e) none) Q E s:=by
 obtain ⟨f1,f2,f3,f4⟩:=hh
 exact zcZ f1 f2 f3 f4 hQ
end
theorem HOk.stays {P:Program} {w:World} {H:Hp} {h h':Heap} (x:HOk P w H h) (k:∀ b u,H b = some u->∀ o,h.get? b = some o->h'.get? b = some o):HOk P w H h':=fun a o e =>
 (x a o e).stay (fun b u hb q=>by
  rcases hb with rfl | hb
  ·exact k _ _ e _ q
  ·exact k _ _ hb _ q) (fun _ q=>q) fun _ _ q=>q
theorem ObjOk.obj {P:Program} {w:World} {H:Hp} {h:Heap} {a:Addr} {o:HO} (x:ObjOk P w H h a o):∃ u,h.get? a = some u:=by
 cases o with
 | lst xs=>obtain ⟨_,_,_,_,e⟩:=x; exact ⟨_,e⟩
 | tup xs=>obtain ⟨_,_,_,o,e,_⟩:=x; exact ⟨_,e⟩
 | dK kvs=>obtain ⟨_,_,_,_,o,_,_,e,_⟩:=x; exact ⟨_,e⟩
 | dT kvs=>obtain ⟨_,_,_,_,o,_,_,e,_⟩:=x; exact ⟨_,e⟩
 | set S n=>obtain ⟨o,_,_,_,e,_⟩:=x; exact ⟨_,e⟩
 | ins C dx fs=>obtain ⟨_,_,_,e,_⟩:=x; exact ⟨_,e⟩
 | own y=>exact x
 | xd fs=>obtain ⟨_,⟨_,_,_,e,_⟩,_⟩:=x; exact ⟨_,e⟩
 | rng lo hi=>obtain ⟨_,_,_,e⟩:=x; exact ⟨_,e⟩
 | frz ob u=>obtain ⟨e,_⟩:=x; exact ⟨_,e⟩
 | tbl ps=>exact ⟨_,(show h.get? a = some _ from x)⟩
 | met f y=>exact ⟨_,(show h.get? a = some _ from x)⟩
 | ext φ=>obtain ⟨_,e,_⟩:=x; exact e
structure Fly (P:Program) (w:World) (outer:List Env) (H:Hp) (s:Shared) (H':Hp) (a C:Addr) (dx:Option Addr) (s':Shared):Prop where
 os:s'.os = s.os
 bare:AllBare s'.gens
 un:Un (frs outer) [] H H' s.heap s'.heap
 hok:HOk P w H' s'.heap
 fl:∃ B t,FlyD B outer a (.ref C) dx (.ref t) s'.heap/\(∀ b o,s.heap.get? b = some o->H b = none->b ∉ frs outer->B.get? b = some o)/\(∀ b o,s.heap.get? b = some o->b ∈ frs outer\/∃ o',B.get? b = some o')/\∀ b u,H' b = some u->∃ o,B.get? b = some o
def CX1 (P:Program) (w:World):CXT:=fun outer H s E e s'=>∃ H' a C dx,e = .ref a/\Fly P w outer H s H' a C dx s'/\E (.ref C) (some a) (upd H' a (exO a C dx))
section
variable {P:Program} {w:World} {K:W.Frag} {mg:Str->Option Value} {base:Heap} {N:List Str} {qual:Str} {scope:Scope} {f:Addr} {cd:Value} {A:Around} {outer:List Env} {s:Shared} {H:Hp} {E:XK}
theorem pass1:Passes (CX1 P w) (zhc (CX1 P w) P w K mg base N qual scope f cd A outer s H E) E:=fun zk σ Hc sc e s' I hx=>by
 obtain ⟨H',a,C,dx,rfl,F,hE⟩:=hx
 obtain ⟨B,t,fl,kB,eB,tB⟩:=F.fl
 have hfr:(A.deeper (envOfC qual scope s.heap.objs.size f cd)).frames = some (envOfC qual scope s.heap.objs.size f cd :: outer):=I.ok.frames
 have nl:∀ b o,s.heap.get? b = some o->b ∉ frs outer->b ∉ frs (envOfC qual scope s.heap.objs.size f cd :: outer):=fun b o q hb z=>by
  rcases List.mem_cons.mp (show b ∈ s.heap.objs.size :: frs outer from z) with e | e
  ·exact absurd (Heap.lt_size q) (by rw [e]; exact Nat.lt_irrefl _)
  ·exact hb e
 have nx:∀ b:Addr,b ∉ ([]:List Addr):=fun b=>by simp
 have kp:∀ b o,s.heap.get? b = some o->H b = none->b ∉ frs outer->B.get? b = some o:=fun b o q n hb=>kB b o (I.base.keep b o q n hb (nx b)) (I.base.free b o q n (nx b)) (nl b o q hb)
 have ep:∀ b o,s.heap.get? b = some o->b ∈ frs outer\/∃ o',B.get? b = some o':=fun b o q=>by
  by_cases hb:b ∈ frs outer
  ·exact .inl hb
  ·obtain ⟨o1,q1⟩:=I.base.there b o q (nx b)
   rcases eB b o1 q1 with z | z
   ·exact absurd z (nl b o q hb)
   ·exact .inr z
 show wpAny _ _ (leaving (envOfC qual scope s.heap.objs.size f cd) (.ref a)) _ _ s'
 refine znP hfr rfl fl fun h' fl' sm=>⟨H',a,C,dx,rfl,⟨F.os.trans I.os,F.bare,⟨fun b o q n hb _=>fl'.1 b o (kp b o q n hb),fun b o q n hb _=>?_,fun b o q n _=>?_,fun b o q _=>?_,fun b xs q=>F.un.tups b xs (I.base.tups b xs q),fun b o u q=>F.un.frzs b o u (I.base.frzs b o u q),fun b ps q=>?_⟩,
  F.hok.stays fun b u e o q=>?_,B,t,fl',kp,ep,tB⟩,hE⟩
 ·obtain ⟨sl,q1⟩:=I.base.slot b o q n hb (nx b)
  obtain ⟨sl2,q2⟩:=F.un.any q1 (I.base.free b o q n (nx b)) (nx b)
  obtain ⟨_,o3,q3,nf⟩:=fl.2.2.1.mem (show b ∈ frs (envOfC qual scope s.heap.objs.size f cd :: outer) from List.mem_cons_of_mem _ hb)
  rw [q2] at q3
  cases q3
  obtain ⟨sl3,q4⟩:=sm b _ q2 nf
  exact ⟨sl3,q4⟩
 ·obtain ⟨o1,q1⟩:=I.base.there b o q (nx b)
  exact F.un.free b o1 q1 (I.base.free b o q n (nx b)) (nx b)
 ·rcases ep b o q with z | ⟨o',z⟩
  ·obtain ⟨_,o3,q3,_⟩:=fl'.2.2.1.mem (show b ∈ frs outer from z)
   exact ⟨o3,q3⟩
  ·exact ⟨o',fl'.1 b o' z⟩
 ·obtain ⟨m1,e1⟩:=I.base.tbls b ps q
  obtain ⟨m2,e2⟩:=F.un.tbls b _ e1
  exact ⟨m1 ++ m2,by rw [e2,Array.append_assoc]⟩
 ·obtain ⟨o',z⟩:=tB b u e
  have:=fl.1 b o' z
  rw [q] at this
  cases this
  exact fl'.1 b o z
theorem zsa {zk:List (Addr × Obj)} {σ:St} {Hc:Hp} {s2:Shared} {h':Heap} {e C:Addr} {args:List Value} (I:Inv (zhc (CX1 P w) P w K mg base N qual scope f cd A outer s H E) zk σ Hc s2) (mk:Heap.MadeExcOf s2.heap h' e (.ref C) args) (hE:E (.ref C) (some e) (upd Hc e (exO e C none))) :
  (zhc (CX1 P w) P w K mg base N qual scope f cd A outer s H E).xe (.ref e) { s2 with heap:=h' }:=by
 have hfr:(A.deeper (envOfC qual scope s.heap.objs.size f cd)).frames = some (envOfC qual scope s.heap.objs.size f cd :: outer):=I.ok.frames
 have nl:∀ b o,s.heap.get? b = some o->b ∉ frs outer->b ∉ frs (envOfC qual scope s.heap.objs.size f cd :: outer):=fun b o q hb z=>by
  rcases List.mem_cons.mp (show b ∈ s.heap.objs.size :: frs outer from z) with e | e
  ·exact absurd (Heap.lt_size q) (by rw [e]; exact Nat.lt_irrefl _)
  ·exact hb e
 have nx:∀ b:Addr,b ∉ ([]:List Addr):=fun b=>by simp
 have stk:s2.heap.FunFrames base (envOfC qual scope s.heap.objs.size f cd :: outer):=I.stack
 have hin:∀ env ∈ (envOfC qual scope s.heap.objs.size f cd :: outer),∀ b,env.frame = some b->b ∈ frs (envOfC qual scope s.heap.objs.size f cd :: outer):=fun env he b hb=>List.mem_filterMap.mpr ⟨env,he,hb⟩
 have hd:∀ b o,s2.heap.get? b = some o->b ∉ frs (envOfC qual scope s.heap.objs.size f cd :: outer)->(PySem.W.hideAll s2.heap (frs (envOfC qual scope s.heap.objs.size f cd :: outer))).get? b = some o:=fun b o q n=>PySem.W.hideAll_get _ q n
 have kp:∀ b o,s.heap.get? b = some o->H b = none->b ∉ frs outer->(PySem.W.hideAll s2.heap (frs (envOfC qual scope s.heap.objs.size f cd :: outer))).get? b = some o:=fun b o q n hb=>hd b o (I.base.keep b o q n hb (nx b)) (nl b o q hb)
 have ep:∀ b o,s.heap.get? b = some o->b ∈ frs outer\/∃ o',(PySem.W.hideAll s2.heap (frs (envOfC qual scope s.heap.objs.size f cd :: outer))).get? b = some o':=fun b o q=>by
  by_cases hb:b ∈ frs outer
  ·exact .inl hb
  ·obtain ⟨o1,q1⟩:=I.base.there b o q (nx b)
   exact .inr ⟨o1,hd b o1 q1 (nl b o q hb)⟩
 have tr:∀ b u,Hc b = some u->∀ o,s2.heap.get? b = some o->(PySem.W.hideAll s2.heap (frs (envOfC qual scope s.heap.objs.size f cd :: outer))).get? b = some o:=fun b u q o q1=>hd b o q1 fun z=>by
  rw [I.stkFree b z] at q
  cases q
 show wpAny _ _ (leaving (envOfC qual scope s.heap.objs.size f cd) (.ref e)) _ _ _
 obtain ⟨t,he,htn,ht⟩:=mk.there
 have ne:(PySem.W.hideAll s2.heap (frs (envOfC qual scope s.heap.objs.size f cd :: outer))).get? e = none:=by
  cases z:(PySem.W.hideAll s2.heap (frs (envOfC qual scope s.heap.objs.size f cd :: outer))).get? e with
  | none=>rfl
  | some o =>
   have:=PySem.W.of_hideAll _ z
   rw [mk.new] at this
   cases this
 refine zfv (s:={ s2 with heap:=h' }) hfr ((PySem.W.funFrames_hide stk hin).of_keeps fun b o q _=>⟨o,mk.keeps b o q,rfl⟩) rfl he (fun b o q=>mk.keeps b o (PySem.W.of_hideAll _ q)) ne rfl rfl rfl fun h'' fl sm=>⟨Hc,e,C,none,rfl,⟨I.os,I.bare,⟨fun b o q n hb _=>fl.1 b o (kp b o q n hb),fun b o q n hb _=>?_,fun b o q n _=>I.base.free b o q n (nx b),fun b o q _=>?_,I.base.tups,I.base.frzs,I.base.tbls⟩,
  I.hok.stays fun b u q o q1=>fl.1 b o (tr b u q o q1),_,t,fl,kp,ep,fun b u q=>?_⟩,hE⟩
 ·obtain ⟨sl,q1⟩:=I.base.slot b o q n hb (nx b)
  obtain ⟨_,o3,q3,nf⟩:=stk.mem (show b ∈ frs (envOfC qual scope s.heap.objs.size f cd :: outer) from List.mem_cons_of_mem _ hb)
  rw [q1] at q3
  cases q3
  obtain ⟨sl3,q4⟩:=sm b _ (mk.keeps b _ q1) nf
  exact ⟨sl3,q4⟩
 ·rcases ep b o q with z | ⟨o',z⟩
  ·obtain ⟨_,o3,q3,_⟩:=fl.2.2.1.mem (show b ∈ frs outer from z)
   exact ⟨o3,q3⟩
  ·exact ⟨o',fl.1 b o' z⟩
 ·obtain ⟨o,q1⟩:=(I.hok b u q).obj
  exact ⟨o,tr b u q o q1⟩
end
end
section
def veB:List Value:=[.type "ValueError",.type "Exception",.type "BaseException",.type "object"]
theorem zvf {K:W.Frag} {h:Heap} {N:Addr} {mg:Str->Option Value} {n:Str} {v:Value} (X:K.In h) (G:h.Ns N mg) (e:PySem.W.nsIn K N n = some (some v)):mg n = some v:=by
 obtain ⟨o,es,ep,ho,hd,_,hf⟩:=G
 unfold PySem.W.nsIn at e
 split at e
 ·rename_i c d es' n' sl q
  have:=X _ _ q
  rw [ho] at this
  cases this
  cases hd
  split at e
  ·rename_i en he
   cases e
   rw [<- hf]
   unfold nsFind findBy
   rw [<- Array.find?_toList,he]
   rfl
  ·split at e <;> cases e
 ·cases e
structure ExCls (K:W.Frag) (C:Addr) (ini:Option Value):Prop where
 ob:∀ h,K.In h->∃ bm N nm qn bs hd sn sub ab col dd k0 k1 k2 k3 k5 mN,h.get? C = some (excClassObj nm qn C N bs bm hd sn sub ab col dd k0 k1 k2 k3 k5 "ValueError.__new__")/\h.Ns N mN/\mN "__init__" = ini/\OwnTail h veB bm/\∀ D,PySem.W.mroIn K C D = some ((Value.ref C :: bm).contains D)
 ty:(PySem.W.clsIn K C).isSome = true/\PySem.W.typeIn K (.ref C) = some (.type "type")
theorem exc_of_in {K:W.Frag} {C:Addr} (q:PySem.W.excIn K C veB "ValueError.__new__" = true):ExCls K C none:=by
 unfold PySem.W.excIn at q
 split at q
 ·rename_i dd cd sl ho
  split at q
  ·rename_i C' bm k0 k1 k2 k3 n k5 hm hs
   simp only [Bool.and_eq_true,beq_iff_eq,Bool.not_eq_true'] at q
   obtain ⟨⟨⟨⟨⟨rfl,rfl⟩,hdel⟩,ht⟩,hok⟩,hni⟩:=q
   obtain ⟨nm,bs,mro,ns,qn,hd,sn,sub,ab,col,del⟩:=cd
   dsimp only at hm hdel hok hni
   subst hm hdel
   have hsl:sl = #[k0,k1,k2,k3,some (.builtin "ValueError.__new__"),k5]:=by
    obtain ⟨l⟩:=sl
    simp only at hs
    rw [hs]
   subst hsl
   refine ⟨fun h X=>⟨bm,ns,nm,qn,bs,hd,sn,sub,ab,col,dd,k0,k1,k2,k3,k5,h.nsMap ns,X _ _ ho,.of_isNs (PySem.W.isNs_of_in X hok),PySem.W.ns_none_of X (.of_isNs (PySem.W.isNs_of_in X hok)) hni,PySem.W.tail_of_in X ht,fun D=>?_⟩,?_,?_⟩
   ·unfold PySem.W.mroIn PySem.W.clsIn
    rw [ho]
    rfl
   ·unfold PySem.W.clsIn
    rw [ho]
    rfl
   ·show Option.map (fun x:Obj=>x.cls) (K.lookup C') = _
    rw [ho]
    rfl
  ·cases q
 ·cases q
section
variable {K:W.Frag} {h:Heap} {C G:Addr} {ini iniG:Option Value}
variable {M:Model} {A:Around} {E:Value->Shared->Prop} {g:Array GenState} {d:Drawn} {t:Nat} {os:OsState} {e:Addr} {oe:Obj} {Q:Bool->Shared->Prop}
theorem zgY (X:K.In h) (qC:ExCls K C ini) (qG:ExCls K G iniG) (he:h.get? e = some oe) (hcls:oe.cls = .ref C) (hin:PySem.W.mroIn K C (.ref G) = some true) (hq:Q true ⟨h,g,d,t,os⟩):wpAny M A (excMatches (.ref e) (.ref G)) Q E ⟨h,g,d,t,os⟩:=by
 obtain ⟨tl,N,nm,qn,bs,hd,sn,sub,ab,col,dd,k0,k1,k2,k3,k5,mN,hC,_,_,T,mr⟩:=qC.ob h X
 obtain ⟨tlG,N',nm',qn',bs',hd',sn',sub',ab',col',dd',j0,j1,j2,j3,j5,mN',hG,_,_,T',_⟩:=qG.ob h X
 replace hin:(Value.ref C :: tl).contains (.ref G) = true:=by rw [mr] at hin; exact Option.some.inj hin
 have hcB:(Value.ref G :: tlG).contains (.type "BaseException") = true:=by rw [List.contains_cons,T'.hasType (b:=true) (by decide +kernel),Bool.or_true]
 have f:=tc_notTuple
 unfold excMatches
 repeat (first | (with_reducible refine wpAny_loadPart_at he ?_; rw [hcls]) | with_reducible refine wpAny_loadPart_at hG ?_ | (with_reducible refine wpAny_isSubtype_exc hG ?_; rw [hcB]) | (with_reducible refine wpAny_isSubtype_exc hC ?_; rw [hin]) | wp_step)
 exact hq
end
section
variable {X:Cx} {E:XK} {x:Str} {C:Addr} {np cpos pos:Pos}
def zn1 (E:XK) (C:Addr):TS:=fun _ _ H=>∀ a,H a = none->E (.ref C) (some a) (upd H a (exO a C none))
def Raises (X:Cx) (E:XK):Prop:=∀ (C:Addr) (zk:List (Addr × Obj)) (σ:St) (H:Hp) (s2:Shared) (h':Heap) (e:Addr) (args:List Value),Inv X zk σ H s2->Heap.MadeExcOf s2.heap h' e (.ref C) args->E (.ref C) (some e) (upd H e (exO e C none))->X.xe (.ref e) { s2 with heap:=h' }
theorem zl7 (hc:X.calm = true) (hR:Raises X E) (hg:Gl X x) (hm:X.mg x = some (.ref C)) (q:ExCls X.K C none) (hdb:(x == ("__debug__":Str)) = false:=by decide) :
  PS X (.Raise (some (.Call (.Name x np) [] [] cpos)) none pos) (zn1 E C):=by
 intro zk s σ H D I h
 obtain ⟨tl,N,nm,qn,bs,hd,sn,sub,ab,col,dd,k0,k1,k2,k3,k5,mN,hC,hN,hni,T,_⟩:=q.ob _ I.kIn
 refine wpAny_Raise_call_subT (C:=C) (nm:=nm) (q:=qn) (N:=N) (bs:=bs) (bm:=tl) (hdct:=hd) (sn:=sn) (sub:=sub) (ab:=ab) (col:=col) (dd:=dd) (k0:=k0) (k1:=k1) (k2:=k2) (k3:=k3) (k5:=k5)
  F.excBase_ValueError (mN:=mN) (T.hasType (b:=true) (by decide +kernel)) (I.ok.hd hc) rfl hni (zfa I hg hm ⟨rfl,?_⟩ hdb)
 refine evalArgs_empty ⟨rfl,Nat.zero_le _,hC,hN,T,fun h' e mk=>hR C zk σ H s h' e [] I mk (h e ?_)⟩
 cases z:H e with
 | none=>rfl
 | some u =>
  obtain ⟨o,ho⟩:=(I.hok e u z).obj
  rw [mk.new] at ho
  cases ho
end
theorem raises1 {P:Program} {w:World} {K:W.Frag} {mg:Str->Option Value} {base:Heap} {N:List Str} {qual:Str} {scope:Scope} {f:Addr} {cd:Value} {A:Around} {outer:List Env} {s:Shared} {H:Hp} {E:XK} :
  Raises (zhc (CX1 P w) P w K mg base N qual scope f cd A outer s H E) E:=fun _ _ _ _ _ _ _ _ I mk hE=>zsa I mk hE
end
section
def PEX (X:Cx) (e:Expr) (t:XK->TE):Prop:=∀ (zk:List (Addr × Obj)) (s:Shared) (σ:St) (H:Hp) (Q:VK) (Ex:XK) (E':Value->Shared->Prop),Inv X zk σ H s->t Ex σ H Q ->
 (∀ H1 s1 v s',Inv X zk σ H1 s1->CX1 X.prog X.w X.stack H1 s1 Ex v s'->E' v s')->wpAny (model X.prog X.w) X.A (eval e X.env) (EP X zk σ Q) E' s
def PSX (X:Cx) (st:Stmt) (t:XK->TS):Prop:=∀ (zk:List (Addr × Obj)) (s:Shared) (σ:St) (H:Hp) (D:Ends) (Ex:XK) (E':Value->Shared->Prop),Inv X zk σ H s->t Ex D σ H ->
 (∀ H1 s1 v s',Inv X zk σ H1 s1->CX1 X.prog X.w X.stack H1 s1 Ex v s'->E' v s')->wpAny (model X.prog X.w) X.A (exec st X.env) (SP X zk D) E' s
section
variable {X:Cx} {k:Nat} {f:Addr} {fd:FuncData} {ps:List Str} {sp:Sp} {x:Str} {p pos:Pos} {e e1:Expr} {es:List Expr} {t:TA} {te:TE} {tx:XK->TE}
theorem zr1 (hx:∀ e s,X.xe e s->False) (F:FnOk X.prog X.w X.K X.mg X.base (CX1 X.prog X.w) k f fd ps sp) (hr:Room k X.A) (hg:Gl X x) (hm:X.mg x = some (.ref f)) (hk:PySem.W.keepIn X.K (.ref f) = true) (hb:Binds X.K fd ps [])
  (ha:PA X (e :: es) t) (hdb:(x == ("__debug__":Str)) = false:=by decide) (he:starEach (e :: es) X.env = (false,eval e X.env) :: starEach es X.env:=by rfl) (hpl:(backTo pos (starEach es X.env)).any (·.1) = false:=by rfl) :
  PEX X (.Call (.Name x p) (e :: es) [] pos) (fun Ex σ H Q=>t σ H fun vs H1=>sp vs H1 Q Ex):=by
 intro zk s σ H Q Ex E' I h hX
 refine wpAny_Call_Name_kw (zfa I hg hm ?_ hdb)
 refine PySem.W.callWith_K (h₀:=X.base) I.ok.mod.kin hk (wpAny_mono (ha pos zk s σ H _ I h) (fun us s1 ⟨vs,H1,I1,r,q⟩=>⟨I1.kIn,?_⟩) fun _ _ z=>(hx _ _ z).elim) he hpl
 have hl:us.length = ps.length:=by rw [<- r.length]; exact F.len _ _ _ _ q
 have hb1:=hb s1 us I1.kIn (by rw [List.append_nil]; exact hl)
 rw [List.append_nil] at hb1
 refine wpAny_call (codeAny_mono (F.run X.A X.stack s1 H1 ⟨us,[]⟩ us vs Q Ex hr I1.env0 hb1 r q) fun r s' hq=>?_)
 cases r with
 | error e=>exact hX H1 s1 e s' I1 hq
 | ok fl =>
  cases fl with
  | ret u=>exact I1.after hq
  | next=>exact False.elim hq
  | brk=>exact False.elim hq
  | cont=>exact False.elim hq
theorem zrZ (he:PEX X e tx) (hs:swapsWith e none pos.line X.env = pure false:=by rfl):PSX X (.Expr e pos) (fun Ex=>zr0 (tx Ex)):=by
 intro zk s σ H D Ex E' I h hX
 exact wpAny_Expr_any (thn (he zk s σ H _ Ex E' I h hX) fun v s1 ⟨x,H1,I1,r1,q1⟩=>⟨σ,H1,I1,q1⟩) I.quiet hs
end
theorem ztD {P:Program} {w:World} {H:Hp} {h:Heap} {a C:Addr} {o:Obj} (e:h.get? a = some o) (c:o.cls = .ref C) (hf:∃ vs,o.data = .fields vs):ObjOk P w H h a (exO a C o.dict) :=
 ⟨⟨o,e,c,rfl,hf⟩,⟨o,e⟩,fun h1 h2 ⟨o,e,c,d⟩ k=>⟨o,k o e,c,d⟩⟩
abbrev Cx.suite (X:Cx) (a:Addr):Cx:={ X with A:=X.A.mark (some (.ref a)),calm:=false,xe:=fun _ _=>False }
theorem Cx.Ok.suite {X:Cx} (ok:X.Ok) (a:Addr):(X.suite a).Ok :=
 ⟨ok.mod,ok.kind,ok.glob,ok.blt,ok.above,ok.inj,ok.has,ok.cab,(fun z=>Bool.noConfusion z),ok.frames,ok.stk,ok.exf,ok.bs,ok.bsz,ok.noex,ok.exfs,ok.funs,ok.frf⟩
section
variable {X:Cx} {zk:List (Addr × Obj)} {σ:St} {H:Hp} {s:Shared} {a:Addr}
theorem Inv.suite (I:Inv X zk σ H s) (a:Addr):Inv (X.suite a) zk σ H s:=⟨I.ok.suite a,I.os,I.bare,I.base,I.loc,I.cell,I.free,I.freeC,I.pin,I.hok,I.len⟩
theorem Inv.unsuite (I:Inv (X.suite a) zk σ H s) (ok:X.Ok):Inv X zk σ H s:=⟨ok,I.os,I.bare,I.base,I.loc,I.cell,I.free,I.freeC,I.pin,I.hok,I.len⟩
theorem Inv.gone {h':Heap} {m':Str->Option Value} {t':Nat} (I:Inv X zk σ H s) (hn:h'.Ns X.env.locals m') (sb:Heap.SameBut X.env.locals s.heap h'):Inv X zk (List.replicate X.N.length none) H { s with heap:=h',toks:=t' }:=by
 have ne:∀ b o,X.s₀.heap.get? b = some o->b ≠ X.env.locals:=fun b o e=>Nat.ne_of_lt (Nat.lt_of_lt_of_le (Heap.lt_size e) I.ok.above)
 refine ⟨I.ok,I.os,I.bare,⟨fun b o e n hb hx=>?_,fun b o e n hb hx=>?_,I.base.free,fun b o e hx=>?_,I.base.tups,I.base.frzs,I.base.tbls⟩,⟨m',hn,fun i x v _ e2 _=>?_⟩,fun x c e=>?_,I.free,I.freeC,fun p hp=>?_,I.hok.stays fun b u e o q=>?_,by simp⟩
 ·exact (sb.2 b (ne b o e)).trans (I.base.keep b o e n hb hx)
 ·obtain ⟨sl,q⟩:=I.base.slot b o e n hb hx
  exact ⟨sl,(sb.2 b (ne b o e)).trans q⟩
 ·obtain ⟨o',q⟩:=I.base.there b o e hx
  exact ⟨o',(sb.2 b (ne b o e)).trans q⟩
 ·rw [List.getElem?_replicate] at e2
  split at e2 <;> cases e2
 ·obtain ⟨v,o,ho,hd⟩:=I.cell x c e
  exact ⟨v,o,(sb.2 c (I.cne x c e)).trans ho,hd⟩
 ·obtain ⟨e,n,ne',nf,d⟩:=I.pin p hp
  exact ⟨(sb.2 _ ne').trans e,n,ne',nf,d⟩
 ·refine (sb.2 b ?_).trans q
  rintro rfl
  rw [I.free] at e
  cases e
end
section
variable {X:Cx} {G n:Str} {gp hpos pos:Pos} {i:Nat} {b₀ st:Stmt} {suite:List Stmt} {GA:Addr} {iniG:Option Value} {tb:XK->TS} {ts:TS}
def caught (K:W.Frag) (GA:Addr) (i:Nat) (ts:TS) (D:Ends) (σ:St):XK:=fun cls a H'=>∃ C b ini,cls = .ref C/\a = some b/\ExCls K C ini/\PySem.W.mroIn K C (.ref GA) = some true /\
 ts { nx:=fun _ _=>False,rt:=D.rt } (σ.set i (some (.ref b))) H'
def zvT (K:W.Frag) (GA:Addr) (i:Nat) (tb:XK->TS) (ts:TS):TS:=fun D σ H=>tb (caught K GA i ts D σ) D σ H
theorem zub (hx:∀ e s,X.xe e s->False) (hst:X.stack = X.env :: X.outer) (hfr:X.env.frame = some X.env.locals) (hN:X.N.Nodup) (hi:X.N[i]? = some n) (hl:X.env.kindOf n = some .local) (hg:Gl X G) (hm:X.mg G = some (.ref GA)) (qG:ExCls X.K GA iniG)
  (hb:PSX X st tb) (hs:∀ a,PSs (X.suite a) (b₀ :: suite) ts) (hdb:(G == ("__debug__":Str)) = false:=by decide) :
  PS X (.Try [st] [.ExceptHandler (some (.Name G gp)) (some n) (b₀ :: suite) hpos] [] [] pos) (zvT X.K GA i tb ts):=by
 intro zk s σ H D I h
 refine wpAny_Try_except (wpAny_execs_cons (wpAny_mono (hb zk s σ H D _ (fun e s₁=>wpAny (model X.prog X.w) X.A (noteFrame e X.env) (fun _ s₂=>wpAny (model X.prog X.w) X.A (setFlight e none) (fun _ s₃=>wpAny (model X.prog X.w) X.A (handleBy e X.env [.ExceptHandler (some (.Name G gp)) (some n) (b₀ :: suite) hpos]) (SP X zk D) X.xe s₃) X.xe s₂) X.xe s₁) I h ?_) (fun fl s1 q=>?_) fun _ _ z=>z))
 rotate_left
 ·cases fl with
  | next=>exact wpAny_execs_nil (wpAny_execs_nil q)
  | ret v=>exact q
  | brk=>exact q
  | cont=>exact q
 intro H1 s1 v s' I1 cx
 obtain ⟨H',a,C,dx,rfl,F,C',b,ini,eC,eb,qC,hin,hts⟩:=cx
 cases eC
 cases eb
 obtain ⟨B,t,fl,kB,eB,tB⟩:=F.fl
 rw [hst] at fl
 have frames:X.A.frames = some (X.env :: X.outer):=by rw [I1.ok.frames,hst]
 refine zmB frames hfr fl fun h₄ held₄ sm₄=>?_
 refine zuo held₄ fun h₅ fl₅ sm₅=>?_
 have bB:∀ b o,X.base.get? b = some o->B.get? b = some o:=fun b o e=>kB b o (I1.bk b o e) (I1.bs b o e).2 fun z=>by
  have:=(I1.stack.mem z).1
  rw [e] at this
  cases this
 have kin:X.K.In h₅:=I1.ok.mod.kin.keeps fun b o e=>fl₅.1 b o (bB b o e)
 obtain ⟨oe,hoe,hoc,_⟩:=fl₅.there
 refine wpAny_handleBy_cons (codeAny_handlers_test ?_) (by intro q; cases q)
 refine Calls.Name_function_global I1.ok.kind hg (Calls.loadGlobal_global (by rw [I1.ok.glob]; exact I1.mod.glob.keeps fun b o e=>fl₅.1 b o (bB b o e)) hm ?_) hdb
 refine zgY kin qC qG hoe hoc hin (codeAny_handlers_suite_as ?_)
 refine zik fl₅ fun h₆ fl₆ sm₆=>?_
 obtain ⟨oe6,hoe6,hoc6,hod6⟩:=fl₆.there
 subst hod6
 have sm:s'.heap.UpToSlots h₆:=(sm₄.trans sm₅).trans sm₆
 have na:H' a = none:=by
  cases z:H' a with
  | none=>rfl
  | some u =>
   obtain ⟨o,q⟩:=tB a u z
   rw [fl.2.1] at q
   cases q
 have new:∀ b o,s1.heap.get? b = some o->b ≠ a:=fun b o q z=>by
  subst z
  rcases eB b o q with z | ⟨o',z⟩
  ·rw [hst] at z
   obtain ⟨_,o2,q2,nf⟩:=fl₆.2.2.1.mem z
   obtain ⟨oe7,vs7,q7,_,d7,_⟩:=fl₆.first
   rw [q2] at q7
   cases q7
   exact nf _ d7
  ·rw [fl.2.1] at z
   cases z
 have I6:Inv X zk σ (upd H' a (exO a C oe6.dict)) { s' with heap:=h₆ }:=by
  refine I1.call' (ch:=[]) F.os ⟨fun b o q n hb _=>fl₆.1 b o (kB b o q n hb),fun b o q n hb _=>?_,fun b o q n _=>?_,fun b o q _=>?_,fun b xs q=>?_,fun b o u q=>?_,fun b ps q=>?_⟩ ?_ F.bare (fun b z=>absurd z (by simp))
  ·obtain ⟨sl,q1⟩:=F.un.any q n (by simp)
   rw [hst] at hb
   obtain ⟨_,o3,q3,nf⟩:=fl.2.2.1.mem hb
   rw [q1] at q3
   cases q3
   obtain ⟨sl3,q4⟩:=sm b _ q1 nf
   exact ⟨sl3,q4⟩
  ·rw [zO (new b o q)]
   exact F.un.free b o q n (by simp)
  ·rcases eB b o q with z | ⟨o',z⟩
   ·rw [hst] at z
    obtain ⟨_,o3,q3,_⟩:=fl₆.2.2.1.mem z
    exact ⟨o3,q3⟩
   ·exact ⟨o',fl₆.1 b o' z⟩
  ·have q2:=F.un.tups b xs q
   rw [zO (zX q2 na)]
   exact q2
  ·have q2:=F.un.frzs b o u q
   rw [zO (zX q2 na)]
   exact q2
  ·obtain ⟨m,q2⟩:=F.un.tbls b ps q
   exact ⟨m,by rw [zO (zX q2 na)]; exact q2⟩
  ·intro b u q
   by_cases hb:b = a
   ·subst hb
    rw [zN] at q
    cases q
    exact ztD hoe6 hoc6 (by
     obtain ⟨oe7,vs7,q7,_,d7,_⟩:=fl₆.first
     rw [hoe6] at q7
     cases q7
     exact ⟨_,d7⟩)
   ·rw [zO hb] at q
    refine (F.hok b u q).stay (fun c v hc q1=>?_) (fun c q1=>by rw [zO (zX q1 na)]; exact q1) fun c xs q1=>by rw [zO (zX q1 na)]; exact q1
    have tr:∀ c u,H' c = some u->s'.heap.get? c = some v->h₆.get? c = some v:=fun c u e q1=>by
     obtain ⟨o',z⟩:=tB c u e
     have:=fl.1 c o' z
     rw [q1] at this
     cases this
     exact fl₆.1 c v z
    rcases hc with rfl | hc
    ·exact tr _ _ q q1
    ·exact tr _ _ hc q1
 have hiσ:σ.length = X.N.length:=I6.len
 refine zfF (v:=.ref a) I6 hN hi (.inl hl) rfl (fun s7 I7=>?_) (.inr hl)
 refine wpAny_mono (hs a zk s7 _ _ _ (I7.suite a) hts) (fun f8 s8 q=>?_) fun _ _ z=>z.elim
 cases f8 with
 | ret u =>
  obtain ⟨w,σ8,H8,I8,r8,q8⟩:=q
  have J:=I8.unsuite I6.ok
  obtain ⟨m8,hn8,_⟩:=J.loc
  have hcls:(X.env.scope.kind == .class || (X.env.scope.kind == .module && X.env.locals != X.env.globals)) = false:=by rw [J.ok.kind]; rfl
  refine wpAny_nameGoes hl hn8 hcls fun h9 m9 hn9 sb9=>?_
  exact ⟨w,_,H8,J.gone hn9 sb9,r8,q8⟩
 | next=>obtain ⟨_,_,_,z⟩:=q; exact z.elim
 | brk=>obtain ⟨_,_,_,z⟩:=q; exact z.elim
 | cont=>obtain ⟨_,_,_,z⟩:=q; exact z.elim
end
end
section
structure RoomN (k:Nat) (A:Around):Prop where
 dp:A.depth + 3 * k + 5 < recursionLimit
 un:A.units + 16 * k + 200 < cLine
theorem Room.suite {k:Nat} {A:Around} (r:Room k A) (a:Addr):RoomN k (A.mark (some (.ref a))):=⟨r.dp,r.un⟩
theorem RoomN.mono {j k:Nat} {A:Around} (r:RoomN k A) (h:j <= k):RoomN j A:=⟨by have:=r.dp; omega,by have:=r.un; omega⟩
theorem RoomN.deeper {k:Nat} {A:Around} (r:RoomN (k + 1) A) (env:Env):RoomN k (A.deeper env) :=
 ⟨by have:=r.dp; show A.depth + 1 + 3 * k + 5 < _; omega,by have:=r.un; show A.units + 3 + 16 * k + 200 < _; omega⟩
theorem RoomN.depth {k:Nat} {A:Around} (r:RoomN k A):A.depth < recursionLimit:=by have:=r.dp; omega
theorem RoomN.units {k:Nat} {A:Around} (r:RoomN k A):A.units + 64 < cLine:=by have:=r.un; omega
structure FnOkN (P:Program) (w:World) (K:W.Frag) (mg:Str->Option Value) (base:Heap) (CX:CXT) (k:Nat) (f:Addr) (fd:FuncData) (ps:List Str) (sp:Sp):Prop where
 len:∀ vs H Q E,sp vs H Q E->vs.length = ps.length
 run:∀ (A:Around) (outer:List Env) (s:Shared) (H:Hp) (args:Args) (us:List Value) (vs:List V) (Q:VK) (E:XK),RoomN k A->Env0 P w K mg base A outer s H->BindsTo s fd args (ps.zip us)->Vals vs us->sp vs H Q E ->
  codeAny (model P w) A (.call (.ref f) args) (CR CX outer P w H s Q E) s
abbrev cxN (P:Program) (w:World) (K:W.Frag) (mg:Str->Option Value) (base:Heap) (N:List Str) (qual:Str) (scope:Scope) (f:Addr) (cd:Value) (A:Around) (outer:List Env) (s:Shared) (H:Hp):Cx :=
 { zhc CX0 P w K mg base N qual scope f cd A outer s H E0 with calm:=false,xe:=fun _ _=>False }
section
variable {P:Program} {w:World} {K:W.Frag} {mg:Str->Option Value} {base:Heap} {k:Nat}
theorem ztw {f:Addr} {name qual:Str} {params:Arguments} {body:List Stmt} {scope:Scope} {dV kV doc pm cdv ct oc:Value} {an od:Option Addr}
  {osl:Array (Option Value)} {N ps:List Str} {sp:Sp} (lk:K.lookup f = some ⟨oc,od,.func (PySem.W.fnOf name qual params body scope dV kV doc pm an cdv ct),osl⟩) (hcd:PySem.W.codeIn K cdv qual = true) (S:FnScope N ps scope)
  (len:∀ vs H Q E,sp vs H Q E->vs.length = ps.length)
  (hbody:∀ (A:Around) (outer:List Env) (s:Shared) (H:Hp) (vs:List V) (Q:VK) (E:XK),RoomN k (A.deeper (envOfC qual scope s.heap.objs.size f cdv))->sp vs H Q E ->
   ∃ t,PSs (cxN P w K mg base N qual scope f cdv A outer s H) body t/\t { nx:=fun _ H'=>Q .non H',rt:=Q } (start N vs) H) :
  FnOkN P w K mg base CX0 (k + 1) f (PySem.W.fnOf name qual params body scope dV kV doc pm an cdv ct) ps sp:=by
 refine ⟨len,fun A outer s H args us vs Q E hr e0 hb r hsp=>?_⟩
 have hl:=len _ _ _ _ hsp
 have KX:K.In s.heap:=e0.mod.kin.keeps fun b o e=>(e0.bs b o e).1
 have lim:s.heap.NoLimit:=e0.mod.nolimit.keeps fun b o e=>(e0.bs b o e).1
 have hkind:∀ y ∈ ps.zip us,scope.names.lookup y.1 = some .local\/(scope.names.lookup y.1 = some .cell/\((cellsFrom (s.heap.objs.size + 1) scope.names []).lookup y.1).isSome = true):=fun ⟨n,v⟩ hy=>by
  rcases S.par n (List.of_mem_zip hy).1 with q | q
  ·exact .inl q
  ·exact .inr ⟨q,PySem.W.cellsFrom_some _ _ _ (.inl q)⟩
 refine codeAny_call_function hr.depth (KX _ _ lk) rfl S.co S.gen rfl (PySem.W.codeRec_of KX hcd) (hb _ _ _ _ ?_)
 refine wpAny_newFunctionEnv_cells S.kind hkind fun env he s1 x=>?_
 subst he
 refine ⟨lim.keeps x.toInCall.keep,codeAny_func ?_⟩
 obtain ⟨t,ht,hq⟩:=hbody A outer s H vs Q E (hr.deeper _) hsp
 have e1:Env0 P w K mg base { A with handled:=none } outer s H:=⟨e0.frames,e0.mod,e0.bs,e0.bsz,e0.funs,e0.frf,e0.hok,e0.bare⟩
 have I0:Inv (zhc CX0 P w K mg base N qual scope f cdv { A with handled:=none } outer s H E0) [] (start N vs) H s1:=ziT S rfl e1 hl r x
 have I:Inv (cxN P w K mg base N qual scope f cdv A outer s H) [] (start N vs) H s1 :=
  ⟨⟨I0.ok.mod,I0.ok.kind,I0.ok.glob,I0.ok.blt,I0.ok.above,I0.ok.inj,I0.ok.has,I0.ok.cab,(fun z=>Bool.noConfusion z),Around.frames_deeper e0.frames,I0.ok.stk,I0.ok.exf,I0.ok.bs,I0.ok.bsz,I0.ok.noex,I0.ok.exfs,I0.ok.funs,I0.ok.frf⟩,
   I0.os,I0.bare,I0.base,I0.loc,I0.cell,I0.free,I0.freeC,I0.pin,I0.hok,I0.len⟩
 refine wpAny_mono (ht [] s1 (start N vs) H _ I hq) (fun fl s' hs=>?_) fun e s' hs=>hs.elim
 have fin:∀ {σ':St} {H':Hp} {v:V} {u:Value},Inv (cxN P w K mg base N qual scope f cdv A outer s H) [] σ' H' s'->RelV v u->Q v H'->CE outer P w H s Q u s' :=
  fun {σ' H' v u} J rv q=>⟨v,H',J.os,J.bare,J.base,J.hok,rv,q⟩
 cases fl with
 | ret u =>
  obtain ⟨v,σ',H',J,rv,q⟩:=hs
  exact fin J rv q
 | next =>
  obtain ⟨σ',H',J,q⟩:=hs
  exact fin (v:=V.non) (u:=Value.none) J rfl q
 | brk =>
  obtain ⟨_,_,_,q⟩:=hs
  exact False.elim q
 | cont =>
  obtain ⟨_,_,_,q⟩:=hs
  exact False.elim q
end
structure DfN (P:Program) (w:World) (K:W.Frag) (mg:Str->Option Value) (base:Heap) (x:Str) (ps:List Str) (k:Nat) (sp:Sp):Prop where
 ex:∃ f fd,FnOkN P w K mg base CX0 k f fd ps sp/\mg x = some (.ref f)/\PySem.W.keepIn K (.ref f) = true/\Binds K fd ps []
section
variable {P:Program} {w:World} {K:W.Frag} {mg:Str->Option Value} {base:Heap} {x:Str} {st:Stmt} {N ps:List Str} {k:Nat}
theorem DfN.dN {q:PN} (D:Dd K mg x st ps) (S:FnScope N ps (zp st)) (n:Nat) (hn:N.length = ps.length + n)
  (hbody:∀ (f:Addr) (cdv:Value) (A:Around) (outer:List Env) (s:Shared) (H:Hp),RoomN k (A.deeper (envOfC x (zp st) s.heap.objs.size f cdv)) ->
   ∃ t dt,PSs (cxN P w K mg base N x (zp st) f cdv A outer s H) (zba st) t/\RS t dt/\∀ xs S R,q xs S R->dt (zb3 S.length R) (xs.map some ++ List.replicate n none) S):DfN P w K mg base x ps (k + 1) (spN ps q):=by
 obtain ⟨f,fd,F,hm,hb⟩:=D.ex
 have kp:=F.kp
 obtain ⟨oc,od,kV,doc,pm,an,cdv,ct,osl,rfl,lk,hcd⟩:=F.ex
 refine ⟨f,_,ztw lk hcd S (fun vs H Q E h=>h.1) fun A outer s H vs Q E hr ⟨hl,h,o,S',xs,R,hs',hx,hq,c⟩=>?_,hm,kp,hb⟩
 obtain ⟨t,dt,h1,h2,h3⟩:=hbody f cdv A outer s H hr
 refine ⟨t,h1,h2 h o H _ _ S' _ _ ?_ hs' (h3 xs S' R hq) (eok hs' c)⟩
 have e:N.length - vs.length = n:=by omega
 unfold start
 rw [e]
 exact ze1 hx
end
section
variable {X:Cx} {x:Str} {ps:List Str} {k j:Nat} {pos pos':Pos} {e:Expr} {es:List Expr} {t:TA}
theorem zru {q:PN} (D:DfN X.prog X.w X.K X.mg X.base x ps k (spN ps q)) (hr:RoomN j X.A) (hk:k <= j) (ha:PA X (e :: es) t) (hg:Gl X x:=by rfl) (hdb:(x == ("__debug__":Str)) = false:=by decide)
  (q1:starEach (e :: es) X.env = (false,eval e X.env) :: starEach es X.env:=by rfl) (q2:((backTo pos (starEach es X.env)).any fun x=>x.fst) = false:=by rfl):PE X (.Call (.Name x pos') (e :: es) [] pos) (zi9 (spN ps q) [] E0 t):=by
 obtain ⟨f,fd,F,hm,kp,hb⟩:=D.ex
 intro zk s σ H Q I h
 refine wpAny_Call_Name_kw (zfa I hg hm ?_ hdb)
 refine PySem.W.callWith_K (h₀:=X.base) I.ok.mod.kin kp (thn (ha pos zk s σ H _ I h) fun us s1 ⟨vs,H1,I1,r,q5⟩=>⟨I1.kIn,?_⟩) q1 q2
 have q':spN ps q vs H1 Q E0:=by simpa using q5
 have hl:us.length = ps.length:=by rw [<- r.length]; exact F.len _ _ _ _ q'
 have hb1:=hb s1 us I1.kIn (by rw [List.append_nil]; exact hl)
 rw [List.append_nil] at hb1
 refine wpAny_call (codeAny_mono (F.run X.A X.stack s1 H1 ⟨us,[]⟩ us vs Q E0 (hr.mono hk) I1.env0 hb1 r q') fun r s' hq=>?_)
 cases r with
 | error e=>exact hq.elim
 | ok fl =>
  cases fl with
  | ret u=>exact I1.after hq
  | next=>exact False.elim hq
  | brk=>exact False.elim hq
  | cont=>exact False.elim hq
end
end
end L2
namespace L2
open PySem PySem.Spec PySem.Calls PyProof.Rows PySem.W PySem.Builtin PySem.Builtin.ObjectAttr PySem.Builtin.Getset_descriptor
section
variable {prog:Program} {w:World} {A:Around} {E:Value->Shared->Prop} {h:Heap} {g:Array GenState} {d:Drawn} {t:Nat} {os:OsState} {K:W.Frag} {x C:Addr} {ox:Obj} {od:Option Obj} {name:Str} {tk:Tok}
theorem zrI {tp:Value} {R:Result->Shared->Prop} (X:K.In h) (T0:∀ M,Looks M h (typeOf (.ref x)) (.ref C)) (hm:mroIn K C (.type "object") = some true)
  (hr:R (.ok (.ret (.ref C))) ⟨h,g,d,t,os⟩):codeAny (model prog w) A (.call (.builtin "getset_descriptor.__get__") ⟨[.builtin "object.__class__",.ref x,tp],[]⟩) R ⟨h,g,d,t,os⟩:=by
 have L0:=T0 (model prog w)
 have L1:=looks_mroIn (M:=model prog w) X hm
 refine codeAny_call_builtin KF.slot_gs.plain KF.entry_gs (KF.slot_gs.check _ _ _ _ _ _ _ _ KF.type_class (KF.args_gs _ _ _) ?_)
 unfold Builtin.«getset_descriptor.__get__» descrGet
 rw [dga_obj]
 refine wpAny_bind (wpAny_pure ?_)
 unfold descrGetter descrCheckInstance descrNameAndClass isInstance
 simp only [KF.owner_class]
 repeat lk
 refine ⟨Code.quiet_builtin _ (by decide +kernel),codeAny_builtin KF.entry_class ?_⟩
 unfold Builtin.«object.__class__» shownTypeOf
 repeat lk
 exact hr
theorem zoa {M:Model} {a gt:Value} (X:K.In h) (ha:findIn K (.ref C) name = some (some a)) (hg:specialIn K a "__get__" = some (some gt)) (hd:takesIn K a = some true):Looks M h (find (.ref x) (.ref C) name) (.bind gt a):=by
 have L1:=looks_findIn (M:=M) X ha
 have L2:Looks M h (getOf (some a)) (some gt):=looks_specialIn X hg
 refine L1.andThen (L2.andThen ?_)
 have L3:=looks_takesIn (M:=M) X hd
 exact (show Looks M h (dataDescriptor? (some a) (some gt)) (some (gt,a)) from L3.andThen .now).andThen (Looks.tag .now)
theorem zoR {M:Model} {nameV:Value} {Q:Unit->Shared->Prop} (X:K.In h) (T0:∀ M,Looks M h (typeOf (.ref x)) (.ref C)) (hB:mroIn K C (.type "BaseException") = some true) (hq:Q () ⟨h,g,d,t,os⟩) :
  wpAny M A (checkBuiltinCall "BaseException.__getattribute__" ⟨[.ref x,nameV],[]⟩) Q E ⟨h,g,d,t,os⟩:=by
 have hk:builtinKind "BaseException.__getattribute__" = some .slot:=by decide +kernel
 have hsplit:splitId "BaseException.__getattribute__" = some ("BaseException","__getattribute__"):=by decide +kernel
 have ha:=F.args_bexc_ga (.ref x) nameV
 simp only [checkBuiltinCall,hk,hsplit]
 refine wpAny_bind ?_
 have L0:=T0 M
 have L1:=looks_mroIn (M:=M) X hB
 have L2:Looks M h (isInstance (.ref x) (.type "BaseException")) true:=L0.andThen L1
 refine L2.at ?_
 repeat (any_goals (first | assumption | wp_step))
theorem zgU {Q:Fin->Shared->Prop} (X:K.In h) (T0:∀ M,Looks M h (typeOf (.ref x)) (.ref C)) (hm:mroIn K C (.type "object") = some true) (hf:Looks (model prog w) h (find (.ref x) (.ref C) "__class__") (.bind (.builtin "getset_descriptor.__get__") (.builtin "object.__class__")))
  (hq:Q (.done (.ret (.ref C))) ⟨h,g,d,t,os⟩):wpAny (model prog w) A (Builtin.«object.__getattribute__» ⟨[.ref x,.str "__class__" tk],[]⟩) Q E ⟨h,g,d,t,os⟩:=by
 have L0:=T0 (model prog w)
 have L1:=hf
 unfold Builtin.«object.__getattribute__»
 repeat (any_goals (first | assumption | with_reducible refine L0.at ?_ | with_reducible refine L1.at ?_ | (refine wpAny_call (zrI X T0 hm ?_)) | wp_step))
structure ExAt (K:W.Frag) (C:Addr):Prop where
 ga:findIn K (.ref C) "__getattribute__" = some (some (.builtin "BaseException.__getattribute__"))
 gn:findIn K (.ref C) "__getattr__" = some none
 base:mroIn K C (.type "BaseException") = some true
theorem zvj {v:Value} {fill expr:Bool} {Q:Value->Shared->Prop} (X:K.In h) (T0:∀ M,Looks M h (typeOf (.ref x)) (.ref C)) (F0:ExAt K C)
  (en:∀ (A:Around) (Q:Fin->Shared->Prop) (E:Value->Shared->Prop),Q (.done (.ret v)) ⟨h,g,d,t,os⟩->wpAny (model prog w) A (Builtin.«object.__getattribute__» ⟨[.ref x,.str name tk],[]⟩) Q E ⟨h,g,d,t,os⟩)
  (hv:handedIn v = true) (hq:Q v ⟨h,g,d,t,os⟩):wpAny (model prog w) A (getAttrBy (.ref x) (.str name tk) fill expr) Q E ⟨h,g,d,t,os⟩:=by
 have f3:=F.attrBase_ValueError.ga.bind (.ref x)
 have hx0:(expr && onTheHeap (Value.builtin "BaseException.__getattribute__")) = false:=by cases expr <;> rfl
 have hx2:(Value.builtin "BaseException.__getattribute__" == Value.builtin "object.__getattribute__") = false:=by decide +kernel
 have hx1:(onTheHeap (Value.ref C) && Value.builtin "BaseException.__getattribute__" == Value.builtin "object.__getattribute__") = false:=by rw [hx2]; rfl
 have L0:=T0 (model prog w)
 have L1:=looks_findIn (M:=model prog w) X F0.ga
 have L2:=looks_findIn (M:=model prog w) X F0.gn
 repeat (any_goals (first | assumption | with_reducible refine L0.at ?_ | with_reducible refine L1.at ?_ | with_reducible refine L2.at ?_ | wp_step))
 exact codeAny_call_builtin F.attrBase_ValueError.ga.plain F.entry_bexc_ga (zoR X T0 F0.base (en _ _ _ (handed_on hv hq)))
theorem zpe {Q:Option Value->Shared->Prop} (X:K.In h) (T0:∀ M,Looks M h (typeOf (.ref x)) (.ref C)) (F0:ExAt K C) (hm:mroIn K C (.type "object") = some true) (hf:Looks (model prog w) h (find (.ref x) (.ref C) "__class__") (.bind (.builtin "getset_descriptor.__get__") (.builtin "object.__class__")))
  (hq:Q (some (.ref C)) ⟨h,g,d,t + 1,os⟩):wpAny (model prog w) A (getAttr? (.ref x) "__class__") Q E ⟨h,g,d,t,os⟩:=by
 unfold getAttr? getAttrBy?
 refine wpAny_bind (wpAny_mkText (wpAny_bind (wpAny_attempt (zvj (t:=t + 1) X T0 F0 (fun A Q E q=>zgU X T0 hm hf q) rfl ?_))))
 exact wpAny_pure hq
end
end L2
namespace L2
open PySem PySem.Spec PySem.Calls PyProof.Rows
structure SpK (K:W.Frag):Prop where
 hn:PySem.W.specialIn K (.builtin "object.__class__") "__get__" = some (some (.builtin "getset_descriptor.__get__"))
 ht:PySem.W.takesIn K (.builtin "object.__class__") = some true
def exM (C:Addr):List Value:=[.ref C,.ref 24,.type "ValueError",.type "Exception",.type "BaseException",.type "object"]
structure ExK (K:W.Frag) (C:Addr):Prop where
 ty:PySem.W.typeIn K (.ref C) = some (.type "type")
 ga:PySem.W.findIn K (.ref C) "__getattribute__" = some (some (.builtin "BaseException.__getattribute__"))
 gn:PySem.W.findIn K (.ref C) "__getattr__" = some none
 cls:PySem.W.findIn K (.ref C) "__class__" = some (some (.builtin "object.__class__"))
 mro:∃ cd,PySem.W.clsIn K C = some cd/\cd.mro = exM C
theorem ExK.mk' {K:W.Frag} {C:Addr} {cd:ClassData} (a:PySem.W.typeIn K (.ref C) = some (.type "type")) (b:PySem.W.findIn K (.ref C) "__getattribute__" = some (some (.builtin "BaseException.__getattribute__"))) (c:PySem.W.findIn K (.ref C) "__getattr__" = some none)
  (d:PySem.W.findIn K (.ref C) "__class__" = some (some (.builtin "object.__class__"))) (e:PySem.W.clsIn K C = some cd) (f:cd.mro = exM C):ExK K C:=⟨a,b,c,d,cd,e,f⟩
section
variable {K:W.Frag} {x C D:Addr}
theorem ExK.mroIn (E:ExK K C) (v:Value):PySem.W.mroIn K C v = some ((exM C).contains v):=by
 obtain ⟨cd,h1,h2⟩:=E.mro
 unfold PySem.W.mroIn
 rw [h1]
 show (if cd.mro.isEmpty = true then none else some (cd.mro.contains v)) = _
 rw [h2]
 rfl
theorem ExK.at_ (E:ExK K C):ExAt K C:=⟨E.ga,E.gn,(E.mroIn _).trans rfl⟩
def IsEx (x C:Addr) (h:Heap):Prop:=∃ o,h.get? x = some o/\o.cls = .ref C
theorem IsEx.ty {h:Heap} (p:IsEx x C h) (M:Model):PySem.W.Looks M h (typeOf (.ref x)) (.ref C):=by
 obtain ⟨o,e,c⟩:=p
 exact c ▸ (PySem.W.Looks.ld e).andThen .now
theorem zoH (E0:ExK K C) (S0:SpK K):PySem.W.KitX K (.ref x) (.ref C) (IsEx x C) where
 ty:=fun M h _ p=>p.ty M
 it:=fun M h X _=>by
  obtain ⟨cd,hc,_⟩:=E0.mro
  unfold PySem.W.clsIn at hc
  split at hc
  ·rename_i c' d' cd' sl' ho
   intro A' Q' E' s' k q
   unfold isType loadHead
   exact wpAny_bind (wpAny_loadPart (k _ _ (X _ _ ho)) (wpAny_pure q))
  ·cases hc
 ne:=fun h tp dd its n sl X htp=>by
  obtain ⟨cd,hc,_⟩:=E0.mro
  refine Bool.eq_false_iff.mpr fun q=>?_
  have e:C = tp:=Value.ref.inj (beq_iff_eq.mp q)
  subst e
  unfold PySem.W.clsIn at hc
  split at hc
  ·rename_i c' d' cd' sl' ho
   have z:=(X _ _ ho).symm.trans htp
   cases z
  ·cases hc
 ca:=fun {prog w A E Q s} X p k=>by
  obtain ⟨h,g,d,t,os⟩:=s
  exact zpe X p.ty E0.at_ ((E0.mroIn _).trans rfl) (zoa X E0.cls S0.hn S0.ht) k
def excs:List Addr:=[37,49,61,73,85,104,123,142,161,180]
def exc0:List Addr:=[37,49,61,73,85]
structure Exs (K:W.Frag):Prop where
 sp:SpK K
 all:∀ C ∈ excs,ExK K C
 cl:∀ C ∈ exc0,ExCls K C none
 ci:∀ C ∈ excs,∃ ini,ExCls K C ini
theorem Exs.kit (E:Exs K) (hC:C ∈ excs) (hD:D ∈ excs):PySem.W.kitOne K (.ref C) (.ref D) = some (decide (C = D)):=by
 have EC:=E.all C hC
 have ED:=E.all D hD
 obtain ⟨cdD,hD1,_⟩:=ED.mro
 unfold PySem.W.kitOne
 by_cases h:C = D
 ·subst h
  rw [if_pos (by simp),decide_eq_true rfl]
 ·rw [if_neg (by simpa using h),decide_eq_false h]
  show (if ((PySem.W.clsIn K D).isSome && PySem.W.typeIn K (.ref D) == some (.type "type")) = true then PySem.W.mroIn K C (.ref D) else none) = _
  rw [hD1,ED.ty,if_pos (by simp),EC.mroIn]
  have n24:D ≠ 24:=by
   rintro rfl
   revert hD
   decide
  have:(exM C).contains (.ref D) = false:=by
   unfold exM
   simp only [List.contains_cons,List.contains_nil,Bool.or_false,Bool.or_eq_false_iff]
   refine ⟨beq_eq_false_iff_ne.mpr fun z=>h (Value.ref.inj z).symm,beq_eq_false_iff_ne.mpr fun z=>n24 (Value.ref.inj z),?_⟩
   simp
  rw [this]
theorem Exs.kitV (E:Exs K) (hC:C ∈ excs):PySem.W.kitOne K (.ref C) (.type "ValueError") = some true:=by
 have EC:=E.all C hC
 unfold PySem.W.kitOne
 rw [if_neg (by simp)]
 show (if PySem.W.kitMeta "ValueError" = true then PySem.W.mroIn K C (.type "ValueError") else none) = _
 rw [if_pos (by decide +kernel),EC.mroIn]
 rfl
end
def zwi (K:W.Frag):List V->Hp->VK->Prop:=fun xs H Q=>∃ a C d c b,xs = [.ref a,c]/\H a = some (exO a C d)/\ExK K C/\SpK K/\(∀ u,RelV c u->PySem.W.kitOne K (.ref C) u = some b)/\Q (.bl b) H
theorem zbp {X:Cx}:CallR X (.builtin "isinstance") (zwi X.K):=by
 intro zk s σ H xs us Q I r h
 obtain ⟨a,C,d,c,b,rfl,ha,E0,S0,hk,q⟩:=h
 obtain ⟨u,w',rfl,ru,rw'⟩:=vals2 r
 cases (show u = Value.ref a from ru)
 obtain ⟨⟨o,e,hc,_⟩,_⟩:=(show ObjOk X.prog X.w H s.heap a (exO a C d) from I.hok a _ ha)
 exact PySem.W.kia_one (zoH E0 S0) I.kIn ⟨o,e,hc⟩ (hk _ rw') (fun z=>nomatch z) fun tk=>⟨.bl b,H,I.tok tk,rfl,q⟩
def zkx:List XV->Sto->RX->Prop:=fun xs S R=>arg2 xs fun x y=>∃ C fs c,x = .x C fs/\y = .o c/\C ∈ excs/\((∃ D,c = .ref D/\D ∈ excs/\R (.d (.bool (decide (C = D)))) S)\/(c = .ty "ValueError"/\R (.d (.bool true)) S))
theorem zdH {K:W.Frag} (E:Exs K):RC (zwi K) zkx:=fun h o H S xs vs R Q hs hx q c=>by
 obtain ⟨x,y,rfl,C,fs,k,rfl,rfl,hC,q1⟩:=zgr q
 obtain ⟨v,u,rfl,hx1,hx2⟩:=hxs2 hx
 obtain ⟨a,d,rfl,ha,_⟩:=hx1
 cases (show u = k from hx2)
 rcases q1 with ⟨D,rfl,hD,q2⟩ | ⟨rfl,q2⟩
 ·exact ⟨a,C,d,_,_,rfl,zaj _ _ ha,E.all C hC,E.sp,fun u ru=>by cases (show u = Value.ref D from ru); exact E.kit hC hD,c o H S _ _ Ex.refl hs (xB _) q2⟩
 ·exact ⟨a,C,d,_,_,rfl,zaj _ _ ha,E.all C hC,E.sp,fun u ru=>by cases (show u = Value.type "ValueError" from ru); exact E.kitV hC,c o H S _ _ Ex.refl hs (xB _) q2⟩
def zoe:V->List V->Hp->VK->Prop:=fun x vs H Q=>∃ bs:List Bool,Has H (.list (bs.map PyData.bool)) x/\vs = [.bl true]/\Q (.int (bs.countP id)) H
theorem znz {X:Cx}:MtR X "list.count" zoe:=by
 intro zk s σ H x vs v us Q I rx rv h
 obtain ⟨bs,hl,rfl,q⟩:=h
 obtain ⟨u,rfl,r1⟩:=rv.one
 cases (show u = Value.bool true from r1)
 have cl:PyData.canLay0 (.list (bs.map PyData.bool)) = true:=SeqAt.canLay_of_shaped (zhN (zhQ fun _ _=>(zky:Shp 0 _))).ok
 obtain ⟨as,q2⟩:=Has.reads I (.list (bs.map PyData.bool)) x v hl cl rx
 cases q2 with
 | @list l o vs n xs as₁ h1 h2 h3 h4 =>
  refine count_list_bools (vs:=vs.toList) ⟨o,h1,h2,n,by simpa using h3⟩ h4 (by simp [Shape.has]) ?_
  refine ⟨.int (bs.countP id),H,I.tok _,⟨s.toks,?_⟩,q⟩
  have:∀ bs:List Bool,countIn (.bool true) (bs.map PyData.bool) = (bs.countP id:Int):=fun bs=>by
   induction bs with
   | nil=>rfl
   | cons b bs ih =>
    rw [List.map_cons,List.countP_cons]
    show (if same (.bool b) (.bool true) then (1:Int) else 0) + countIn (.bool true) (bs.map PyData.bool) = _
    rw [ih]
    cases b
    ·show (0:Int) + _ = _
     simp
    ·show (1:Int) + _ = _
     simp
     omega
  rw [this]
def zhD:XV->List XV->Sto->RX->Prop:=fun x xs S R=>arg1 xs fun y=>y = .d (.bool true)/\∃ ds,zgP S x = some ds/\∃ bs:List Bool,ds = bs.map PyData.bool/\R (.d (.int (bs.countP id))) S
theorem zlR:RM zoe zhD:=fun h o H S x v xs vs R Q hs hx hxs q c=>by
 obtain ⟨y,rfl,rfl,ds,e2,bs,rfl,q1⟩:=za3 q
 obtain ⟨u,rfl,hu⟩:=hxs1 hxs
 have hl:Has H (.list (bs.map PyData.bool)) v:=zdE (x:=x) hs (by
  unfold zgP at e2
  split at e2
  ·cases e2; rfl
  ·rename_i k; show (S[k]?).map PyData.list = _; rw [e2]; rfl
  ·cases e2) hx
 cases zdz hu
 exact ⟨bs,hl,rfl,c o H S _ _ Ex.refl hs (xI _) q1⟩
def zk2 (q:PN) (da:DA):DE:=fun δ S R=>da δ S fun xs S1=>∃ C fs,xs = [.x C fs]/\q [.x C fs] [] (ret0 S1 R)
theorem hxE {h o:List Addr} {H:Hp} {C:Addr} {fs:List (Str × PyData)} {v:V} (hx:HasX h o H (.x C fs) v):HasX (h ++ o) [] H (.x C fs) v:=by
 have e:vx (h ++ o) [] H = vx h o H:=ziw fun b=>by simp
 show HasE (vx (h ++ o) [] H) C fs v
 rw [e]
 exact hx
theorem zoA {ps:List Str} {q:PN} {tl:TA} {dl:DA} (hp:ps.length = 1) (ha:RA tl dl):RE (zi9 (spN ps q) [] E0 tl) (zk2 q dl):=fun h o H δ σ S R Q he hs d c =>
 ha h o H δ σ S _ _ he hs d fun o1 H1 S1 xs vs e1 s1 x1 ⟨C,fs,exs,d1⟩=>by
  subst exs
  obtain ⟨v,rfl,hv⟩:=hxs1 x1
  refine ⟨by simp [hp],h ++ o1,[],[],[.x C fs],_,rep0 s1,⟨v,[],rfl,hxE hv,rfl⟩,d1,cn0 s1 (c.pre e1)⟩
end L2
namespace L2
open PySem PySem.Spec PyProof.Rows
section
abbrev EXD:=Addr->List (Str × PyData)->Prop
abbrev PX:=List XV->Sto->RX->EXD->Prop
def CnX (h o:List Addr) (H:Hp) (EX:EXD) (E:XK):Prop:=∀ o' H' S' C a fs,Ex o H o' H'->RepS h o' H' S'->HasE (vx h o' H') C fs (.ref a)->EX C fs->E (.ref C) (some a) H'
theorem CnX.pre {h o o':List Addr} {H H':Hp} {EX:EXD} {E:XK} (c:CnX h o H EX E) (e:Ex o H o' H'):CnX h o' H' EX E:=fun o2 H2 S2 C a fs e2=>c o2 H2 S2 C a fs (e.trans e2)
def RSx (E:XK) (EX:EXD) (t:TS) (dt:DS):Prop:=∀ (h o:List Addr) (H:Hp) (δ:XE) (σ:St) (S:Sto) (En:DEnds) (D:Ends),RepE h o H δ σ->RepS h o H S->dt En δ S->EOk h o H En D->CnX h o H EX E->t D σ H
section
variable {E:XK} {EX:EXD} {t u:TS} {dt du:DS}
theorem ze8 (ht:RS t dt):RSx E EX t dt:=fun h o H δ σ S En D he hs q c _=>ht h o H δ σ S En D he hs q c
theorem zk9 (ht:RSx E EX t dt) (hu:RSx E EX u du):RSx E EX (zjr t u) (zW dt du):=fun h o H δ σ S En D he hs q c x =>
 ht h o H δ σ S _ _ he hs q ⟨fun o1 H1 δ1 S1 σ1 e1 he1 hs1 q1=>hu h o1 H1 δ1 σ1 S1 En D he1 hs1 q1 (c.pre e1) (x.pre e1),c.rt,c.bk,c.ct⟩ x
def zhH (EX:EXD) (C:Addr):DS:=fun _ _ _=>EX C []
theorem zm1 {C:Addr}:RSx E EX (zn1 E C) (zhH EX C):=fun h o H δ σ S En D he hs q c x a ha=>by
 have sU:Same H (upd H a (exO a C none)):=Same.laid ha
 have fr:=hs.fresh ha
 exact x o _ S C a [] (Ex.of_same sU) (hs.same sU) ⟨a,none,rfl,zae.mpr ⟨fr.1,fr.2,zN⟩,fun f dt z=>by cases z⟩ q
end
theorem zuc {X:Cx} {st:Stmt} {t:TS} (h:PS X.nox st t):PS X st t:=fun zk s σ H D I hw =>
 wpAny_mono (h zk s σ H D (I.wish _) hw) (fun _ _ q=>q.unwish) fun _ _ z=>False.elim z
def spX (ps:List Str) (q:PX):Sp:=fun vs H Q E=>vs.length = ps.length/\∃ h o S xs R EX,RepS h o H S/\HasXs h o H xs vs/\q xs S R EX/\Cn h o H R Q/\CnX h o H EX E
structure DfX (P:Program) (w:World) (K:W.Frag) (mg:Str->Option Value) (base:Heap) (x:Str) (ps:List Str) (k:Nat) (sp:Sp):Prop where
 ex:∃ f fd,FnOk P w K mg base (CX1 P w) k f fd ps sp/\mg x = some (.ref f)/\PySem.W.keepIn K (.ref f) = true/\Binds K fd ps []
section
variable {P:Program} {w:World} {K:W.Frag} {mg:Str->Option Value} {base:Heap} {x:Str} {st:Stmt} {N ps:List Str} {k:Nat}
theorem DfX.dN {q:PX} (D:Dd K mg x st ps) (S:FnScope N ps (zp st)) (n:Nat) (hn:N.length = ps.length + n)
  (hbody:∀ (f:Addr) (cdv:Value) (A:Around) (outer:List Env) (s:Shared) (H:Hp) (E:XK) (EX:EXD),Room k (A.deeper (envOfC x (zp st) s.heap.objs.size f cdv)) ->
   ∃ t dt,PSs (zhc (CX1 P w) P w K mg base N x (zp st) f cdv A outer s H E) (zba st) t/\RSx E EX t dt/\∀ xs S R,q xs S R EX->dt (zb3 S.length R) (xs.map some ++ List.replicate n none) S):DfX P w K mg base x ps (k + 1) (spX ps q):=by
 obtain ⟨f,fd,F,hm,hb⟩:=D.ex
 have kp:=F.kp
 obtain ⟨oc,od,kV,doc,pm,an,cdv,ct,osl,rfl,lk,hcd⟩:=F.ex
 refine ⟨f,_,zuh lk hcd S (fun vs H Q E h=>h.1) fun A outer s H vs Q E hr ⟨hl,h,o,S',xs,R,EX,hs',hx,hq,c,cx⟩=>?_,hm,kp,hb⟩
 obtain ⟨t,dt,h1,h2,h3⟩:=hbody f cdv A outer s H E EX hr
 refine ⟨t,h1,h2 h o H _ _ S' _ _ ?_ hs' (h3 xs S' R hq) (eok hs' c) cx⟩
 have e:N.length - vs.length = n:=by omega
 unfold start
 rw [e]
 exact ze1 hx
end
def zuw (sp:Sp) (t:TA):XK->TE:=fun Ex σ H Q=>t σ H fun vs H1=>sp vs H1 Q Ex
theorem zva {X:Cx} {q:PX} {x:Str} {ps:List Str} {k j:Nat} {pos pos':Pos} {e:Expr} {es:List Expr} {t:TA} (D:DfX X.prog X.w X.K X.mg X.base x ps k (spX ps q)) (hr:Room j X.A) (hk:k <= j) (hx:∀ e s,X.xe e s->False) (ha:PA X (e :: es) t) (hg:Gl X x:=by rfl) (hdb:(x == ("__debug__":Str)) = false:=by decide)
  (q1:starEach (e :: es) X.env = (false,eval e X.env) :: starEach es X.env:=by rfl) (q2:((backTo pos (starEach es X.env)).any fun x=>x.fst) = false:=by rfl):PEX X (.Call (.Name x pos') (e :: es) [] pos) (zuw (spX ps q) t):=by
 obtain ⟨f,fd,F,hm,kp,hb⟩:=D.ex
 exact zr1 hx F (hr.mono hk) hg hm kp hb ha hdb q1 q2
end
section
def zu2 (kn:DEnds->XE->RX) (m:Nat) (q:PX) (da:DA) (i:Nat) (hd:DS):DS:=fun En δ S=>da δ S fun xs S1=>∃ ds,datas xs = some ds/\ds.length = m /\
 q (ds.map XV.d) [] (ret0 S1 (kn En δ)) fun C fs=>C ∈ excs/\hd { nx:=fun _ _=>False,rt:=En.rt } (δ.set i (some (.x C fs))) S1
def KnOk (kn:DEnds->XE->RX) (kt:Ends->St->VK):Prop:=∀ (h o:List Addr) (H:Hp) (δ:XE) (σ:St) (En:DEnds) (D:Ends),RepE h o H δ σ->EOk h o H En D->Cn h o H (kn En δ) (kt D σ)
theorem hxs00 {h o:List Addr} {H:Hp}:∀ {es:List PyData} {vs:List V},HasXs h o H (es.map XV.d) vs->HasXs (h ++ o) [] H (es.map XV.d) vs
 | [],_,q=>q
 | d :: ds,vs,⟨v,r,e,hv,l⟩=>⟨v,r,e,hx0 hv,hxs00 l⟩
theorem zte {K:W.Frag} {i m:Nat} {ps:List Str} {q:PX} {tl:TA} {dl:DA} {ts:TS} {ds:DS} {kn:DEnds->XE->RX} {kt:Ends->St->VK} {tb:XK->TS} (X0:Exs K) (hm:ps.length = m) (hkn:KnOk kn kt) (htb:∀ Ex D σ H,tb Ex D σ H = (tl σ H fun vs H1=>spX ps q vs H1 (kt D σ) Ex)) (ha:RA tl dl) (hsu:RS ts ds) :
  RS (zvT K 24 i tb ts) (zu2 kn m q dl i ds):=fun h o H δ σ S En D he hs d c=>by
 show tb (caught K 24 i ts D σ) D σ H
 rw [htb]
 refine ha h o H δ σ S _ _ he hs d fun o1 H1 S1 xs vs e1 s1 x1 ⟨es,ees,hl,d1⟩=>?_
 have exs:=zbP ees
 subst exs
 refine ⟨by rw [x1.len,List.length_map,hl,hm],h ++ o1,[],[],es.map XV.d,_,_,rep0 s1,?_,d1,cn0 s1 (hkn h o1 H1 δ σ En D (he.mono e1) (c.pre e1)),?_⟩
 ·exact hxs00 x1
 ·intro o' H' S' C a fs e' s' hE ⟨hC,hh⟩
  have EC:=X0.all C hC
  obtain ⟨ini,qC⟩:=X0.ci C hC
  refine ⟨C,a,ini,rfl,rfl,qC,(EC.mroIn _).trans (by simp [exM]),?_⟩
  have sH:Same H1 H':=fun b u eb=>(e'.kp b u (by simp) eb).2
  have e2:Ex o1 H1 o1 H':=Ex.of_same sH
  have sv:Same (vx (h ++ o1) o' H') (vx h o1 H'):=fun b u eb=>by
   obtain ⟨n1,n2,n3⟩:=zae.mp eb
   exact zae.mpr ⟨fun z=>n1 (List.mem_append_left _ z),fun z=>n1 (List.mem_append_right _ z),n3⟩
  exact hsu h o1 _ (δ.set i (some (.x C fs))) (σ.set i (some (.ref a))) S1 _ _ (((he.mono e1).mono e2).set (HasE.mono sv hE)) (s1.same sH) hh ⟨fun _ _ _ _ _ _ _ _ z=>z.elim,(c.pre (e1.trans e2)).rt,fun _ _ _ _ _ _ _ _ z=>z.elim,fun _ _ _ _ _ _ _ _ z=>z.elim⟩
def knD:DEnds->XE->RX:=fun En δ _ S2=>En.nx δ S2
theorem zsn:KnOk knD (fun D σ _ H1=>D.nx σ H1):=fun h o H δ σ En D he c o' H' S' x v e hs _ q=>c.nx o' H' δ S' σ e (he.mono e) hs q
def knT (z:Str):DEnds->XE->RX:=fun En _ y S2=>asD y fun d=>En.rt (.d (.tuple [.str z,d])) S2
theorem zhZ:bootBuiltins "ValueError" = some (.type "ValueError"):=by decide +kernel
end
section
def zij:List XV->Sto->RX->Prop:=fun xs S R=>arg1 xs fun x=>∃ ns:List Int,x = .d (.tuple (ns.map PyData.int))/\ns.length < 60/\∀ ms:List Int,ms.Pairwise (· < ·)->(∀ x,x ∈ ms ↔ x ∈ ns)->R (.d (.list (ms.map PyData.int))) S
def zqc:List XV->Sto->RX->Prop:=fun xs S R=>arg1 xs fun x=>∃ ds,zgP S x = some ds/\∃ ns:List Int,ds = ns.map PyData.int/\ns.length < 60/\∀ ms:List Int,ms.Perm ns->ms.Pairwise (· <= ·)->R (.d (.list (ms.map PyData.int))) S
end
end L2
namespace L2
open PySem PySem.Spec PySem.Calls PyProof.Rows PySem.W PySem.Builtin PySem.Builtin.ObjectAttr
theorem zmb (self:Value) (C:Addr):refuseLoop self "__setattr__" (exM C) = pure ():=by
 unfold exM
 rw [refuseLoop_ref,refuseLoop_ref]
 exact F.store_ValueError.passes self
theorem ztR {K:W.Frag} {h:Heap} {C:Addr} {cd:ClassData} (X:K.In h) (e:clsIn K C = some cd):∃ c0 dd sl,h.get? C = some ⟨c0,dd,.cls cd,sl⟩:=by
 unfold clsIn at e
 split at e
 ·rename_i q
  cases e
  exact ⟨_,_,_,X _ _ q⟩
 ·cases e
section
variable {prog:Program} {w:World} {A:Around} {E:Value->Shared->Prop} {h:Heap} {g:Array GenState} {d:Drawn} {t:Nat} {os:OsState} {K:W.Frag} {x C:Addr} {o:Obj} {cd:ClassData} {name:Str} {v:Value} {mA:Str->Option Value}
def XAt (h:Heap) (x:Addr) (o:Obj) (mA:Str->Option Value):Prop:=h.get? x = some o/\(∀ c,o.data ≠ .cls c)/\((o.dict = none/\∀ n,mA n = none)\/∃ dx,o.dict = some dx/\dx ≠ x/\h.Ns1 dx mA)
theorem zpl {tk:Tok} {Q:Fin->Shared->Prop} {ns:List Str} (X:K.In h) (hcd:clsIn K C = some cd) (hm:cd.mro = exM C) (hdct:cd.hasDict = true) (hna:findIn K (.ref C) name = some none) (hc:o.cls = .ref C) (I:XAt h x o mA)
  (hq:∀ h' tk' dx,XAt h' x { o with dict:=some dx } (fun y=>if y = name then some v else mA y)->(o.dict = some dx\/o.dict = none/\h.objs.size <= dx)->(∀ b ob,b ≠ x->b ≠ dx->h.get? b = some ob->h'.get? b = some ob)->Q (.done (.ret .none)) ⟨h',g,d,tk',os⟩)
  (hw:Within mA ns) (hsz:ns.length + 1 <= sizeLine) :
  wpAny (model prog w) A (Builtin.«object.__setattr__» ⟨[.ref x,.str name tk,v],[]⟩) Q E ⟨h,g,d,t,os⟩:=by
 obtain ⟨hx,hnc,hd⟩:=I
 have hpass:=zmb (.ref x) C
 have Lm:Looks (model prog w) h (mroOf (.ref C)) (exM C):=by rw [<- hm]; exact (looks_clsIn X hcd).andThen .now
 have La:=looks_findIn (M:=model prog w) X hna
 obtain ⟨c0,dd,sl,hC⟩:=ztR X hcd
 unfold Builtin.«object.__setattr__»
 repeat (first | with_reducible refine wpAny_loadPart_at hC ?_ | rw [refuse_eq] | rw [hpass] | (with_reducible refine wpAny_loadPart_at hx ?_; rw [hc]) | with_reducible refine Lm.at ?_ | with_reducible refine La.at ?_ | wp_step)
 rcases hd with ⟨hdn,hmA⟩ | ⟨dx,hdx,hne,hns⟩
 ·rw [hdn,if_neg (by simp [typeHasDict])]
  split
  ·rename_i z
   cases z
  split
  ·rename_i c z
   exact absurd z (hnc c)
  have hx1:(h.push { cls:=.type "dict",data:=.dict #[] }).get? x = some o:=Heap.get?_push_of_some _ hx
  have hxs:x ≠ h.objs.size:=Nat.ne_of_lt (Heap.lt_size hx)
  refine wpAny_bind (wpAny_alloc' (wpAny_bind (wpAny_update' hx1 (wpAny_pure ?_))))
  have gd:((h.push { cls:=.type "dict",data:=.dict #[] }).update x fun o=>{ cls:=o.cls,dict:=some h.objs.size,data:=o.data,slots:=o.slots }).get? h.objs.size = some { cls:=.type "dict",data:=.dict #[] } :=
   (Heap.get?_update_ne _ _ _ _ hxs.symm).trans (Heap.get?_push_at rfl rfl)
  have nd:((h.push { cls:=.type "dict",data:=.dict #[] }).update x fun o=>{ cls:=o.cls,dict:=some h.objs.size,data:=o.data,slots:=o.slots }).Ns h.objs.size (fun _=>none) :=
   ⟨_,#[],_,gd,rfl,fun e he=>absurd he (by simp),fun _=>rfl⟩
  show wpAny _ _ (storeInDict h.objs.size (.str name tk) name v) _ _ _
  unfold storeInDict newKeyGuard
  refine wpAny_bind (wpAny_pure (wpAny_bind (wpAny_nsSet1 (Heap.Ns1.of_empty nd) fun h' hn' hs=>?_)))
  obtain ⟨oD,esD,epD,hoD,hdD,hcD⟩:=hn'.count (Within.cons name v Within.nil)
  refine wpAny_bind (wpAny_lookBehind hoD (by rw [hdD]; exact pastItsLine_dict (Nat.le_trans hcD (by rw [List.length_cons,List.length_nil,sizeLine_eq]; omega))) ?_)
  wp_walk
  have hx':h'.get? x = some { cls:=o.cls,dict:=some h.objs.size,data:=o.data,slots:=o.slots }:=by
   refine (hs.2 x hxs).trans (Heap.get?_update_self _ hx1 ?_)
   have hfr:=(Heap.get?_some_iff.mp hx).2
   obtain ⟨oc,od,odt,osl⟩:=o
   cases odt <;> first | rfl | exact hfr
  refine hq h' _ h.objs.size ⟨hx',hnc,.inr ⟨h.objs.size,rfl,hxs.symm,?_⟩⟩ (.inr ⟨hdn,Nat.le_refl _⟩) (fun b ob nb n2 q=>(hs.2 b n2).trans ((Heap.get?_update_ne _ _ _ _ nb).trans (Heap.get?_push_of_some _ q)))
  obtain ⟨o',es,ep,e1,e2,e3,eu,e4⟩:=hn'
  exact ⟨o',es,ep,e1,e2,e3,eu,fun y=>by rw [e4 y]; by_cases hy:y = name <;> simp [hy,hmA]⟩
 ·rw [hdx]
  refine wpAny_pure ?_
  show wpAny _ _ (storeInDict dx (.str name tk) name v) _ _ _
  unfold storeInDict newKeyGuard
  refine wpAny_bind (wpAny_pure (wpAny_bind (wpAny_nsSet1 hns fun h' hn' hs=>?_)))
  obtain ⟨oD,esD,epD,hoD,hdD,hcD⟩:=hn'.count (Within.cons name v hw)
  refine wpAny_bind (wpAny_lookBehind hoD (by rw [hdD]; exact pastItsLine_dict (Nat.le_trans hcD (by rw [List.length_cons]; omega))) ?_)
  wp_walk
  have eo:({ o with dict:=some dx }:Obj) = o:=by rw [<- hdx]
  refine hq h' _ dx ?_ (.inl hdx) fun b ob _ nd q=>(hs.2 b nd).trans q
  rw [eo]
  exact ⟨(hs.2 x hne.symm).trans hx,hnc,.inr ⟨dx,hdx,hne,hn'⟩⟩
theorem zg5 {Q:Unit->Shared->Prop} {ns:List Str} (X:K.In h) (hcd:clsIn K C = some cd) (hm:cd.mro = exM C) (hdct:cd.hasDict = true) (hsa:findIn K (.ref C) "__setattr__" = some (some (.builtin "object.__setattr__"))) (hna:findIn K (.ref C) name = some none) (hob:mroIn K C (.type "object") = some true) (hc:o.cls = .ref C) (I:XAt h x o mA)
  (hq:∀ h' tk' dx,XAt h' x { o with dict:=some dx } (fun y=>if y = name then some v else mA y)->(o.dict = some dx\/o.dict = none/\h.objs.size <= dx)->(∀ b ob,b ≠ x->b ≠ dx->h.get? b = some ob->h'.get? b = some ob)->Q () ⟨h',g,d,tk',os⟩)
  (hw:Within mA ns) (hsz:ns.length + 1 <= sizeLine) :
  wpAny (model prog w) A (setAttr (.ref x) name v) Q E ⟨h,g,d,t,os⟩:=by
 have hx:=I.1
 have SF:=F.store_ValueError
 have f3:=SF.slot.bind (.ref x)
 have L1:=looks_findIn (M:=model prog w) X hsa
 have T0:∀ M,Looks M h (typeOf (.ref x)) (.ref C):=fun M=>hc ▸ (Looks.ld hx).andThen .now
 unfold setAttr callSpecial? specialOf
 repeat (any_goals (first | assumption | (with_reducible refine wpAny_loadPart_at hx ?_; rw [hc]) | with_reducible refine L1.at ?_ | wp_step))
 refine codeAny_call_builtin SF.slot.plain SF.entry (@check_slot (model prog w) _ _ _ "object.__setattr__" "object" "__setattr__" (.ref x) [.str name t,v] [] _ SF.kind SF.split ((T0 _).andThen (looks_mroIn X hob)) (SF.args (.ref x) (.str name t) v) (zpl X hcd hm hdct hna hc I (fun h' tk' dx a b c=>?_) hw hsz))
 exact wpAny_pure (wpAny_pure (hq h' tk' dx a b c))
end
end L2
namespace L2
open PySem PySem.Spec PySem.Calls PyProof.Rows PySem.W
def exF (t:Addr):Data:=.fields #[.ref t,.none,.none,.none,.bool false,.none]
def exN (a C:Addr) (d:Option Addr) (t:Addr):HO:=.ext fun h=>h.get? a = some { cls:=.ref C,dict:=d,data:=exF t }
theorem zpW {P:Program} {w:World} {H:Hp} {h:Heap} {a C t:Addr} {d:Option Addr} (e:h.get? a = some { cls:=.ref C,dict:=d,data:=exF t }):ObjOk P w H h a (exN a C d t):=⟨e,⟨_,e⟩,fun _ _ q k=>k _ q⟩
theorem zuW {P:Program} {w:World} {H:Hp} {h:Heap} {dx:Addr} {fs:List (Str × V)} {mA:Str->Option Value} (n:h.Ns1 dx mA) (r:∀ f,RelO (fs.lookup f) (mA f)) (wi:PySem.Within mA (fs.map (·.1))):ObjOk P w H h dx (xw dx fs) :=
 ⟨⟨mA,n,r,wi⟩,let ⟨o,_,_,e,_⟩:=n; ⟨o,e⟩,fun _ _ ⟨mA,n,r,wi⟩ k=>⟨mA,n.at k,r,wi⟩⟩
structure ExI (K:W.Frag) (C:Addr):Prop where
 k:ExK K C
 hd:PySem.W.hasDictIn K C = true
 sa:PySem.W.findIn K (.ref C) "__setattr__" = some (some (.builtin "object.__setattr__"))
def zrU (K:W.Frag) (ta tv:TE) (f:Str):TS:=fun D σ H=>tv σ H fun y H1=>ta σ H1 fun x H2=>∃ a C t,x = .ref a/\ExI K C/\NoAttr K C f /\
  ((H2 a = some (exN a C none t)/\∀ dx,H2 dx = none->D.nx σ (upd (upd H2 a (exN a C (some dx) t)) dx (xw dx [(f,y)]))) \/
   ∃ dx fs,H2 a = some (exN a C (some dx) t)/\H2 dx = some (xw dx fs)/\dx ≠ a/\fs.length < 100/\D.nx σ (upd H2 dx (xw dx (zjT f y fs))))
section
variable {X:Cx} {o value:Expr} {f:Str} {pos pos':Pos} {ta tv:TE}
theorem zn9 (ha:PE X o ta) (hv:PE X value tv) (hs:swapsWith value (some (.Attribute o f pos')) pos.line X.env = pure false):PS X (.Assign [.Attribute o f pos'] value pos) (zrU X.K ta tv f):=by
 intro zk s σ H D I h
 refine plainObj_wpAny_Assign_Attribute (thn (hv zk s σ H _ I h) fun u s1 ⟨y,H1,I1,ry,q⟩=>thn (ha zk s1 σ H1 _ I1 q) fun ov s2 ⟨x,H2,I2,rx,a,C,t,ex,xi,na,q2⟩=>?_) hs
 subst ex
 obtain rfl:ov = Value.ref a:=rx
 obtain ⟨cd,hcd,hm⟩:=xi.k.mro
 have hdct:cd.hasDict = true:=by
  have:=xi.hd
  unfold PySem.W.hasDictIn at this
  rw [hcd] at this
  simpa using this
 have hob:mroIn X.K C (.type "object") = some true:=(xi.k.mroIn _).trans (by simp [exM])
 obtain ⟨hp,g,d,tk,os⟩:=s2
 rcases q2 with ⟨ea,q2⟩ | ⟨dx,fs,ea,ed,ne,hl,q2⟩
 ·obtain ⟨e1,_,_⟩:=(show ObjOk X.prog X.w H2 hp a (exN a C none t) from I2.hok a _ ea)
  refine zg5 (o:={ cls:=.ref C,dict:=none,data:=exF t }) (mA:=fun _=>none) (ns:=[]) I2.kIn hcd hm hdct xi.sa na hob rfl ⟨e1,(fun c z=>by cases z),.inl ⟨rfl,fun _=>rfl⟩⟩ (fun h' tk' dx xa od kp=>?_) (fun y z=>absurd rfl z) (by show 1 <= sizeLine; rw [sizeLine_eq]; omega)
  obtain ⟨x1,_,x2⟩:=xa
  have hsz:hp.objs.size <= dx:=by
   rcases od with z | z
   ·cases z
   ·exact z.2
  obtain ⟨dx',z,nx,n1⟩:∃ d,some dx = some d/\d ≠ a/\h'.Ns1 d (fun y=>if y = f then some u else none):=by
   rcases x2 with ⟨z,_⟩ | z
   ·cases z
   ·exact z
  cases z
  have g1:(hp.update a fun o=>{ o with dict:=some dx }).get? a = some { cls:=.ref C,dict:=some dx,data:=exF t }:=Heap.get?_update_self _ e1 rfl
  have J:=I2.write (x:=a) (e:=a) (o:=exN a C (some dx) t) (h':=hp.update a fun o=>{ o with dict:=some dx }) (t':=tk) (by rw [ea]; exact True.intro) (.inl rfl) (fun b v nb z=>(Heap.get?_update_ne _ _ _ _ nb).trans z) ⟨_,g1⟩ (zpW g1)
  have J2:=J.laid (a:=dx) (o:=xw dx [(f,y)]) (h':=h') (t':=tk') (fun b v z=>?_) (by show (hp.update a _).objs.size <= dx; rw [Heap.size_update]; exact hsz) (zuW n1 (fun g=>?_) fun g hg=>?_)
  ·exact ⟨σ,_,J2,q2 dx (I2.hok.fresh hsz)⟩
  ·by_cases nb:b = a
   ·subst nb
    rw [g1] at z
    cases z
    exact x1
   ·have z':hp.get? b = some v:=(Heap.get?_update_ne _ _ _ _ nb).symm.trans z
    exact kp b v nb (fun e=>absurd (Heap.lt_size z') (by rw [e]; exact Nat.not_lt.mpr hsz)) z'
  ·show RelO ((zjT f y []).lookup g) (if g = f then some u else none)
   rw [zem]
   by_cases q:g = f
   ·rw [if_pos q,if_pos q]; exact ry
   ·rw [if_neg q,if_neg q]; exact True.intro
  ·by_cases e:g = f
   ·subst e; simp
   ·rw [if_neg e] at hg
    exact absurd rfl hg
 ·obtain ⟨e1,_,_⟩:=(show ObjOk X.prog X.w H2 hp a (exN a C (some dx) t) from I2.hok a _ ea)
  obtain ⟨⟨mA,n1,r1,w1⟩,_,_⟩:=(show ObjOk X.prog X.w H2 hp dx (xw dx fs) from I2.hok dx _ ed)
  refine zg5 (o:={ cls:=.ref C,dict:=some dx,data:=exF t }) (mA:=mA) (ns:=fs.map (·.1)) I2.kIn hcd hm hdct xi.sa na hob rfl ⟨e1,(fun c z=>by cases z),.inr ⟨dx,rfl,ne,n1⟩⟩ (fun h' tk' dx2 xa od kp=>?_) w1 (by rw [List.length_map,sizeLine_eq]; omega)
  obtain rfl:dx = dx2:=by
   rcases od with z | z
   ·exact Option.some.inj z
   ·cases z.1
  obtain ⟨x1,_,x2⟩:=xa
  obtain ⟨dx',z,nx,n2⟩:∃ d,some dx = some d/\d ≠ a/\h'.Ns1 d (fun y=>if y = f then some u else mA y):=by
   rcases x2 with ⟨z,_⟩ | z
   ·cases z
   ·exact z
  cases z
  have J:=I2.write (x:=dx) (e:=dx) (o:=xw dx (zjT f y fs)) (h':=h') (t':=tk') (by rw [ed]; exact True.intro) (.inl rfl) (fun b v nb z=>?_) (let ⟨o,_,_,e,_⟩:=n2; ⟨o,e⟩) (zuW n2 (fun g=>?_) fun g hg=>?_)
  ·exact ⟨σ,_,J,q2⟩
  ·by_cases e:b = a
   ·subst e
    rw [e1] at z
    cases z
    exact x1
   ·exact kp b v e nb z
  ·show RelO ((zjT f y fs).lookup g) (if g = f then some u else mA g)
   rw [zem]
   by_cases q:g = f
   ·rw [if_pos q,if_pos q]; exact ry
   ·rw [if_neg q,if_neg q]; exact r1 g
  ·by_cases q:g = f
   ·rw [q]; exact (zgb f y fs).1
   ·refine (zgb f y fs).2 g (w1 g fun z=>hg ?_)
    show (if g = f then some u else mA g) = none
    rw [if_neg q]; exact z
end
end L2
namespace L2
open PySem PySem.Spec PySem.Calls PyProof.Rows
section
variable {prog:Program} {w:World} {A:Around} {E:Value->Shared->Prop} {h:Heap} {g:Array GenState} {d:Drawn} {t:Nat} {os:OsState}
variable {nm q:Str} {C N:Addr} {bs bm:List Value} {hdct:Bool} {sn:List Str} {sub:List Value} {ab:Bool} {col:Option Bool} {dd:Option Addr} {k0 k1 k2 k3 k5:Option Value} {mN:Str->Option Value} {rest:List Value} {fI:Addr} {oI:Obj}
theorem zgR (T:OwnTail h veB bm) {Q:Fin->Shared->Prop}
  (hC:h.get? C = some (excClassObj nm q C N bs bm hdct sn sub ab col dd k0 k1 k2 k3 k5 "ValueError.__new__")) (hn:h.Ns N mN) (hi:mN "__init__" = some (.ref fI)) (hfI:h.get? fI = some oI) (hfc:oI.cls = .type "function")
  (hq:∀ h' e,h.objs.size <= e->Heap.MadeExcOf h h' e (.ref C) rest->wpAny (model prog w) A (call (.ref fI) (.ref e :: rest)) (fun r s'=>r = .none/\Q (.done (.ret (.ref e))) s') E ⟨h',g,d,t,os⟩) (hrest:rest.length <= sizeLine) :
  wpAny (model prog w) A (Builtin.«type.__call__» ⟨.ref C :: rest,[]⟩) Q E ⟨h,g,d,t,os⟩:=by
 have Fn:=F.excBase_ValueError
 have hBn:veB.contains (.type "ValueError") = true:=by decide +kernel
 repeat (first | with_reducible refine wpAny_loadPart_at hC ?_ | with_reducible refine wpAny_madeBy_exc hC ?_ | wp_step)
 refine codeAny_call_builtin_code (Code.quiet_builtin _ Fn.quiet) (wpAny_check_new_subU Fn hBn T hC ?_)
 refine codeAny_exc_new_subU Fn hBn Fn T hC ?_ hrest
 show wpAny _ _ _ _ _ _
 generalize hh:((h.push { cls:=.type "tuple",data:=.seq rest.toArray }).push { cls:=.ref C,data:=.fields #[.ref h.objs.size,.none,.none,.none,.bool false,.none] }) = h1
 have keep:∀ b o,h.get? b = some o->h1.get? b = some o:=fun b o e=>by rw [<- hh]; exact Heap.get?_push_of_some _ (Heap.get?_push_of_some _ e)
 have hC1:=keep _ _ hC
 have hn1:h1.Ns N mN:=let ⟨o,es,ep,e,r⟩:=hn; ⟨o,es,ep,keep _ _ e,r⟩
 have hfI1:=keep _ _ hfI
 have hget:h1.get? (h.objs.size + 1) = some { cls:=.ref C,data:=.fields #[.ref h.objs.size,.none,.none,.none,.bool false,.none] }:=by rw [<- hh]; heap_get
 have hcC:(Value.ref C :: bm).contains (.ref C) = true:=by simp
 have T1:=T.keeps keep
 unfold isInstance
 repeat (first | with_reducible refine wpAny_loadPart_at hget ?_ | (with_reducible refine wpAny_isSubtype_exc hC1 ?_; rw [hcC]) | wp_step)
 show wpAny _ _ (typeLookup (.ref C) _) _ _ _
 refine wpAny_typeLookup_tail hC1 hn1 T1 Fn.mroIs Fn.init.lookup ?_
 rw [hi]
 refine wpAny_holding (wpAny_bind ?_)
 unfold bindSpecial
 refine wpAny_bind (wpAny_typeOf (T:="function") ⟨_,hfI1,hfc⟩ ?_)
 rw [if_pos (by decide)]
 refine wpAny_pure (wpAny_bind (wpAny_mono (hq h1 (h.objs.size + 1) (Nat.le_succ _) ⟨keep,Heap.get?_none_of_le (Nat.le_succ _),h.objs.size,hget,Heap.get?_none_of_le (Nat.le_refl _),?_⟩) (fun r s' hr=>?_) fun _ _ x=>x))
 ·rw [<- hh]
  exact Heap.get?_push_of_some _ (Heap.get?_push_at rfl rfl)
 ·obtain ⟨rfl,hQ⟩:=hr
  wp_walk
  exact hQ
theorem zmR (T:OwnTail h veB bm) {Q:Value->Shared->Prop}
  (hC:h.get? C = some (excClassObj nm q C N bs bm hdct sn sub ab col dd k0 k1 k2 k3 k5 "ValueError.__new__")) (hn:h.Ns N mN) (hi:mN "__init__" = some (.ref fI)) (hfI:h.get? fI = some oI) (hfc:oI.cls = .type "function")
  (hq:∀ h' e,h.objs.size <= e->Heap.MadeExcOf h h' e (.ref C) rest->wpAny (model prog w) (A.under (.builtin "type.__call__" ⟨.ref C :: rest,[]⟩)) (call (.ref fI) (.ref e :: rest)) (fun r s'=>r = .none/\Q (.ref e) s') E ⟨h',g,d,t,os⟩) (hrest:rest.length <= sizeLine) :
  wpAny (model prog w) A (call (.ref C) rest) Q E ⟨h,g,d,t,os⟩:=by
 have f1:=tc_lookup
 have f2:=tc_bind (.ref C)
 have hT:(⟨h,g,d,t,os⟩:Shared).TypeIs (.ref C) "type":=⟨_,hC,rfl⟩
 refine wpAny_call (codeAny_of_tree ?_)
 show wpAny _ _ (callAny (.ref C) _) _ _ _
 repeat (any_goals (first | assumption | with_reducible refine wpAny_loadPart_at hC ?_ | wp_step))
 refine ⟨rfl,?_⟩
 exact codeAny_call_builtin_at (Code.quiet_builtin _ (by decide +kernel)) entry_typeCall (wpAny_check_type_call_sub hC (zgR T hC hn hi hfI hfc (fun h' e hz hm=>hq h' e hz hm) hrest))
end
section
variable {prog:Program} {w:World} {A:Around} {E:Value->Shared->Prop} {s:Shared} {env:Env}
variable {nm q:Str} {C N:Addr} {bs bm:List Value} {hdct:Bool} {sn:List Str} {sub:List Value} {ab:Bool} {col:Option Bool} {dd:Option Addr} {k0 k1 k2 k3 k5:Option Value} {newId:String}
theorem zlu {M:Model} {x:Sem Value} {Q:Flow->Shared->Prop} (hbase:bm.contains (.type "BaseException") = true) (hh:A.handled = none)
  (h:wpAny M A x (fun v s1=>∃ e t dx,v = .ref e/\s1.heap.get? C = some (excClassObj nm q C N bs bm hdct sn sub ab col dd k0 k1 k2 k3 k5 newId)/\s1.heap.get? e = some { cls:=.ref C,dict:=dx,data:=.fields #[.ref t,.none,.none,.none,.bool false,.none] }/\E (.ref e) s1) E s) :
  wpAny M A (raiseStmt env (some x) none) Q E s:=by
 have hcB:(Value.ref C :: bm).contains (.type "BaseException") = true:=by rw [List.contains_cons,hbase,Bool.or_true]
 unfold raiseStmt
 refine wpAny_bind (wpAny_mono h (fun v s1 h1=>?_) fun _ _ x=>x)
 obtain ⟨e,t,dx,rfl,hC,he,hE⟩:=h1
 obtain ⟨hp,g,d,tk,os⟩:=s1
 repeat (first | with_reducible refine wpAny_loadPart_at he ?_ | with_reducible refine wpAny_loadPart_at hC ?_ | (with_reducible refine wpAny_isSubtype_exc hC ?_; rw [hcB]) | wp_step)
 exact wpAny_raiseNew_none hh hE
end
end L2
namespace L2
open PySem PySem.Spec PySem.Calls PyProof.Rows
def del (H:Hp) (a:Addr):Hp:=fun b=>if b = a then none else H b
theorem zg4 {H:Hp} {a b:Addr} (h:b ≠ a):del H a b = H b:=if_neg h
theorem zso {H:Hp} {a:Addr} {o:HO}:upd (del H a) a o = upd H a o:=by
 funext b
 unfold upd del
 split
 ·rfl
 ·rfl
theorem zkT {H:Hp} {a b:Addr} {u:HO} (h:del H a b = some u):b ≠ a/\H b = some u:=by
 unfold del at h
 split at h
 ·cases h
 ·rename_i n
  exact ⟨n,h⟩
section
variable {P:Program} {w:World} {K:W.Frag} {mg:Str->Option Value} {base:Heap} {N:List Str} {qual:Str} {scope:Scope} {f:Addr} {cd:Value} {A:Around} {outer:List Env} {s:Shared} {H:Hp} {E:XK}
theorem zpr {zk:List (Addr × Obj)} {σ:St} {Hc:Hp} {s2:Shared} {e C t:Addr} {dx:Option Addr} (I:Inv (zhc (CX1 P w) P w K mg base N qual scope f cd A outer s H E) zk σ Hc s2) (hn:Hc e = some (exN e C dx t)) (ne0:s.heap.get? e = none) (hE:E (.ref C) (some e) (upd Hc e (exO e C dx))) :
  (zhc (CX1 P w) P w K mg base N qual scope f cd A outer s H E).xe (.ref e) s2:=by
 have hfr:(A.deeper (envOfC qual scope s.heap.objs.size f cd)).frames = some (envOfC qual scope s.heap.objs.size f cd :: outer):=I.ok.frames
 have nl:∀ b o,s.heap.get? b = some o->b ∉ frs outer->b ∉ frs (envOfC qual scope s.heap.objs.size f cd :: outer):=fun b o q hb z=>by
  rcases List.mem_cons.mp (show b ∈ s.heap.objs.size :: frs outer from z) with e | e
  ·exact absurd (Heap.lt_size q) (by rw [e]; exact Nat.lt_irrefl _)
  ·exact hb e
 have nx:∀ b:Addr,b ∉ ([]:List Addr):=fun b=>by simp
 have ne1:∀ b o,s.heap.get? b = some o->b ≠ e:=fun b o q z=>by
  rw [z,ne0] at q
  cases q
 have nt:∀ b xs,Hc b = some (.tup xs)->b ≠ e:=fun b xs q z=>by
  rw [z,hn] at q
  cases q
 have no:∀ b y,Hc b = some (.own y)->b ≠ e:=fun b y q z=>by
  rw [z,hn] at q
  cases q
 have stk:s2.heap.FunFrames base (envOfC qual scope s.heap.objs.size f cd :: outer):=I.stack
 obtain ⟨he,_,_⟩:=(show ObjOk P w Hc s2.heap e (exN e C dx t) from I.hok e _ hn)
 have hin:∀ env ∈ (envOfC qual scope s.heap.objs.size f cd :: outer),∀ b,env.frame = some b->b ∈ e :: frs (envOfC qual scope s.heap.objs.size f cd :: outer):=fun env he b hb=>List.mem_cons_of_mem _ (List.mem_filterMap.mpr ⟨env,he,hb⟩)
 generalize hB:PySem.W.hideAll s2.heap (e :: frs (envOfC qual scope s.heap.objs.size f cd :: outer)) = B
 have hd:∀ b o,s2.heap.get? b = some o->b ≠ e->b ∉ frs (envOfC qual scope s.heap.objs.size f cd :: outer)->B.get? b = some o:=fun b o q n1 n=>by
  rw [<- hB]
  exact PySem.W.hideAll_get _ q fun z=>(List.mem_cons.mp z).elim n1 n
 have kp:∀ b o,s.heap.get? b = some o->H b = none->b ∉ frs outer->B.get? b = some o:=fun b o q n hb=>hd b o (I.base.keep b o q n hb (nx b)) (ne1 b o q) (nl b o q hb)
 have ep:∀ b o,s.heap.get? b = some o->b ∈ frs outer\/∃ o',B.get? b = some o':=fun b o q=>by
  by_cases hb:b ∈ frs outer
  ·exact .inl hb
  ·obtain ⟨o1,q1⟩:=I.base.there b o q (nx b)
   exact .inr ⟨o1,hd b o1 q1 (ne1 b o q) (nl b o q hb)⟩
 have tr:∀ b u,Hc b = some u->b ≠ e->∀ o,s2.heap.get? b = some o->B.get? b = some o:=fun b u q n1 o q1=>hd b o q1 n1 fun z=>by
  rw [I.stkFree b z] at q
  cases q
 have ne:B.get? e = none:=by rw [<- hB]; exact PySem.W.hideAll_none _ List.mem_cons_self
 have ff:s2.heap.FunFrames B (envOfC qual scope s.heap.objs.size f cd :: outer):=by rw [<- hB]; exact PySem.W.funFrames_hide stk hin
 have bs:B.StaysIn s2.heap:=fun b o q=>by
  rw [<- hB] at q
  exact PySem.W.of_hideAll _ q
 show wpAny _ _ (leaving (envOfC qual scope s.heap.objs.size f cd) (.ref e)) _ _ _
 refine zfv hfr ff rfl he bs ne rfl rfl rfl fun h'' fl sm=>⟨del Hc e,e,C,dx,rfl,⟨I.os,I.bare,⟨fun b o q n hb _=>fl.1 b o (kp b o q n hb),fun b o q n hb _=>?_,fun b o q n _=>?_,fun b o q _=>?_,fun b xs q=>?_,fun b o u q=>?_,fun b ps q=>?_⟩,
  fun b u q=>?_,_,t,fl,kp,ep,fun b u q=>?_⟩,by rw [zso]; exact hE⟩
 ·obtain ⟨sl,q1⟩:=I.base.slot b o q n hb (nx b)
  obtain ⟨_,o3,q3,nf⟩:=stk.mem (show b ∈ frs (envOfC qual scope s.heap.objs.size f cd :: outer) from List.mem_cons_of_mem _ hb)
  rw [q1] at q3
  cases q3
  obtain ⟨sl3,q4⟩:=sm b _ q1 nf
  exact ⟨sl3,q4⟩
 ·rw [zg4 (ne1 b o q)]
  exact I.base.free b o q n (nx b)
 ·rcases ep b o q with z | ⟨o',z⟩
  ·obtain ⟨_,o3,q3,_⟩:=fl.2.2.1.mem (show b ∈ frs outer from z)
   exact ⟨o3,q3⟩
  ·exact ⟨o',fl.1 b o' z⟩
 ·have q2:=I.base.tups b xs q
  rw [zg4 (nt _ _ q2)]
  exact q2
 ·have q2:=I.base.frzs b o u q
  rw [zg4 fun z=>by rw [z,hn] at q2; cases q2]
  exact q2
 ·obtain ⟨m,q2⟩:=I.base.tbls b ps q
  exact ⟨m,by rw [zg4 fun z=>by rw [z,hn] at q2; cases q2]; exact q2⟩
 ·obtain ⟨nb,qb⟩:=zkT q
  refine (I.hok b u qb).stay (fun c v hc q1=>?_) (fun c q1=>by rw [zg4 (no _ _ q1)]; exact q1) fun c xs q1=>by rw [zg4 (nt _ _ q1)]; exact q1
  rcases hc with rfl | hc
  ·exact fl.1 _ _ (tr _ _ qb nb _ q1)
  ·exact fl.1 _ _ (tr _ _ hc (no _ _ hc) _ q1)
 ·obtain ⟨nb,qb⟩:=zkT q
  obtain ⟨o,q1⟩:=(I.hok b u qb).obj
  exact ⟨o,tr b u qb nb o q1⟩
end
section
variable {X:Cx} {E:XK} {x:Str} {C fI:Addr} {fd:FuncData} {ps:List Str} {sp:Sp} {k:Nat} {np cpos pos:Pos} {e:Expr} {es:List Expr} {t:TA} {CX:CXT}
theorem zoT {K:W.Frag} {h h1:Heap} {C:Addr} {ini:Option Value} {o:Obj} (q:ExCls K C ini) (X:K.In h) (X1:K.In h1) (e:h.get? C = some o):h1.get? C = some o:=by
 have z:=q.ty.1
 unfold PySem.W.clsIn at z
 cases hl:K.lookup C with
 | none=>rw [hl] at z; cases z
 | some o' =>
  have:=X _ _ hl
  rw [e] at this
  cases this
  exact X1 _ _ hl
def zjR (E:XK) (C:Addr) (sp:Sp) (t:TA):TS:=fun _ σ H=>t σ H fun vs H1=>∀ a tt,H1 a = none->sp (.ref a :: vs) (upd H1 a (exN a C none tt)) (fun r H2=>r = .non/\∃ dx,H2 a = some (exN a C dx tt)/\E (.ref C) (some a) (upd H2 a (exO a C dx))) fun _ _ _=>False
def RaisesI (X:Cx) (E:XK):Prop:=∀ (C:Addr) (zk:List (Addr × Obj)) (σ:St) (H1 H2:Hp) (s1 s2:Shared) (e t:Addr) (dx:Option Addr),Inv X zk σ H1 s1->s1.heap.get? e = none->Inv X zk σ H2 s2->H2 e = some (exN e C dx t)->E (.ref C) (some e) (upd H2 e (exO e C dx))->X.xe (.ref e) s2
theorem zmj (hc:X.calm = true) (hR:RaisesI X E) (hg:Gl X x) (hm:X.mg x = some (.ref C)) (q:ExCls X.K C (some (.ref fI))) (hk:PySem.W.keepIn X.K (.ref C) = true) (hfn:PySem.W.typeIn X.K (.ref fI) = some (.type "function")) (F:FnOk X.prog X.w X.K X.mg X.base CX k fI fd ps sp) (hcx:∀ o H s v s',CX o H s (fun _ _ _=>False) v s'->False) (hr:∀ us:List Value,Room k (X.A.under (.builtin "type.__call__" ⟨.ref C :: us,[]⟩))) (hb:Binds X.K fd ps []) (hpsz:ps.length <= 1000)
  (ha:PA X (e :: es) t) (hdb:(x == ("__debug__":Str)) = false:=by decide) (he:starEach (e :: es) X.env = (false,eval e X.env) :: starEach es X.env:=by rfl) (hpl:(backTo cpos (starEach es X.env)).any (·.1) = false:=by rfl) :
  PS X (.Raise (some (.Call (.Name x np) (e :: es) [] cpos)) none pos) (zjR E C sp t):=by
 intro zk s σ H D I h
 obtain ⟨tl,N,nm,qn,bs,hd,sn,sub,ab,col,dd,k0,k1,k2,k3,k5,mN,hC,hN,hni,T,_⟩:=q.ob _ I.kIn
 have hbase:tl.contains (.type "BaseException") = true:=T.hasType (b:=true) (by decide +kernel)
 rw [arm_exec_Raise]
 refine wpAny_bind (wpAny_standAt (zlu (C:=C) (nm:=nm) (q:=qn) (N:=N) (bs:=bs) (bm:=tl) (hdct:=hd) (sn:=sn) (sub:=sub) (ab:=ab) (col:=col) (dd:=dd) (k0:=k0) (k1:=k1) (k2:=k2) (k3:=k3) (k5:=k5) (newId:="ValueError.__new__") hbase (I.ok.hd hc) (wpAny_bind (wpAny_mono (wpAny_Call_ofName (zfa I hg hm ?_ hdb)) (fun v s3 h3=>wpAny_bind (wpAny_standAt (wpAny_pure h3))) fun _ _ x=>x))))
 refine PySem.W.callWith_K (h₀:=X.base) I.ok.mod.kin hk (thn (ha cpos zk s σ H _ I h) fun us s1 ⟨vs,H1,I1,r,q1⟩=>⟨I1.kIn,?_⟩) he hpl
 obtain ⟨tl1,N1,nm1,qn1,bs1,hd1,sn1,sub1,ab1,col1,dd1,l0,l1,l2,l3,l5,mN1,hC1,hN1,hi1,T1,_⟩:=q.ob _ I1.kIn
 obtain ⟨oI,hoI,hcI⟩:∃ oI,s1.heap.get? fI = some oI/\oI.cls = .type "function":=by
  have z:Option.map (fun x:Obj=>x.cls) (X.K.lookup fI) = some (.type "function"):=hfn
  cases hl:X.K.lookup fI with
  | none=>rw [hl] at z; cases z
  | some o=>rw [hl] at z; exact ⟨o,I1.kIn _ _ hl,Option.some.inj z⟩
 obtain ⟨h1,g1,d1,tk1,os1⟩:=s1
 have hlen:us.length <= sizeLine:=by
  have hz:=r.length
  have:=F.len _ _ _ _ (q1 h1.objs.size 0 (I1.hok.fresh (Nat.le_refl _)))
  have hps:ps.length <= 1000:=hpsz
  rw [List.length_cons] at this
  rw [sizeLine_eq]
  omega
 refine zmR T1 hC1 hN1 hi1 hoI hcI (fun h' e2 hz mk=>?_) hlen
 obtain ⟨t2,he2,_,_⟩:=mk.there
 have J:=I1.laid (a:=e2) (o:=exN e2 C none t2) (h':=h') (t':=tk1) mk.keeps hz (zpW he2)
 have qq:=q1 e2 t2 (I1.hok.fresh hz)
 have hl:(Value.ref e2 :: us).length = ps.length:=by
  have:=F.len _ _ _ _ qq
  rw [List.length_cons] at this ⊢
  rw [<- r.length]
  exact this
 have hb1:=hb _ (Value.ref e2 :: us) J.kIn (by rw [List.append_nil]; exact hl)
 rw [List.append_nil] at hb1
 refine wpAny_call (codeAny_mono (F.run _ X.stack _ _ ⟨Value.ref e2 :: us,[]⟩ (Value.ref e2 :: us) (.ref e2 :: vs) _ _ (hr us) (J.env0.make C us []) hb1 (.cons rfl r) qq) fun rr s' hq=>?_)
 cases rr with
 | error v=>exact (hcx _ _ _ _ _ hq).elim
 | ok fl =>
  cases fl with
  | ret u =>
   obtain ⟨y,H2,I2,ry,rfl,dx,hn2,hE⟩:=J.after hq
   cases (show u = Value.none from ry)
   obtain ⟨e3,_,_⟩:=(show ObjOk X.prog X.w H2 s'.heap e2 (exN e2 C dx t2) from I2.hok e2 _ hn2)
   exact ⟨rfl,e2,t2,dx,rfl,zoT q I.kIn I2.kIn hC,e3,hR C zk σ H1 H2 _ s' e2 t2 dx I1 mk.new I2 hn2 hE⟩
  | next=>exact False.elim hq
  | brk=>exact False.elim hq
  | cont=>exact False.elim hq
end
theorem zps {P:Program} {w:World} {K:W.Frag} {mg:Str->Option Value} {base:Heap} {N:List Str} {qual:Str} {scope:Scope} {f:Addr} {cd:Value} {A:Around} {outer:List Env} {s:Shared} {H:Hp} {E:XK} :
  RaisesI (zhc (CX1 P w) P w K mg base N qual scope f cd A outer s H E) E:=fun C zk σ H1 H2 s1 s2 e t dx I1 ne I2 hn hE=>zpr I2 hn (by
 cases z:s.heap.get? e with
 | none=>rfl
 | some o =>
  obtain ⟨o1,q1⟩:=I1.base.there e o z (fun z=>by cases z)
  rw [ne] at q1
  cases q1) hE
end L2
namespace L2
open PySem PySem.Spec PyProof.Rows
section
def spI (K:W.Frag) (ns:List Str):Sp:=fun vs H Q _=>∃ a C t ws,vs = .ref a :: ws/\ws.length = ns.length/\ExI K C/\(∀ n ∈ ns,NoAttr K C n)/\H a = some (exN a C none t)/\∀ dx,H dx = none->Q .non (upd (upd H a (exN a C (some dx) t)) dx (xw dx (ns.zip ws)))
theorem init2 {K:W.Frag} {n m:Str} {N:List Str} {vs:List V} {H:Hp} {Q:VK} {E:XK} (ne:n ≠ m) (h:spI K [n,m] vs H Q E):zjr (zrU K (zkn 0) (zkn 1) n) (zrU K (zkn 0) (zkn 2) m) { nx:=fun _ H'=>Q .non H',rt:=Q } (start N vs) H:=by
 obtain ⟨a,C,t,ws,rfl,hl,xi,na,ha,q⟩:=h
 obtain ⟨w,v,rfl⟩:∃ w v,ws = [w,v]:=by
  match ws,hl with
  | [w,v],_=>exact ⟨w,v,rfl⟩
 refine ⟨w,rfl,_,rfl,a,C,t,rfl,xi,na n (by simp),.inl ⟨ha,fun dx hd=>?_⟩⟩
 have nx:dx ≠ a:=fun z=>by
  rw [z,ha] at hd
  cases hd
 refine ⟨v,rfl,_,rfl,a,C,t,rfl,xi,na m (by simp),.inr ⟨dx,[(n,w)],?_,zN,nx,by simp,?_⟩⟩
 ·rw [zO (Ne.symm nx),zN]
 ·have e:zjT m v [(n,w)] = [n,m].zip [w,v]:=by simp [zjT,ne]
  show Q .non _
  rw [e,zfh]
  exact q dx hd
theorem znO {H:Hp}:∀ {ns:List Str} {ds:List PyData} {vs:List V},HasL H ds vs->∀ f dt,(ns.zip ds).lookup f = some dt->∃ u,(ns.zip vs).lookup f = some u/\Has H dt u
 | [],_,_,_,f,dt,e=>by simp at e
 | n :: ns,[],_,_,f,dt,e=>by simp at e
 | n :: ns,d :: ds,vs,l,f,dt,e=>by
  obtain ⟨v,r,rfl,hv,l'⟩:=zI.mp l
  rw [List.zip_cons_cons,List.lookup_cons] at e
  by_cases z:f = n
  ·subst z
   simp at e
   subst e
   exact ⟨v,by simp,hv⟩
  ·have zz:(f == n) = false:=by simp [z]
   rw [zz] at e
   obtain ⟨u,e1,e2⟩:=znO l' f dt e
   exact ⟨u,by rw [List.zip_cons_cons,List.lookup_cons,zz]; exact e1,e2⟩
def zhV (EX:EXD) (C:Addr) (ns:List Str) (da:DA):DS:=fun _ δ S=>da δ S fun xs _=>∃ ds,datas xs = some ds/\ds.length = ns.length/\EX C (ns.zip ds)
theorem zoi {E:XK} {EX:EXD} {K:W.Frag} {C:Addr} {ns:List Str} {ta:TA} {da:DA} (hI:ExI K C) (hn:∀ n ∈ ns,NoAttr K C n) (ha:RA ta da):RSx E EX (zjR E C (spI K ns) ta) (zhV EX C ns da):=fun h o H δ σ S En D he hs q c x =>
 ha h o H δ σ S _ _ he hs q fun o1 H1 S1 xs vs e1 s1 x1 ⟨ds,ed,hl,hE⟩ a tt na=>by
  have exs:=zbP ed
  have hL:=zeA x1 exs
  refine ⟨a,C,tt,vs,rfl,by rw [hL.length]; exact hl,hI,hn,zN,fun dx nd=>⟨rfl,some dx,?_,?_⟩⟩
  ·have ne:dx ≠ a:=fun z=>by rw [z,zN] at nd; cases nd
   rw [zO (Ne.symm ne),zN]
  ·have ne:dx ≠ a:=fun z=>by rw [z,zN] at nd; cases nd
   have nd1:H1 dx = none:=by rwa [zO ne] at nd
   have na1:upd H1 dx (xw dx (ns.zip vs)) a = none:=by rw [zO (Ne.symm ne)]; exact na
   have eH:upd (upd (upd (upd H1 a (exN a C none tt)) a (exN a C (some dx) tt)) dx (xw dx (ns.zip vs))) a (exO a C (some dx)) = upd (upd H1 dx (xw dx (ns.zip vs))) a (exO a C (some dx)):=by
    funext b
    unfold upd
    split
    ·rfl
    ·rfl
   rw [eH]
   have sU:=(Same.laid (o:=xw dx (ns.zip vs)) nd1).trans (Same.laid (o:=exO a C (some dx)) na1)
   have fa:=s1.fresh na
   have fd:=s1.fresh nd1
   refine (x.pre e1) o1 _ S1 C a (ns.zip ds) (Ex.of_same sU) (s1.same sU) ⟨a,some dx,rfl,zae.mpr ⟨fa.1,fa.2,zN⟩,fun f dt l=>?_⟩ hE
   obtain ⟨u,e2,e3⟩:=znO hL f dt l
   exact ⟨dx,ns.zip vs,u,rfl,zae.mpr ⟨fd.1,fd.2,by rw [zO ne,zN]⟩,e2,Has.mono (zc8 sU) _ _ e3⟩
end
end L2
namespace L2
open PySem PySem.Spec PySem.Calls PyProof.Rows
def dXA (Cs:List Addr) (de:DE) (f:Str):DE:=fun δ S R=>de δ S fun x S1=>∃ C fs d,x = .x C fs/\C ∈ Cs/\fs.lookup f = some d/\R (.d d) S1
end L2
namespace L2
open PySem PySem.Spec PyProof.Rows
section
def zvu (o:Obj):Bool:=match o.data with
 | .dict es _=>es.toList.all fun e=>match e.key with | .str _ _=>true | _=>false
 | _=>false
theorem zrw {K:W.Frag} {N:Addr} {o:Obj} (l:K.lookup N = some o) (h:zvu o = true):PySem.W.nsOkIn K N = true:=by
 unfold PySem.W.nsOkIn
 rw [l]
 obtain ⟨a,b,c,d⟩:=o
 cases c with
 | dict es n =>
  show (es.all fun e=>match e.key with | .str _ _=>true | _=>false) = true
  rw [<- Array.all_toList]
  exact h
 | _=>cases h
theorem exc_ofI {K:W.Frag} {C N fI:Addr} {nm qn:Str} {bs:List Value} {hd:Bool} {sn:List Str} {sub:List Value} {ab:Bool} {col:Option Bool} {dd:Option Addr} {k0 k1 k2 k3 k5:Option Value}
  (l:K.lookup C = some (excClassObj nm qn C N bs (.ref 24 :: veB) hd sn sub ab col dd k0 k1 k2 k3 k5 "ValueError.__new__")) {oN:Obj} (lN:K.lookup N = some oN) (sN:zvu oN = true) (i:PySem.W.nsIn K N "__init__" = some (some (.ref fI))) (G:ExCls K 24 none):ExCls K C (some (.ref fI)):=by
 have ok:=zrw lN sN
 refine ⟨fun h X=>?_,?_,?_⟩
 ·obtain ⟨bmG,NG,nmG,qnG,bsG,hdG,snG,subG,abG,colG,ddG,j0,j1,j2,j3,j5,mNG,hG,hNG,hniG,_,_⟩:=G.ob h X
  have nsN:h.Ns N (h.nsMap N):=.of_isNs (PySem.W.isNs_of_in X ok)
  refine ⟨.ref 24 :: veB,N,nm,qn,bs,hd,sn,sub,ab,col,dd,k0,k1,k2,k3,k5,h.nsMap N,X _ _ l,nsN,zvf X nsN i,.own hG hNG hniG .base,fun D=>?_⟩
  unfold PySem.W.mroIn PySem.W.clsIn
  rw [l]
  rfl
 ·unfold PySem.W.clsIn
  rw [l]
  rfl
 ·show Option.map (fun x:Obj=>x.cls) (K.lookup C) = _
  rw [l]
  rfl
end
section
abbrev Phi:=List Addr->List Addr->Hp->Prop
class Stb (Φ:Phi):Prop where
 st:∀ {h o o':List Addr} {H H':Hp},Φ h o H->Ex o H o' H'->Φ h o' H'
def PhX (E:XK) (EX:EXD):Phi:=fun h o H=>CnX h o H EX E
instance {E:XK} {EX:EXD}:Stb (PhX E EX):=⟨fun x e=>CnX.pre x e⟩
def REp (Φ:Phi) (t:TE) (dt:DE):Prop:=∀ (h o:List Addr) (H:Hp) (δ:XE) (σ:St) (S:Sto) (R:RX) (Q:VK),RepE h o H δ σ->RepS h o H S->dt δ S R->Cn h o H R Q->Φ h o H->t σ H Q
def RTp (Φ:Phi) (t:TT) (dt:DT):Prop:=∀ (h o:List Addr) (H:Hp) (δ:XE) (σ:St) (S:Sto) (R:Bool->Sto->Prop) (Q:Bool->Hp->Prop),RepE h o H δ σ->RepS h o H S->dt δ S R ->
 (∀ o' H' S' b,Ex o H o' H'->RepS h o' H' S'->R b S'->Q b H')->Φ h o H->t σ H Q
def RAp (Φ:Phi) (t:TA) (dt:DA):Prop:=∀ (h o:List Addr) (H:Hp) (δ:XE) (σ:St) (S:Sto) (R:List XV->Sto->Prop) (Q:List V->Hp->Prop),RepE h o H δ σ->RepS h o H S->dt δ S R ->
 (∀ o' H' S' xs vs,Ex o H o' H'->RepS h o' H' S'->HasXs h o' H' xs vs->R xs S'->Q vs H')->Φ h o H->t σ H Q
def RIp (Φ:Phi) (w:TI) (di:DI):Prop:=∀ (h o:List Addr) (H:Hp) (δ:XE) (σ:St) (S:Sto) (R:List PyData->Sto->Prop) (Q:It->Hp->Prop),RepE h o H δ σ->RepS h o H S->di δ S R ->
 (∀ o' H' S' ds J,Ex o H o' H'->RepS h o' H' S'->WalkX h o' H' J ds->R ds S'->Q J H')->Φ h o H->w σ H Q
section
variable {Φ:Phi} [Stb Φ] {ta tb te:TE} {da db de:DE} {tl:TA} {dl:DA} {tt tu:TT} {dt du:DT}
theorem zaO (a:RE te de):REp Φ te de:=fun h o H δ σ S R Q he hs q c _=>a h o H δ σ S R Q he hs q c
theorem zoh (a:RT tt dt):RTp Φ tt dt:=fun h o H δ σ S R Q he hs q c _=>a h o H δ σ S R Q he hs q c
theorem zrK (a:RA tl dl):RAp Φ tl dl:=fun h o H δ σ S R Q he hs q c _=>a h o H δ σ S R Q he hs q c
theorem zoq {w:TI} {di:DI} (a:RI w di):RIp Φ w di:=fun h o H δ σ S R Q he hs q c _=>a h o H δ σ S R Q he hs q c
theorem zvD {r:R2} {rd:D2} (hr:RO r rd) (ha:REp Φ ta da) (hb:REp Φ tb db):REp Φ (tOp r ta tb) (dOp rd da db):=fun h o H δ σ S R Q he hs q c w =>
 ha h o H δ σ S _ _ he hs q (fun o1 H1 S1 x v e1 s1 x1 d1=>hb h o1 H1 δ σ S1 _ _ (he.mono e1) s1 d1 (fun o2 H2 S2 y u e2 s2 y2 d2 =>
  hr h o2 H2 S2 x y v u R Q s2 (x1.mono e2) y2 d2 (c.pre (e1.trans e2))) (Stb.st w e1)) w
theorem zwe (ha:REp Φ ta da):RTp Φ (zok ta) (dB da):=fun h o H δ σ S R Q he hs q c w =>
 ha h o H δ σ S _ _ he hs q (fun o1 H1 S1 x v e1 s1 x1 d1=>by
  replace d1:=ziO d1
  obtain ⟨b,rfl,d1⟩:=d1
  exact ⟨b,zdz x1,c o1 H1 S1 b e1 s1 d1⟩) w
end
section
variable {E:XK} {EX:EXD} {ta tb te:TE} {da db de:DE} {tl:TA} {dl:DA} {tt tu:TT} {dt du:DT}
def zkr (EX:EXD) (m:Nat) (q:PX) (da:DA):DE:=fun δ S R=>da δ S fun xs S1=>∃ ds,datas xs = some ds/\ds.length = m/\q (ds.map XV.d) [] (ret0 S1 R) EX
theorem CnX.out {h o:List Addr} {H:Hp} {S:Sto} (hs:RepS h o H S) (x:CnX h o H EX E):CnX (h ++ o) [] H EX E:=fun o' H' S' C a fs e' s' hE q=>by
 have sH:Same H H':=fun b u eb=>(e'.kp b u (by simp) eb).2
 have sv:Same (vx (h ++ o) o' H') (vx h o H'):=fun b u eb=>by
  obtain ⟨n1,n2,n3⟩:=zae.mp eb
  exact zae.mpr ⟨fun z=>n1 (List.mem_append_left _ z),fun z=>n1 (List.mem_append_right _ z),n3⟩
 exact x o H' S C a fs (Ex.of_same sH) (hs.same sH) (HasE.mono sv hE) q
theorem zoS {ps:List Str} {q:PX} {m:Nat} (ha:RAp (PhX E EX) tl dl) (hm:ps.length = m:=by rfl):REp (PhX E EX) (zi9 (spX ps q) [] E tl) (zkr EX m q dl):=fun h o H δ σ S R Q he hs w c x =>
 ha h o H δ σ S _ _ he hs w (fun o1 H1 S1 xs vs e1 s1 x1 ⟨ds,e,hl,d1⟩=>by
  have ex:=zbP e
  subst ex
  have hv:=x1.len
  rw [List.append_nil]
  exact ⟨by rw [hv,List.length_map,hl,hm],h ++ o1,[],[],_,_,EX,rep0 s1,hxs0 x1,d1,cn0 s1 (c.pre e1),(x.pre e1).out s1⟩) x
theorem zuY {g:TG} {dg:DG} (ha:REp (PhX E EX) te de) (hg:RG g dg):RSx E EX (zsx te g) (zag de dg):=fun h o H δ σ S En D he hs q c x =>
 ha h o H δ σ S _ _ he hs q (fun o1 H1 S1 y v e1 s1 x1 d1=>hg h o1 H1 δ σ S1 y v _ _ (he.mono e1) s1 x1 d1 (c.nx.pre e1)) x
theorem zp4 {t u:TS} {ds dv:DS} (hc:RTp (PhX E EX) tt dt) (ht:RSx E EX t ds) (hu:RSx E EX u dv):RSx E EX (zu4 tt t u) (zdt dt ds dv):=fun h o H δ σ S En D he hs q c x =>
 hc h o H δ σ S _ _ he hs q (fun o1 H1 S1 b e1 s1 d1=>by
  cases b with
  | true=>exact zqi (ht h o1 H1 δ σ S1 En D (he.mono e1) s1 (by simpa using d1) (c.pre e1) (x.pre e1))
  | false=>exact zq1 (hu h o1 H1 δ σ S1 En D (he.mono e1) s1 (by simpa using d1) (c.pre e1) (x.pre e1))) x
end
section
variable {X:Cx} {E:XK}
theorem ztj {x:Str} {ps:List Str} {k j:Nat} {pos pos':Pos} {e:Expr} {es:List Expr} {t:TA} {q:PX} (D:DfX X.prog X.w X.K X.mg X.base x ps k (spX ps q)) (hp:Passes (CX1 X.prog X.w) X E) (hr:Room j X.A) (hk:k <= j) (ha:PA X (e :: es) t) (hg:Gl X x:=by rfl) (hdb:(x == ("__debug__":Str)) = false:=by decide)
  (q1:starEach (e :: es) X.env = (false,eval e X.env) :: starEach es X.env:=by rfl) (q2:((backTo pos (starEach es X.env)).any fun x=>x.fst) = false:=by rfl):PE X (.Call (.Name x pos') (e :: es) [] pos) (zi9 (spX ps q) [] E t):=by
 obtain ⟨f,fd,F,hm,kp,hb⟩:=D.ex
 exact zjW (dvs:=[]) (ds:=[]) (E:=E) F (hr.mono hk) hg hm kp hb .nil hp ha hdb q1 q2
end
structure XI (K:W.Frag) (C:Addr) (ns:List Str) (qual:Str) (st:Stmt):Prop where
 ex:∃ fI fd,ExCls K C (some (.ref fI))/\PySem.W.typeIn K (.ref fI) = some (.type "function")/\Fun K "__init__" qual st fI fd/\Binds K fd (("self":Str) :: ns) []
 kc:PySem.W.keepIn K (.ref C) = true
 i:ExI K C
 na:∀ n ∈ ns,NoAttr K C n
theorem XI.mk' {K:W.Frag} {C N fI:Addr} {ns:List Str} {qual:Str} {st:Stmt} {nm qn:Str} {bs:List Value} {hd:Bool} {sn:List Str} {sub:List Value} {ab:Bool} {col:Option Bool} {dd:Option Addr} {k0 k1 k2 k3 k5:Option Value} {oc:Value} {od an:Option Addr} {osl:Array (Option Value)} {kV doc pm cdv ct:Value}
  (l:K.lookup C = some (excClassObj nm qn C N bs (.ref 24 :: veB) hd sn sub ab col dd k0 k1 k2 k3 k5 "ValueError.__new__")) {oN:Obj} (lN:K.lookup N = some oN) (sN:zvu oN = true) (i:PySem.W.nsIn K N "__init__" = some (some (.ref fI))) (G:ExCls K 24 none)
  (tf:PySem.W.typeIn K (.ref fI) = some (.type "function")) (lf:K.lookup fI = some ⟨oc,od,.func (PySem.W.fnOf "__init__" qual (zc6 st) (zba st) (zp st) .none kV doc pm an cdv ct),osl⟩) (c:PySem.W.codeIn K cdv qual = true) (kf:PySem.W.keepIn K (.ref fI) = true)
  (hb:∀ (kV doc pm:Value) (an:Option Addr) (cdv ct:Value) (us:List Value),us.length = (("self":Str) :: ns).length->bindArgs (PySem.W.fnOf "__init__" qual (zc6 st) (zba st) (zp st) .none kV doc pm an cdv ct) ⟨us,[]⟩ = pure ((("self":Str) :: ns).zip us))
  (kc:PySem.W.keepIn K (.ref C) = true) (ek:ExK K C) (hdd:PySem.W.hasDictIn K C = true) (sa:PySem.W.findIn K (.ref C) "__setattr__" = some (some (.builtin "object.__setattr__"))) (na:∀ n ∈ ns,NoAttr K C n):XI K C ns qual st :=
 ⟨⟨fI,_,exc_ofI l lN sN i G,tf,zkD (st:=st) lf c kf,(zkD (st:=st) lf c kf).binds hb⟩,kc,⟨ek,hdd,sa⟩,na⟩
theorem zrq {K:W.Frag} {ns:List Str} (vs:List V) (H:Hp) (Q:VK) (E:XK) (h:spI K ns vs H Q E):vs.length = (("self":Str) :: ns).length:=by
 obtain ⟨a,C,t,ws,rfl,hl,_⟩:=h
 rw [List.length_cons,List.length_cons,hl]
section
variable {X:Cx} {E:XK} {x:Str} {C:Addr} {ns:List Str} {qual:Str} {st:Stmt} {j:Nat} {np cpos pos:Pos} {e:Expr} {es:List Expr} {t:TA}
theorem zoo (B:XI X.K C ns qual st) (hF:∀ f fd,Fun X.K "__init__" qual st f fd->FnOk X.prog X.w X.K X.mg X.base CX0 1 f fd (("self":Str) :: ns) (spI X.K ns)) (hR:RaisesI X E) (hr:Room j X.A) (hj:2 <= j) (hm:X.mg x = some (.ref C)) (hn:ns.length <= 9)
  (ha:PA X (e :: es) t) (hc:X.calm = true:=by rfl) (hg:Gl X x:=by rfl) (hdb:(x == ("__debug__":Str)) = false:=by decide) (he:starEach (e :: es) X.env = (false,eval e X.env) :: starEach es X.env:=by rfl) (hpl:(backTo cpos (starEach es X.env)).any (·.1) = false:=by rfl) :
  PS X (.Raise (some (.Call (.Name x np) (e :: es) [] cpos)) none pos) (zjR E C (spI X.K ns) t):=by
 obtain ⟨fI,fd,q,hfn,F,hb⟩:=B.ex
 exact zmj hc hR hg hm q B.kc hfn (hF fI fd F) (fun _ _ _ _ _ z=>z) (fun us=>(hr.mono hj).make C us []) hb (by rw [List.length_cons]; omega) ha hdb he hpl
end
def zwh (N P:List Str) (sc:Scope):Bool:=decide (sc.kind = .function) && !sc.isCoroutine && !sc.isGenerator && decide N.Nodup && decide (N.take P.length = P) && P.all (fun x=>decide (sc.names.lookup x = some .local) || decide (sc.names.lookup x = some .cell)) && sc.names.all fun y=>decide (y.2 ≠ .free)
theorem fsc {N P:List Str} {sc:Scope} (h:zwh N P sc = true):FnScope N P sc:=by
 simp only [zwh,Bool.and_eq_true,decide_eq_true_eq,Bool.not_eq_true',List.all_eq_true,Bool.or_eq_true] at h
 obtain ⟨⟨⟨⟨⟨⟨h1,h2⟩,h3⟩,h4⟩,h5⟩,h6⟩,h7⟩:=h
 exact ⟨h1,h2,h3,h4,h5,h6,h7⟩
end
section
section
variable {κ α:Type} [DecidableEq κ]
def lkA (m:List (κ × α)) (k:κ):Option α:=(m.find? fun p=>decide (p.1 = k)).map (·.2)
def ptA (m:List (κ × α)) (k:κ) (v:α):List (κ × α):=if (m.any fun p=>decide (p.1 = k)) = true then m.map (fun p=>if p.1 = k then (p.1,v) else p) else m ++ [(k,v)]
def HasM (H:Hp):List (κ × PyData)->List (κ × V)->Prop
 | [],m=>m = []
 | p :: r,m=>∃ v m',m = (p.1,v) :: m'/\Has H p.2 v/\HasM H r m'
theorem HasM.mono {H H':Hp} (s:Same H H'):∀ {m:List (κ × PyData)} {m':List (κ × V)},HasM H m m'->HasM H' m m'
 | [],_,q=>q
 | p :: r,_,⟨v,t,e,q,l⟩=>⟨v,t,e,Has.mono s _ _ q,HasM.mono s l⟩
theorem HasM.length {H:Hp}:∀ {m:List (κ × PyData)} {m':List (κ × V)},HasM H m m'->m'.length = m.length
 | [],_,q=>by rw [show _ = [] from q]; rfl
 | p :: r,_,⟨v,t,e,q,l⟩=>by rw [e,List.length_cons,List.length_cons,HasM.length l]
theorem HasM.val {H:Hp} (k:κ):∀ {m:List (κ × PyData)} {m':List (κ × V)},HasM H m m'->(lkA m k = none/\zl4 m' k = none)\/∃ d v,lkA m k = some d/\zl4 m' k = some v/\Has H d v
 | [],m',q=>by rw [show m' = [] from q]; exact .inl ⟨rfl,rfl⟩
 | p :: r,m',⟨v,t,e,q,l⟩=>by
  subst e
  by_cases hk:p.1 = k
  ·exact .inr ⟨p.2,v,by simp [lkA,hk],zfC hk,q⟩
  ·have e1:lkA (p :: r) k = lkA r k:=by simp [lkA,hk]
   rw [e1,zfD hk]
   exact HasM.val k l
theorem HasM.any {H:Hp} (k:κ):∀ {m:List (κ × PyData)} {m':List (κ × V)},HasM H m m'->(m'.any fun p=>decide (p.1 = k)) = m.any fun p=>decide (p.1 = k)
 | [],m',q=>by rw [show m' = [] from q]; rfl
 | p :: r,m',⟨v,t,e,q,l⟩=>by
  subst e
  rw [List.any_cons,List.any_cons,HasM.any k l]
theorem HasM.sets {H:Hp} {k:κ} {d:PyData} {v:V} (hv:Has H d v):∀ {m:List (κ × PyData)} {m':List (κ × V)},HasM H m m'->HasM H (m.map fun p=>if p.1 = k then (p.1,d) else p) (m'.map fun p=>if p.1 = k then (p.1,v) else p)
 | [],m',q=>by rw [show m' = [] from q]; rfl
 | p :: r,m',⟨u,t,e,q,l⟩=>by
  subst e
  rw [List.map_cons,List.map_cons]
  by_cases hk:p.1 = k
  ·exact ⟨v,_,by simp [hk],by simpa [hk] using hv,HasM.sets hv l⟩
  ·exact ⟨u,_,by simp [hk],by simpa [hk] using q,HasM.sets hv l⟩
theorem HasM.snoc {H:Hp} {k:κ} {d:PyData} {v:V} (hv:Has H d v):∀ {m:List (κ × PyData)} {m':List (κ × V)},HasM H m m'->HasM H (m ++ [(k,d)]) (m' ++ [(k,v)])
 | [],m',q=>by rw [show m' = [] from q]; exact ⟨v,[],rfl,hv,rfl⟩
 | p :: r,m',⟨u,t,e,q,l⟩=>by subst e; exact ⟨u,_,rfl,q,HasM.snoc hv l⟩
theorem HasM.put {H:Hp} {k:κ} {d:PyData} {v:V} {m:List (κ × PyData)} {m':List (κ × V)} (l:HasM H m m') (hv:Has H d v):HasM H (ptA m k d) (zfg m' k v):=by
 unfold ptA zfg
 rw [l.any k]
 split
 ·exact l.sets hv
 ·exact l.snoc hv
end
inductive DD where
 | k (m:List (Key × PyData))
 | t (m:List (List Key × PyData))
def DD.pairs:DD->List (PyData × PyData)
 | .k m=>m.map fun p=>(kD p.1,p.2)
 | .t m=>m.map fun p=>(.tuple (p.1.map kD),p.2)
def DD.len:DD->Nat
 | .k m=>m.length
 | .t m=>m.length
def zpw:PyData->Option Key
 | .int i=>some (.inl i)
 | .str x=>some (.inr x)
 | _=>none
def zlO:List PyData->Option (List Key)
 | []=>some []
 | d :: ds=>(zpw d).bind fun k=>(zlO ds).map (k :: ·)
def zsp:PyData->Option (List Key)
 | .tuple ds=>zlO ds
 | _=>none
def DD.get:DD->PyData->Option (Option PyData)
 | .k m,y=>(zpw y).map (lkA m)
 | .t m,y=>(zsp y).map (lkA m)
def DD.put:DD->PyData->PyData->Option DD
 | .k m,y,d=>(zpw y).map fun k=>.k (ptA m k d)
 | .t m,y,d=>(zsp y).map fun k=>.t (ptA m k d)
def RAt (G H:Hp) (a:Addr):DD->Prop
 | .k m=>∃ m',Rd H a (.dK m')/\HasM G m m'
 | .t m=>∃ m',Rd H a (.dT m')/\HasM G m m'
def DAt (G H:Hp) (a:Addr):DD->Prop
 | .k m=>∃ m',H a = some (.dK m')/\HasM G m m'
 | .t m=>∃ m',H a = some (.dT m')/\HasM G m m'
theorem zhM {H:Hp} {y:PyData} {v:V} {k:Key} (e:zpw y = some k) (q:Has H y v):v = kV k:=by
 cases y with
 | int i=>cases e; exact zcp.mp q
 | str x=>cases e; exact zdw.mp q
 | _=>cases e
theorem zjn {H:Hp}:∀ {ds:List PyData} {vs:List V} {ks:List Key},zlO ds = some ks->HasL H ds vs->vs = ks.map kV
 | [],vs,ks,e,l=>by cases e; exact zV.mp l
 | d :: ds,vs,ks,e,l=>by
  obtain ⟨v,r,rfl,q,l⟩:=zI.mp l
  unfold zlO at e
  cases hk:zpw d with
  | none=>rw [hk] at e; cases e
  | some k =>
   rw [hk,Option.bind_some] at e
   cases hs:zlO ds with
   | none=>rw [hs] at e; cases e
   | some ks' =>
    rw [hs] at e
    cases e
    rw [zhM hk q,zjn hs l]
    rfl
theorem zkW {H:Hp} {y:PyData} {v:V} {ks:List Key} (e:zsp y = some ks) (q:Has H y v):∃ b,v = .ref b/\H b = some (.tup (ks.map kV)):=by
 cases y with
 | tuple ds =>
  obtain ⟨b,vs,rfl,eb,l⟩:=za7.mp q
  exact ⟨b,rfl,by rw [<- zjn (show zlO ds = some ks from e) l]; exact eb⟩
 | _=>cases e
theorem DAt.mono {G G' H H':Hp} {a:Addr} {D:DD} (s:Same G G') (e:∀ u,H a = some u->H' a = some u) (q:DAt G H a D):DAt G' H' a D:=by
 cases D with
 | k m=>obtain ⟨m',e1,l⟩:=q; exact ⟨m',e _ e1,l.mono s⟩
 | t m=>obtain ⟨m',e1,l⟩:=q; exact ⟨m',e _ e1,l.mono s⟩
theorem DAt.rd {G H:Hp} {a:Addr} {D:DD} (q:DAt G H a D):RAt G H a D:=by
 cases D with
 | k m=>obtain ⟨m',e1,l⟩:=q; exact ⟨m',.inl e1,l⟩
 | t m=>obtain ⟨m',e1,l⟩:=q; exact ⟨m',.inl e1,l⟩
theorem DAt.mo {G H:Hp} {a:Addr} {D:DD} (q:DAt G H a D):∃ u:MO,H a = some u.ho:=by
 cases D with
 | k m=>obtain ⟨m',e1,l⟩:=q; exact ⟨.k m',e1⟩
 | t m=>obtain ⟨m',e1,l⟩:=q; exact ⟨.t m',e1⟩
def RelD (G:Hp):Option PyData->Option V->Prop
 | none,r=>r = none
 | some d,r=>∃ u,r = some u/\Has G d u
theorem RAt.get {G H:Hp} {a:Addr} {D:DD} {y:PyData} {v:V} {o:Option PyData} (sv:Same G H) (q:RAt G H a D) (hy:Has G y v) (e:D.get y = some o):∃ r,DGet H a v r/\RelD G o r:=by
 cases D with
 | k m =>
  obtain ⟨m',e1,l⟩:=q
  replace e:(zpw y).map (lkA m) = some o:=e
  cases hk:zpw y with
  | none=>rw [hk] at e; cases e
  | some k =>
   rw [hk] at e
   cases e
   rw [zhM hk hy]
   refine ⟨_,.inl ⟨m',k,e1,rfl,rfl⟩,?_⟩
   rcases l.val k with ⟨z1,z2⟩ | ⟨d,u,z1,z2,z3⟩
   ·rw [z1]; exact z2
   ·rw [z1]; exact ⟨u,z2,z3⟩
 | t m =>
  obtain ⟨m',e1,l⟩:=q
  replace e:(zsp y).map (lkA m) = some o:=e
  cases hk:zsp y with
  | none=>rw [hk] at e; cases e
  | some k =>
   rw [hk] at e
   cases e
   obtain ⟨b,rfl,eb⟩:=zkW hk hy
   refine ⟨_,.inr ⟨m',k,b,e1,rfl,sv _ _ eb,rfl⟩,?_⟩
   rcases l.val k with ⟨z1,z2⟩ | ⟨d,u,z1,z2,z3⟩
   ·rw [z1]; exact z2
   ·rw [z1]; exact ⟨u,z2,z3⟩
theorem RAt.isD {G H:Hp} {a:Addr} {D:DD} (q:RAt G H a D):IsD H a:=by
 cases D with
 | k m=>obtain ⟨m',e1,_⟩:=q; exact .inl ⟨m',e1⟩
 | t m=>obtain ⟨m',e1,_⟩:=q; exact .inr ⟨m',e1⟩
theorem DAt.put {G H:Hp} {a:Addr} {D D':DD} {y d:PyData} {v u:V} (sv:Same G H) (q:DAt G H a D) (hy:Has G y v) (hd:Has G d u) (e:D.put y d = some D') (hl:D.len < 1000) :
  ∃ x:MO,DPut H a v u (upd H a x.ho)/\∀ H',H' a = some x.ho->DAt G H' a D':=by
 cases D with
 | k m =>
  obtain ⟨m',e1,l⟩:=q
  replace e:((zpw y).map fun k=>DD.k (ptA m k d)) = some D':=e
  cases hk:zpw y with
  | none=>rw [hk] at e; cases e
  | some k =>
   rw [hk] at e
   cases e
   rw [zhM hk hy]
   exact ⟨.k (zfg m' k u),DPut.k e1 (by rw [l.length]; exact small1000 (Nat.le_of_lt hl)),fun H' z=>⟨_,z,l.put hd⟩⟩
 | t m =>
  obtain ⟨m',e1,l⟩:=q
  replace e:((zsp y).map fun k=>DD.t (ptA m k d)) = some D':=e
  cases hk:zsp y with
  | none=>rw [hk] at e; cases e
  | some k =>
   rw [hk] at e
   cases e
   obtain ⟨b,rfl,eb⟩:=zkW hk hy
   exact ⟨.t (zfg m' k u),DPut.t e1 (sv _ _ eb) (by rw [l.length]; exact small1000 (Nat.le_of_lt hl)),fun H' z=>⟨_,z,l.put hd⟩⟩
theorem zu0 {a b:Key} (e:kD a = kD b):a = b:=by
 cases a <;> cases b <;> cases e <;> rfl
theorem zol {H:Hp}:∀ {m:List (Key × PyData)} {m':List (Key × V)},HasM H m m'->HasV H (m.map fun p=>(kD p.1,p.2)) (m'.map (·.2))/\m'.map (fun p=>kD p.1) = m.map fun p=>kD p.1
 | [],m',q=>by rw [show m' = [] from q]; exact ⟨zkV.mpr rfl,rfl⟩
 | p :: r,m',⟨v,t,e,q,l⟩=>by
  subst e
  obtain ⟨z1,z2⟩:=zol l
  exact ⟨zjm.mpr ⟨v,_,rfl,q,z1⟩,by rw [List.map_cons,List.map_cons,z2]⟩
theorem zl8 {H:Hp}:∀ {m:List (Key × PyData)} {m':List (Key × V)},HasV H (m.map fun p=>(kD p.1,p.2)) (m'.map (·.2))->m.map (fun p=>kD p.1) = m'.map (fun p=>kD p.1)->HasM H m m'
 | [],[],_,_=>rfl
 | [],_ :: _,_,e=>by simp at e
 | _ :: _,[],_,e=>by simp at e
 | p :: r,q :: t,h,e=>by
  rw [List.map_cons,List.map_cons] at h
  obtain ⟨v,s,e1,e2,e3⟩:=zjm.mp h
  rw [List.cons.injEq] at e1
  rw [List.map_cons,List.map_cons,List.cons.injEq] at e
  have z:=zu0 e.1
  obtain ⟨q1,q2⟩:=q
  refine ⟨q2,t,by rw [z],?_,zl8 (by rw [e1.2]; exact e3) e.2⟩
  have z1:q2 = v:=e1.1
  rw [z1]
  exact e2
theorem zhr {H:Hp} {m:List (Key × PyData)} {v:V}:Has H (.dict (DD.pairs (.k m))) v ↔ ∃ a ob m',v = .ref a/\H a = some (.frz ob (.dK m'))/\HasM H m m':=by
 rw [zla]
 constructor
 ·rintro ⟨a,vs,rfl,⟨ob,m',e,e1,e2⟩,l⟩
  subst e2
  refine ⟨a,ob,m',rfl,e,zl8 l ?_⟩
  rw [<- e1]
  simp [DD.pairs]
 ·rintro ⟨a,ob,m',rfl,e,l⟩
  obtain ⟨z1,z2⟩:=zol l
  exact ⟨a,_,rfl,⟨ob,m',e,by rw [z2]; simp [DD.pairs],rfl⟩,z1⟩
abbrev DM:=List (Addr × DD)
def ad (M:DM):List Addr:=M.map (·.1)
structure RepM (h o:List Addr) (H:Hp) (M:DM):Prop where
 nd:(ad M).Nodup
 nh:∀ a ∈ ad M,a ∉ h/\a ∉ o
 ct:∀ a D,(a,D) ∈ M->DAt (vx (h ++ ad M) o H) H a D
section
variable {h o o':List Addr} {H H':Hp} {M:DM} {S:Sto}
theorem RepM.at (r:RepM h o H M) {a:Addr} (m:a ∈ ad M):∃ D,(a,D) ∈ M/\DAt (vx (h ++ ad M) o H) H a D:=by
 obtain ⟨p,mp,e⟩:=List.mem_map.mp m
 obtain ⟨b,D⟩:=p
 cases e
 exact ⟨D,mp,r.ct _ D mp⟩
theorem RepM.mono (r:RepM h o H M) (e:Ex o H o' H'):RepM h o' H' M:=by
 have k1:∀ a ∈ ad M,∀ u,H a = some u->a ∉ o'/\H' a = some u:=fun a m u z=>e.kp a u (r.nh a m).2 z
 refine ⟨r.nd,fun a m=>⟨(r.nh a m).1,?_⟩,fun a D m=>?_⟩
 ·obtain ⟨D,_,q⟩:=r.at m
  obtain ⟨u,z⟩:=q.mo
  exact (k1 a m _ z).1
 ·exact (r.ct a D m).mono e.vx fun u z=>(k1 a (List.mem_map.mpr ⟨_,m,rfl⟩) u z).2
theorem RepM.nil:RepM h o H []:=⟨List.nodup_nil,fun a m=>(by cases m),fun a D m=>(by cases m)⟩
def zsv (M:DM) (a:Addr) (D:DD):DM:=M.map fun p=>if p.1 = a then (a,D) else p
theorem zgG {a:Addr} {D:DD}:∀ {M:DM},ad (zsv M a D) = ad M
 | []=>rfl
 | p :: r=>by
  have z:=zgG (a:=a) (D:=D) (M:=r)
  unfold ad zsv at z ⊢
  rw [List.map_cons,List.map_cons,List.map_cons,z]
  by_cases e:p.1 = a <;> simp [e]
theorem zgn {a:Addr} {u:HO} (m:a ∈ h):Same (vx h o H) (vx h o (upd H a u)):=fun b w e=>by
 obtain ⟨z1,z2,z3⟩:=zae.mp e
 exact zae.mpr ⟨z1,z2,by rw [zO (fun z=>z1 (by rw [z]; exact m))]; exact z3⟩
theorem HasX.view (s:Same (vx h o H) (vx h o H')):∀ {x:XV} {v:V},HasX h o H x v->HasX h o H' x v
 | .d d,v,q=>Has.mono s d v q
 | .l k,v,q=>q
 | .o w,v,q=>q
 | .x C fs,v,q=>HasE.mono s q
theorem RepE.view {δ:XE} {σ:St} (s:Same (vx h o H) (vx h o H')) (r:RepE h o H δ σ):RepE h o H' δ σ:=⟨r.len,fun i x e=>let ⟨v,e1,e2⟩:=r.get i x e; ⟨v,e1,e2.view s⟩⟩
theorem RepS.hidden {a:Addr} {u:MO} (r:RepS h o H S) (m:a ∈ h):RepS h o (L2.upd H a u.ho) S where
 len:=r.len
 nd:=r.nd
 dis:=r.dis
 hal:=fun b mb=>by
  by_cases e:b = a
  ·subst e; exact ⟨u,zN⟩
  ·obtain ⟨w,z⟩:=r.hal b mb
   exact ⟨w,by rw [zO e]; exact z⟩
 cont:=fun k b ds e1 e2=>by
  obtain ⟨vs,e3,l⟩:=r.cont k b ds e1 e2
  have ne:b ≠ a:=fun z=>r.dis b (List.mem_of_getElem? e1) (z ▸ m)
  exact ⟨vs,by rw [zO ne]; exact e3,HasL.mono (zgn m) _ _ l⟩
theorem RepM.put {a:Addr} {D D':DD} {u:MO} (r:RepM h o H M) (m:(a,D) ∈ M) (q:∀ H',H' a = some u.ho->DAt (vx (h ++ ad M) o H) H' a D'):RepM h o (L2.upd H a u.ho) (zsv M a D'):=by
 have ma:a ∈ ad M:=List.mem_map.mpr ⟨_,m,rfl⟩
 refine ⟨by rw [zgG]; exact r.nd,by rw [zgG]; exact r.nh,fun b D2 mb=>?_⟩
 rw [zgG]
 have sv:Same (vx (h ++ ad M) o H) (vx (h ++ ad M) o (L2.upd H a u.ho)):=zgn (List.mem_append_right _ ma)
 obtain ⟨p,mp,ep⟩:=List.mem_map.mp mb
 by_cases e:p.1 = a
 ·rw [if_pos e] at ep
  cases ep
  exact (q _ zN).mono sv fun _ z=>z
 ·rw [if_neg e] at ep
  subst ep
  exact (r.ct _ _ mp).mono sv fun w z=>by rw [zO e]; exact z
theorem RepS.less {l:List Addr} (r:RepS (h ++ l) o H S):RepS h o H S where
 len:=r.len
 nd:=r.nd
 dis:=fun a ma z=>r.dis a ma (List.mem_append_left _ z)
 hal:=fun b mb=>r.hal b (List.mem_append_left _ mb)
 cont:=fun k b ds e1 e2=>by
  obtain ⟨vs,e3,q⟩:=r.cont k b ds e1 e2
  exact ⟨vs,e3,HasL.mono (fun c u z=>let ⟨z1,z2,z3⟩:=zae.mp z; zae.mpr ⟨fun mm=>z1 (List.mem_append_left _ mm),z2,z3⟩) _ _ q⟩
theorem zgH {l:List Addr}:Same (vx (h ++ l) o H) (vx h o H):=fun c u z=>let ⟨z1,z2,z3⟩:=zae.mp z; zae.mpr ⟨fun mm=>z1 (List.mem_append_left _ mm),z2,z3⟩
theorem HasX.less {l:List Addr}:∀ {x:XV} {v:V},HasX (h ++ l) o H x v->HasX h o H x v
 | .d d,v,q=>Has.mono zgH d v q
 | .l k,v,q=>q
 | .o w,v,q=>q
 | .x C fs,v,q=>HasE.mono zgH q
end
end
section
structure DEndsM where
 nx:XE->Sto->DM->Prop
 rt:XV->Sto->DM->Prop
 bk:XE->Sto->DM->Prop:=fun _ _ _=>False
 ct:XE->Sto->DM->Prop:=fun _ _ _=>False
abbrev DSm:=DEndsM->XE->Sto->DM->Prop
def Fr (H:Hp) (M:DM):Prop:=∀ a ∈ ad M,H a = none
def NxM (h o:List Addr) (H:Hp) (A:List Addr) (N:XE->Sto->DM->Prop) (Y:St->Hp->Prop):Prop:=∀ o' H' δ' S' M' σ',Ex o H o' H'->ad M' = A->RepE (h ++ ad M') o' H' δ' σ'->RepS (h ++ ad M') o' H' S'->RepM h o' H' M'->N δ' S' M'->Y σ' H'
structure EOkM (h o:List Addr) (H:Hp) (A:List Addr) (E:DEndsM) (D:Ends):Prop where
 nx:NxM h o H A E.nx D.nx
 rt:∀ o' H' S' M' x v,Ex o H o' H'->ad M' = A->RepS (h ++ ad M') o' H' S'->RepM h o' H' M'->HasX (h ++ ad M') o' H' x v->E.rt x S' M'->D.rt v H'
 bk:NxM h o H A E.bk D.bk
 ct:NxM h o H A E.ct D.ct
def RSm (E:XK) (EX:EXD) (t:TS) (dt:DSm):Prop:=∀ (h o0:List Addr) (H0:Hp) (o:List Addr) (H:Hp) (δ:XE) (σ:St) (S:Sto) (M:DM) (En:DEndsM) (D:Ends),Ex o0 H0 o H->Fr H0 M->RepE (h ++ ad M) o H δ σ->RepS (h ++ ad M) o H S->RepM h o H M->dt En δ S M ->
 EOkM h o0 H0 (ad M) En D->CnX h o0 H0 EX E->t D σ H
theorem CnX.inn {E:XK} {EX:EXD} {h o0 o l:List Addr} {H0 H:Hp} (x:CnX h o0 H0 EX E) (e0:Ex o0 H0 o H):CnX (h ++ l) o H EX E:=fun o' H' S' C a fs e s' hE q=>x o' H' S' C a fs (e0.trans e) s'.less (HasE.mono zgH hE) q
def zi5 (dt:DS):DSm:=fun En δ S M=>dt { nx:=fun δ' S'=>En.nx δ' S' M,rt:=fun x S'=>En.rt x S' M,bk:=fun δ' S'=>En.bk δ' S' M,ct:=fun δ' S'=>En.ct δ' S' M } δ S
def zo5 (t u:DSm):DSm:=fun En δ S M=>t { En with nx:=u En } δ S M
def zwg (c:DM->DT) (t u:DSm):DSm:=fun En δ S M=>c M δ S fun b S1=>if b = true then t En δ S1 M else u En δ S1 M
def zuM (e:DM->DE) (g:DG):DSm:=fun En δ S M=>e M δ S fun x S1=>g x δ S1 fun δ' S'=>En.nx δ' S' M
def zqy (e:DM->DE):DSm:=fun En δ S M=>e M δ S fun _ S1=>En.nx δ S1 M
def zuE (e:DM->DE):DSm:=fun En δ S M=>e M δ S fun x S1=>En.rt x S1 M
def zfp (g:DG) (b:DSm):List PyData->DSm
 | [],E,δ,S,M=>E.nx δ S M
 | d :: ds,E,δ,S,M=>g (.d d) δ S fun δ1 S1=>b { nx:=fun δ2 S2 M2=>zfp g b ds E δ2 S2 M2,ct:=fun δ2 S2 M2=>zfp g b ds E δ2 S2 M2,bk:=E.nx,rt:=E.rt } δ1 S1 M
def zmA (i:DM->DI) (g:DG) (b:DSm):DSm:=fun En δ S M=>i M δ S fun ds S1=>zfp g b ds En δ S1 M
def PhM (M:DM):Phi:=fun h' o H=>∃ h,h' = h ++ ad M/\RepM h o H M
instance {M:DM}:Stb (PhM M):=⟨fun ⟨h,e,r⟩ x=>⟨h,e,r.mono x⟩⟩
section
variable {E:XK} {EX:EXD} {t u:TS} {dt du:DSm}
theorem zoN {ds:DS} (ht:RSx E EX t ds):RSm E EX t (zi5 ds):=fun h o0 H0 o H δ σ S M En D e0 fr he hs rm q c x =>
 ht (h ++ ad M) o H δ σ S _ D he hs q ⟨fun o' H' δ' S' σ' e he' hs' n=>c.nx o' H' δ' S' M σ' (e0.trans e) rfl he' hs' (rm.mono e) n,fun o' H' S' y v e hs' hy n=>c.rt o' H' S' M y v (e0.trans e) rfl hs' (rm.mono e) hy n,
  fun o' H' δ' S' σ' e he' hs' n=>c.bk o' H' δ' S' M σ' (e0.trans e) rfl he' hs' (rm.mono e) n,fun o' H' δ' S' σ' e he' hs' n=>c.ct o' H' δ' S' M σ' (e0.trans e) rfl he' hs' (rm.mono e) n⟩ (x.inn e0)
theorem zsc {ds:DS} (ht:RS t ds):RSm E EX t (zi5 ds):=zoN (ze8 ht)
theorem ztS (ht:RSm E EX t dt) (hu:RSm E EX u du):RSm E EX (zjr t u) (zo5 dt du):=fun h o0 H0 o H δ σ S M En D e0 fr he hs rm q c x =>
 ht h o0 H0 o H δ σ S M _ _ e0 fr he hs rm q ⟨fun o1 H1 δ1 S1 M1 σ1 e1 ea he1 hs1 rm1 q1=>hu h o0 H0 o1 H1 δ1 σ1 S1 M1 En D e1 (by unfold Fr; rw [ea]; exact fr) he1 hs1 rm1 q1 (by rw [ea]; exact c) x,c.rt,c.bk,c.ct⟩ x
theorem zqd {wi:TI} {g:TG} {tb:TS} {di:DM->DI} {dg:DG} {db:DSm} (hi:∀ M,RIp (PhM M) wi (di M)) (hg:RG g dg) (hb:RSm E EX tb db):RSm E EX (ztW wi g tb) (zmA di dg db):=fun h o0 H0 o H δ σ S M En D e0 fr he hs rm q c x =>
 hi M (h ++ ad M) o H δ σ S _ _ he hs q (fun o1 H1 S1 ds J e1 s1 wk d1=>by
  refine ⟨fun i m σ2 H2=>m = ds.length - i/\i <= ds.length/\∃ o2 δ2 S2 M2,Ex o0 H0 o2 H2/\ExH (h ++ ad M) o1 H1 o2 H2/\ad M2 = ad M/\RepE (h ++ ad M) o2 H2 δ2 σ2/\RepS (h ++ ad M) o2 H2 S2/\RepM h o2 H2 M2/\zfp dg db (ds.drop i) En δ2 S2 M2,
   ⟨ds.length,by simp,Nat.zero_le _,o1,δ,S1,M,e0.trans e1,ExH.refl,rfl,he.mono e1,s1,rm.mono e1,d1⟩,?_⟩
  rintro i m σ2 H2 ⟨rfl,hi,o2,δ2,S2,M2,e2,x2,ea,he2,hs2,rm2,d2⟩
  by_cases hlt:i < ds.length
  ·have ed:ds[i]? = some ds[i]:=List.getElem?_eq_getElem hlt
   rw [List.drop_eq_getElem_cons hlt] at d2
   refine .inr ⟨wk.go i _ o2 H2 x2 ed,fun σ3 H3=>∃ o3 δ3 S3 M3,Ex o0 H0 o3 H3/\ExH (h ++ ad M) o1 H1 o3 H3/\ad M3 = ad M/\RepE (h ++ ad M) o3 H3 δ3 σ3/\RepS (h ++ ad M) o3 H3 S3/\RepM h o3 H3 M3/\zfp dg db (ds.drop (i + 1)) En δ3 S3 M3,fun σ3 H3 n=>⟨ds.length - (i + 1),by omega,rfl,hlt,n⟩,fun y H3 yy=>?_⟩
   obtain ⟨s3,hx⟩:=wk.yld i _ o2 H2 y H3 S2 x2 hs2 ed yy
   have e23:Ex o2 H2 o2 H3:=Ex.of_same s3
   refine hg (h ++ ad M) o2 H3 δ2 σ2 S2 (.d ds[i]) y _ _ (he2.mono e23) (hs2.same s3) hx d2 fun o4 H4 δ4 S4 σ4 e4 he4 hs4 d4=>?_
   have e24:Ex o2 H2 o4 H4:=e23.trans e4
   have nM:∀ b u,H0 b = some u->b ∉ ad M:=fun b u z mb=>by
    rw [fr b mb] at z
    cases z
   have e04:Ex o0 H0 o4 (fun b=>if b ∈ ad M then none else H4 b):=⟨(e2.trans e24).pre,fun b u nb z=>by
    obtain ⟨z1,z2⟩:=(e2.trans e24).kp b u nb z
    exact ⟨z1,by show (if b ∈ ad M then none else H4 b) = some u; rw [if_neg (nM b u z)]; exact z2⟩⟩
   have exh:∀ {o5 H5},Ex o4 (fun b=>if b ∈ ad M then none else H4 b) o5 H5->ExH (h ++ ad M) o4 H4 o5 H5:=fun e5=>⟨e5.pre,fun b u n1 n2 z=>e5.kp b u n2 (by show (if b ∈ ad M then none else H4 b) = some u; rw [if_neg (fun mb=>n1 (List.mem_append_right _ mb))]; exact z)⟩
   have again:∀ o5 H5 δ5 S5 M5 σ5,Ex o4 (fun b=>if b ∈ ad M then none else H4 b) o5 H5->ad M5 = ad M2->RepE (h ++ ad M5) o5 H5 δ5 σ5->RepS (h ++ ad M5) o5 H5 S5->RepM h o5 H5 M5->zfp dg db (ds.drop (i + 1)) En δ5 S5 M5 ->
     ∃ o3 δ3 S3 M3,Ex o0 H0 o3 H5/\ExH (h ++ ad M) o1 H1 o3 H5/\ad M3 = ad M/\RepE (h ++ ad M) o3 H5 δ3 σ5/\RepS (h ++ ad M) o3 H5 S3/\RepM h o3 H5 M3/\zfp dg db (ds.drop (i + 1)) En δ3 S3 M3:=fun o5 H5 δ5 S5 M5 σ5 e5 a5 he5 hs5 rm5 d5 =>
    ⟨o5,δ5,S5,M5,e04.trans e5,(x2.trans e24.hid).trans (exh e5),a5.trans ea,by rw [<- ea,<- a5]; exact he5,by rw [<- ea,<- a5]; exact hs5,rm5,d5⟩
   refine hb h o4 (fun b=>if b ∈ ad M then none else H4 b) o4 H4 δ4 σ4 S4 M2 _ _ ⟨⟨[],by simp⟩,fun b u nb eb=>?_⟩ (fun a ma=>by show (if a ∈ ad M then none else H4 a) = none; rw [if_pos (by rw [<- ea]; exact ma)]) (by rw [ea]; exact he4) (by rw [ea]; exact hs4) (rm2.mono e24) d4
    ⟨again,fun o5 H5 S5 M5 y5 v5 e5 a5 hs5 rm5 hx5 q5=>c.rt o5 H5 S5 M5 y5 v5 (e04.trans e5) (a5.trans ea) hs5 rm5 hx5 q5,fun o5 H5 δ5 S5 M5 σ5 e5 a5 he5 hs5 rm5 q5=>c.nx o5 H5 δ5 S5 M5 σ5 (e04.trans e5) (a5.trans ea) he5 hs5 rm5 q5,again⟩ (x.pre e04)
   refine ⟨nb,?_⟩
   by_cases mb:b ∈ ad M
   ·simp [mb] at eb
   ·simpa [mb] using eb
  ·have ei:i = ds.length:=by omega
   subst ei
   rw [List.drop_length] at d2
   exact .inl ⟨wk.stop _ o2 H2 x2 (Nat.le_refl _),c.nx o2 H2 δ2 S2 M2 σ2 e2 ea (by rw [ea]; exact he2) (by rw [ea]; exact hs2) rm2 d2⟩) ⟨h,rfl,rm⟩
end
end
section
section
variable {h h' o:List Addr} {H H':Hp}
theorem HasX.to (s:Same (vx h o H) (vx h' o H')):∀ {x:XV} {v:V},HasX h o H x v->HasX h' o H' x v
 | .d d,v,q=>Has.mono s d v q
 | .l k,v,q=>q
 | .o w,v,q=>q
 | .x C fs,v,q=>HasE.mono s q
theorem RepE.to {δ:XE} {σ:St} (s:Same (vx h o H) (vx h' o H')) (r:RepE h o H δ σ):RepE h' o H' δ σ:=⟨r.len,fun i x e=>let ⟨v,e1,e2⟩:=r.get i x e; ⟨v,e1,e2.to s⟩⟩
end
def zrT (a:Addr) (m:List (Key × PyData)):XV->XV
 | .o (.ref b)=>if b = a then .d (.dict (DD.pairs (.k m))) else .o (.ref b)
 | x=>x
theorem zug {h h' o:List Addr} {H H':Hp} {a:Addr} {m:List (Key × PyData)} {m':List (Key × V)} {ob:Obj} (s:Same (vx h o H) (vx h' o H')) (e:vx h' o H' a = some (.frz ob (.dK m'))) (l:HasM (vx h o H) m m'):∀ {x:XV} {v:V},HasX h o H x v->HasX h' o H' (zrT a m x) v
 | .d d,v,z=>Has.mono s d v z
 | .l k,v,z=>z
 | .x C fs,v,z=>HasE.mono s z
 | .o w,v,z=>by
  cases w with
  | ref b =>
   unfold zrT
   dsimp only
   split
   ·rename_i eb
    subst eb
    rw [show v = .ref b from z]
    exact zhr.mpr ⟨b,ob,m',rfl,e,l.mono s⟩
   ·exact z
  | _=>exact z
theorem zpj {h h' o:List Addr} {H H':Hp} {a:Addr} {m:List (Key × PyData)} {m':List (Key × V)} {ob:Obj} {δ:XE} {σ:St} (s:Same (vx h o H) (vx h' o H')) (e:vx h' o H' a = some (.frz ob (.dK m'))) (l:HasM (vx h o H) m m') (r:RepE h o H δ σ):RepE h' o H' (δ.map (Option.map (zrT a m))) σ:=by
 refine ⟨by rw [List.length_map]; exact r.len,fun i x ex=>?_⟩
 rw [List.getElem?_map] at ex
 cases hd:δ[i]? with
 | none=>rw [hd] at ex; cases ex
 | some y =>
  rw [hd] at ex
  cases y with
  | none=>cases ex
  | some y =>
   cases ex
   obtain ⟨v,e1,e2⟩:=r.get i y hd
   exact ⟨v,e1,zug s e l e2⟩
theorem zay {M:DM} {a:Addr} {D:DD}:ad (M ++ [(a,D)]) = ad M ++ [a]:=by simp [ad]
theorem RepM.init {h o:List Addr} {H:Hp} {M:DM} {a:Addr} {D:DD} (r:RepM h o H (M ++ [(a,D)])):RepM h o H M:=by
 have nd:=r.nd
 rw [zay] at nd
 refine ⟨(List.nodup_append.mp nd).1,fun b m=>r.nh b (by rw [zay]; exact List.mem_append_left _ m),fun b D2 m=>?_⟩
 have z:=r.ct b D2 (List.mem_append_left _ m)
 rw [zay,<- List.append_assoc] at z
 exact z.mono zgH fun _ z=>z
def zmc (f:Bool) (i:Nat) (D0:DD) (b:DSm):DSm:=fun En δ S M=>∀ a,a ∉ ad M->b { nx:=(fun δ' S' M'=>if f = true then (∃ M1 m,M' = M1 ++ [(a,.k m)]/\δ'[i]? = some (some (.o (.ref a)))/\En.nx (δ'.map (Option.map (zrT a m))) S' M1) else (∃ M1 D,M' = M1 ++ [(a,D)]/\En.nx δ' S' M1)),rt:=(fun x S' M'=>∃ M1 D,M' = M1 ++ [(a,D)]/\En.rt x S' M1),bk:=(fun δ' S' M'=>∃ M1 D,M' = M1 ++ [(a,D)]/\En.bk δ' S' M1),ct:=(fun δ' S' M'=>∃ M1 D,M' = M1 ++ [(a,D)]/\En.ct δ' S' M1) } (δ.set i (some (.o (.ref a)))) S (M ++ [(a,D0)])
section
variable {E:XK} {EX:EXD} {tb:TS} {db:DSm} {i:Nat}
theorem zoO {f:Bool} {u:MO} {D0:DD} (hD:∀ (G H:Hp) a,H a = some u.ho->DAt G H a D0) (hb:RSm E EX tb db) {h o0:List Addr} {H0:Hp} {o:List Addr} {H:Hp} {δ:XE} {σ:St} {S:Sto} {M:DM} {En:DEndsM} {D:Ends} (e0:Ex o0 H0 o H) (fr:Fr H0 M) (he:RepE (h ++ ad M) o H δ σ) (hs:RepS (h ++ ad M) o H S) (rm:RepM h o H M)
  (q:zmc f i D0 db En δ S M) (c:EOkM h o0 H0 (ad M) En D) (x:CnX h o0 H0 EX E) (p:Addr) (hp:H p = none):(if f = true then zvz i tb else tb) D (σ.set i (some (.ref p))) (upd H p u.ho):=by
 have nM:p ∉ ad M:=fun m=>by
  obtain ⟨D2,_,z⟩:=rm.at m
  obtain ⟨w,ew⟩:=z.mo
  rw [hp] at ew
  cases ew
 have f1:=hs.fresh hp
 have nh:p ∉ h:=fun m=>f1.1 (List.mem_append_left _ m)
 have sH:Same H (upd H p u.ho):=Same.laid hp
 have e1:Ex o0 H0 o (upd H p u.ho):=e0.trans (Ex.of_same sH)
 have H0p:H0 p = none:=by
  cases z:H0 p with
  | none=>rfl
  | some w =>
   by_cases m:p ∈ o0
   ·obtain ⟨r,er⟩:=e0.pre
    exact absurd (show p ∈ o by rw [er]; exact List.mem_append_left _ m) f1.2
   ·have:=(e0.kp p w m z).2
    rw [hp] at this
    cases this
 have sv:Same (vx (h ++ ad M) o H) (vx (h ++ (ad M ++ [p])) o (upd H p u.ho)):=fun b w z=>by
  obtain ⟨z1,z2,z3⟩:=zae.mp z
  have ne:b ≠ p:=zX z3 hp
  refine zae.mpr ⟨fun m=>?_,z2,by rw [zO ne]; exact z3⟩
  rw [<- List.append_assoc] at m
  rcases List.mem_append.mp m with m | m
  ·exact z1 m
  ·exact ne (List.mem_singleton.mp m)
 have sM:RepS (h ++ ad (M ++ [(p,D0)])) o (upd H p u.ho) S:=by
  rw [zay]
  refine ⟨hs.len,hs.nd,fun a ma z=>?_,fun b mb=>?_,fun k b ds e1 e2=>?_⟩
  ·rw [<- List.append_assoc] at z
   rcases List.mem_append.mp z with z | z
   ·exact hs.dis a ma z
   ·rw [List.mem_singleton.mp z] at ma
    exact f1.2 ma
  ·rw [<- List.append_assoc] at mb
   rcases List.mem_append.mp mb with m | m
   ·obtain ⟨w,ew⟩:=hs.hal b m
    exact ⟨w,sH _ _ ew⟩
   ·rw [List.mem_singleton.mp m]
    exact ⟨u,zN⟩
  ·obtain ⟨vs,e3,l⟩:=hs.cont k b ds e1 e2
   exact ⟨vs,sH _ _ e3,HasL.mono sv _ _ l⟩
 have mM:RepM h o (upd H p u.ho) (M ++ [(p,D0)]):=by
  refine ⟨by rw [zay]; exact zcK rm.nd nM,fun a ma=>?_,fun a D2 m=>?_⟩
  ·rw [zay] at ma
   rcases List.mem_append.mp ma with m | m
   ·exact rm.nh a m
   ·rw [List.mem_singleton.mp m]
    exact ⟨nh,f1.2⟩
  ·rw [zay]
   rcases List.mem_append.mp m with m | m
   ·exact (rm.ct a D2 m).mono sv fun w z=>sH _ _ z
   ·have:=List.mem_singleton.mp m
    cases this
    exact hD _ _ _ zN
 have hE:RepE (h ++ ad (M ++ [(p,D0)])) o (upd H p u.ho) (δ.set i (some (.o (.ref p)))) (σ.set i (some (.ref p))):=by
  rw [zay]
  exact (he.to sv).set (show HasX _ _ _ (.o (.ref p)) (.ref p) from rfl)
 have fr1:Fr H0 (M ++ [(p,D0)]):=fun a ma=>by
  rw [zay] at ma
  rcases List.mem_append.mp ma with m | m
  ·exact fr a m
  ·rw [List.mem_singleton.mp m]; exact H0p
 have back:∀ {N:XE->Sto->DM->Prop} {Y:St->Hp->Prop},NxM h o0 H0 (ad M) N Y->NxM h o0 H0 (ad (M ++ [(p,D0)])) (fun δ' S' M'=>∃ M1 D,M' = M1 ++ [(p,D)]/\N δ' S' M1) Y:=fun {N Y} nx o' H' δ' S' M' σ' ex ea hE' hS' hM' ⟨M1,D2,eM,n⟩=>by
  subst eM
  rw [zay,zay] at ea
  rw [zay,<- List.append_assoc] at hE' hS'
  exact nx o' H' _ S' M1 σ' ex (List.append_inj_left' ea rfl) (hE'.to zgH) hS'.less hM'.init n
 have ret:∀ o' H' S' M' y v,Ex o0 H0 o' H'->ad M' = ad (M ++ [(p,D0)])->RepS (h ++ ad M') o' H' S'->RepM h o' H' M'->HasX (h ++ ad M') o' H' y v->(∃ M1 D,M' = M1 ++ [(p,D)]/\En.rt y S' M1)->D.rt v H':=by
  rintro o' H' S' M' y v ex ea hS' hM' hx' ⟨M1,D2,eM,n⟩
  subst eM
  rw [zay,zay] at ea
  rw [zay,<- List.append_assoc] at hx' hS'
  exact c.rt o' H' S' M1 _ v ex (List.append_inj_left' ea rfl) hS'.less hM'.init hx'.less n
 have qq:=q p nM
 cases f with
 | false =>
  refine hb h o0 H0 o _ _ _ S (M ++ [(p,D0)]) _ D e1 fr1 hE sM mM qq ⟨?_,ret,back c.bk,back c.ct⟩ x
  exact fun o' H' δ' S' M' σ' ex ea hE' hS' hM' n=>back c.nx o' H' δ' S' M' σ' ex ea hE' hS' hM' (by simpa using n)
 | true =>
  refine hb h o0 H0 o _ _ _ S (M ++ [(p,D0)]) _ { D with nx:=fun σ' H'=>∃ a m,σ'[i]? = some (some (.ref a))/\H' a = some (.dK m)/\∀ ob,D.nx σ' (upd H' a (.frz ob (.dK m))) } e1 fr1 hE sM mM qq ⟨?_,ret,back c.bk,back c.ct⟩ x
  intro o' H' δ' S' M' σ' ex ea hE' hS' hM' n
  obtain ⟨M1,m,eM,ei,n2⟩:∃ M1 m,M' = M1 ++ [(p,DD.k m)]/\δ'[i]? = some (some (.o (.ref p)))/\En.nx (δ'.map (Option.map (zrT p m))) S' M1:=by simpa using n
  subst eM
  obtain ⟨v,ev,hv⟩:=hE'.get i _ ei
  have evp:v = .ref p:=hv
  subst evp
  have nn:=hM'.nh p (by rw [zay]; simp)
  have nd:=hM'.nd
  rw [zay,zay] at ea
  rw [zay] at nd
  have pn:p ∉ ad M1:=fun m=>(List.nodup_append.mp nd).2.2 p m p (by simp) rfl
  obtain ⟨m',em,l⟩:=hM'.ct p (.k m) (by simp)
  refine ⟨p,m',ev,em,fun ob=>?_⟩
  have np:p ∉ h ++ ad M1:=fun z=>(List.mem_append.mp z).elim nn.1 pn
  have s2:Same (vx (h ++ ad (M1 ++ [(p,DD.k m)])) o' H') (vx (h ++ ad M1) o' (upd H' p (.frz ob (.dK m')))):=fun b w z=>by
   obtain ⟨z1,z2,z3⟩:=zae.mp z
   rw [zay,<- List.append_assoc] at z1
   have ne:b ≠ p:=fun z=>z1 (by rw [z]; simp)
   exact zae.mpr ⟨fun mm=>z1 (List.mem_append_left _ mm),z2,by rw [zO ne]; exact z3⟩
  refine c.nx o' _ _ S' M1 σ' ⟨ex.pre,fun b w nb zb=>?_⟩ (List.append_inj_left' ea rfl) (zpj s2 (zae.mpr ⟨np,nn.2,zN⟩) l hE') ?_ ?_ n2
  ·obtain ⟨z1,z3⟩:=ex.kp b w nb zb
   exact ⟨z1,by rw [zO (fun z=>by rw [z,H0p] at zb; cases zb)]; exact z3⟩
  ·refine ⟨hS'.len,hS'.nd,fun a ma z=>hS'.dis a ma (by rw [zay,<- List.append_assoc]; exact List.mem_append_left _ z),fun b mb=>?_,fun k b ds q1 q2=>?_⟩
   ·obtain ⟨w,ew⟩:=hS'.hal b (by rw [zay,<- List.append_assoc]; exact List.mem_append_left _ mb)
    exact ⟨w,by rw [zO (fun z=>np (by rw [<- z]; exact mb))]; exact ew⟩
   ·obtain ⟨vs,q3,l3⟩:=hS'.cont k b ds q1 q2
    exact ⟨vs,by rw [zO (fun z=>nn.2 (by rw [<- z]; exact List.mem_of_getElem? q1))]; exact q3,HasL.mono s2 _ _ l3⟩
  ·have r1:=hM'.init
   refine ⟨r1.nd,r1.nh,fun b D3 mb=>?_⟩
   have nb:b ≠ p:=fun z=>pn (by rw [<- z]; exact List.mem_map.mpr ⟨_,mb,rfl⟩)
   exact (hM'.ct b D3 (List.mem_append_left _ mb)).mono s2 fun w z=>by rw [zO nb]; exact z
theorem zsj (hb:RSm E EX tb db):RSm E EX (zjr (zsx zn4 (zjJ i)) (zvz i tb)) (zmc true i (.k []) db):=fun h o0 H0 o H δ σ S M En D e0 fr he hs rm q c x p hp =>
 zoO (f:=true) (D0:=.k []) (u:=.k []) (fun G H a z=>⟨[],z,rfl⟩) hb e0 fr he hs rm q c x p hp
def zun (dt:DSm):DS:=fun En δ S=>dt { nx:=fun δ' S' _=>En.nx δ' S',rt:=fun x S' _=>En.rt x S',bk:=fun δ' S' _=>En.bk δ' S',ct:=fun δ' S' _=>En.ct δ' S' } δ S []
theorem zrx {t:TS} {dt:DSm} (ht:RSm E EX t dt):RSx E EX t (zun dt):=fun h o H δ σ S En D he hs q c x=>by
 have z:h ++ ad [] = h:=List.append_nil _
 have nx:∀ {N:XE->Sto->Prop} {Y:St->Hp->Prop},Nx h o H N Y->NxM h o H (ad []) (fun δ' S' _=>N δ' S') Y:=fun {N Y} n o' H' δ' S' M' σ' ex ea he' hs' _ q'=>by
  rw [ea,z] at he' hs'
  exact n o' H' δ' S' σ' ex he' hs' q'
 refine ht h o H o H δ σ S [] _ D Ex.refl (fun a m=>by cases m) (by rw [z]; exact he) (by rw [z]; exact hs) RepM.nil q ⟨nx c.nx,?_,nx c.bk,nx c.ct⟩ x
 rintro o' H' S' M' y v ex ea hs' _ hx' q'
 rw [ea,z] at hs' hx'
 exact c.rt o' H' S' y v ex hs' hx' q'
theorem zsk {t:TS} {dt:DSm} (ht:RSm E0 (fun _ _=>False) t dt):RS t (zun dt):=fun h o H δ σ S En D he hs q c=>zrx ht h o H δ σ S En D he hs q c fun _ _ _ _ _ _ _ _ _ z=>z.elim
end
end
section
def ROp (Φ:Phi) (r:R2) (rd:D2):Prop:=∀ (h o:List Addr) (H:Hp) (S:Sto) (x y:XV) (v u:V) (R:RX) (Q:VK),Φ h o H->RepS h o H S->HasX h o H x v->HasX h o H y u->rd x y S R->Cn h o H R Q->r v u H Q
section
variable {Φ:Phi} [Stb Φ] {ta tb:TE} {da db:DE}
theorem zpR {r:R2} {rd:D2} (hr:ROp Φ r rd) (ha:REp Φ ta da) (hb:REp Φ tb db):REp Φ (tOp r ta tb) (dOp rd da db):=fun h o H δ σ S R Q he hs q c w =>
 ha h o H δ σ S _ _ he hs q (fun o1 H1 S1 x v e1 s1 x1 d1=>hb h o1 H1 δ σ S1 _ _ (he.mono e1) s1 d1 (fun o2 H2 S2 y u e2 s2 y2 d2 =>
  hr h o2 H2 S2 x y v u R Q (Stb.st w (e1.trans e2)) s2 (x1.mono e2) y2 d2 (c.pre (e1.trans e2))) (Stb.st w e1)) w
end
theorem zph {t:TE} {de:DE} (a:REp (PhM []) t de):RE t de:=fun h o H δ σ S R Q he hs q c=>a h o H δ σ S R Q he hs q c ⟨h,(List.append_nil _).symm,RepM.nil⟩
theorem zt1 {t:TT} {de:DT} (a:RTp (PhM []) t de):RT t de:=fun h o H δ σ S R Q he hs q c=>a h o H δ σ S R Q he hs q c ⟨h,(List.append_nil _).symm,RepM.nil⟩
def IsDD (M:DM) (x:XV) (D:DD):Prop:=(∃ a,x = .o (.ref a)/\(a,D) ∈ M)\/∃ m,D = .k m/\x = .d (.dict (DD.pairs (.k m)))
theorem zhK {M:DM} {h o:List Addr} {H:Hp} {x:XV} {D:DD} {v:V} (φ:PhM M h o H) (q:IsDD M x D) (hx:HasX h o H x v):∃ a,v = .ref a/\RAt (vx h o H) H a D:=by
 rcases q with ⟨a,rfl,m⟩ | ⟨m,rfl,rfl⟩
 ·obtain ⟨h0,rfl,rm⟩:=φ
  exact ⟨a,hx,(rm.ct a D m).rd⟩
 ·obtain ⟨a,ob,m',rfl,e,l⟩:=zhr.mp (show Has _ _ v from hx)
  exact ⟨a,rfl,m',.inr ⟨ob,zaj _ _ e⟩,l⟩
def zv1 (n:Bool):R2:=fun y x H Q=>∃ a o,x = .ref a/\DGet H a y o/\Q (.bl (if n = true then !o.isSome else o.isSome)) H
theorem zi3 {X:Cx} (hu:X.A.units + 64 < cLine):OpR X (compareOp .NotIn) (zv1 true):=fun zk s σ H y x v u Q I ry rx ⟨a,o,e,g,q⟩=>by
 subst e
 obtain rfl:u = Value.ref a:=rx
 exact zrR (by omega) I g ry fun s3 I3=>⟨.bl (!o.isSome),H,I3,rfl,q⟩
def zs1 (M:DM) (n:Bool):D2:=fun y x S R=>asD y fun k=>∃ D o,IsDD M x D/\D.get k = some o/\R (.d (.bool (if n = true then !o.isSome else o.isSome))) S
theorem zrW {G:Hp} {o:Option PyData} {r:Option V} (q:RelD G o r):r.isSome = o.isSome:=by
 cases o with
 | none=>rw [show r = none from q]; rfl
 | some d=>obtain ⟨u,rfl,_⟩:=q; rfl
theorem zqS {M:DM} {n:Bool}:ROp (PhM M) (zv1 n) (zs1 M n):=fun h o H S y x v u R Q φ hs hy hx q c=>by
 obtain ⟨k,rfl,D,r,hD,e,q⟩:=zeK q
 obtain ⟨a,rfl,da⟩:=zhK φ hD hx
 obtain ⟨r',g,rr⟩:=da.get zaj hy e
 refine ⟨a,r',rfl,g,?_⟩
 rw [zrW rr]
 exact c o H S _ _ Ex.refl hs (xB _) q
def znJ (M:DM) (dd dy:DE):DE:=fun δ S R=>dd δ S fun x S1=>dy δ S1 fun y S2=>asD y fun k=>∃ D d,IsDD M x D/\D.get k = some (some d)/\R (.d d) S2
theorem zom {M:DM} {td ty:TE} {dd dy:DE} (hd:REp (PhM M) td dd) (hy:REp (PhM M) ty dy):REp (PhM M) (ztH td ty) (znJ M dd dy):=fun h o H δ σ S R Q he hs q c w =>
 hd h o H δ σ S _ _ he hs q (fun o1 H1 S1 x v e1 s1 x1 d1=>hy h o1 H1 δ σ S1 _ _ (he.mono e1) s1 d1 (fun o2 H2 S2 y u e2 s2 y2 d2=>by
  obtain ⟨k,rfl,D,d,hD,e,q⟩:=zeK d2
  obtain ⟨a,rfl,da⟩:=zhK (Stb.st w (e1.trans e2)) hD (x1.mono e2)
  obtain ⟨r',g,r2,rfl,h2⟩:=da.get zaj y2 e
  exact ⟨a,r2,rfl,g,c o2 H2 S2 (.d d) r2 (e1.trans e2) s2 h2 q⟩) (Stb.st w e1)) w
def zhu (M:DM) (dd dy dx:DE):DE:=fun δ S R=>dd δ S fun x S1=>∃ D,IsDD M x D/\dy δ S1 fun y S2=>dx δ S2 fun z S3=>asD y fun k=>asD z fun dz=>∃ o,D.get k = some o/\R (.d (o.getD dz)) S3
theorem zhA {M:DM} {td ty tx:TE} {dd dy dx:DE} (hd:REp (PhM M) td dd) (hy:REp (PhM M) ty dy) (hx:REp (PhM M) tx dx):REp (PhM M) (zqF td ty tx) (zhu M dd dy dx):=fun h o H δ σ S R Q he hs q c w =>
 hd h o H δ σ S _ _ he hs q (fun o1 H1 S1 x v e1 s1 x1 ⟨D,hD,d1⟩=>by
  obtain ⟨a,rfl,da⟩:=zhK (Stb.st w e1) hD x1
  refine ⟨a,rfl,da.isD,hy h o1 H1 δ σ S1 _ _ (he.mono e1) s1 d1 (fun o2 H2 S2 y u e2 s2 y2 d2=>hx h o2 H2 δ σ S2 _ _ ((he.mono e1).mono e2) s2 d2 (fun o3 H3 S3 z t e3 s3 z3 d3=>?_) (Stb.st w (e1.trans e2))) (Stb.st w e1)⟩
  replace d3:=zeK d3
  obtain ⟨k,rfl,d3⟩:=d3
  obtain ⟨dz,rfl,r,e,q⟩:=zeK d3
  obtain ⟨a',ea,da'⟩:=zhK (Stb.st w ((e1.trans e2).trans e3)) hD (x1.mono (e2.trans e3))
  cases ea
  obtain ⟨r',g,rr⟩:=da'.get zaj (y2.mono e3) e
  refine ⟨r',g,?_⟩
  cases r with
  | none =>
   rw [show r' = none from rr]
   exact c o3 H3 S3 (.d dz) t ((e1.trans e2).trans e3) s3 z3 q
  | some d =>
   obtain ⟨r2,rfl,h2⟩:=rr
   exact c o3 H3 S3 (.d d) r2 ((e1.trans e2).trans e3) s3 h2 q) w
def zo8 (j:Nat) (dk dv:DM->DE):DSm:=fun En δ S M=>dv M δ S fun x S1=>asD x fun d=>zn j δ S1 fun y S2=>∃ a,y = .o (.ref a)/\dk M δ S2 fun z S3=>asD z fun k=>∃ D D',(a,D) ∈ M/\D.put k d = some D'/\D.len < 1000/\En.nx δ S3 (zsv M a D')
theorem zue {E:XK} {EX:EXD} {j:Nat} {ty tv:TE} {dk dv:DM->DE} (hk:∀ M,REp (PhM M) ty (dk M)) (hv:∀ M,REp (PhM M) tv (dv M)):RSm E EX (zui (zkn j) ty tv) (zo8 j dk dv):=fun h o0 H0 o H δ σ S M En D e0 fr he hs rm q c x =>
 hv M (h ++ ad M) o H δ σ S _ _ he hs q (fun o1 H1 S1 y v e1 s1 x1 d1=>by
  obtain ⟨d,rfl,y1,ey,a,rfl,d2⟩:=zeK d1
  have he1:=he.mono e1
  obtain ⟨v1,ev,hv1⟩:=he1.get j _ ey
  have ev1:v1 = .ref a:=hv1
  subst ev1
  refine ⟨_,ev,hk M (h ++ ad M) o1 H1 δ σ S1 _ _ he1 s1 d2 (fun o2 H2 S2 z u e2 s2 z2 d3=>?_) ⟨h,rfl,rm.mono e1⟩⟩
  obtain ⟨k,rfl,D1,D2,mD,eD,hl,n⟩:=zeK d3
  have e12:=e1.trans e2
  have rm2:=rm.mono e12
  have ma:a ∈ ad M:=List.mem_map.mpr ⟨_,mD,rfl⟩
  obtain ⟨w,pt,fin⟩:=(rm2.ct a D1 mD).put zaj z2 (x1.mono e2) eD hl
  have mh:a ∈ h ++ ad M:=List.mem_append_right _ ma
  refine ⟨a,_,rfl,pt,c.nx o2 _ δ S2 (zsv M a D2) σ ⟨(e0.trans e12).pre,fun b w' nb zb=>?_⟩ zgG ?_ ?_ (rm2.put mD fin) n⟩
  ·obtain ⟨z1,z3⟩:=(e0.trans e12).kp b w' nb zb
   exact ⟨z1,by rw [zO (fun z=>by rw [z,fr a ma] at zb; cases zb)]; exact z3⟩
  ·rw [zgG]
   exact (he1.mono e2).view (zgn mh)
  ·rw [zgG]
   exact s2.hidden mh) ⟨h,rfl,rm⟩
theorem zsd {t t':TS} {d:DS} (h:RS t d) (e:t' = t:=by rfl):RS t' d:=e ▸ h
end
end L2
namespace L2
open PySem PySem.Spec PySem.Calls PyProof.Rows
theorem zvv {P:Program} {w:World} {k:Key} {u:Value} (h:(zak P w).is k u = true):RelV (kV k) u:=by
 have h':zjt k u = true:=h
 cases k with
 | inl i =>
  have q:Value.isInt i u = true:=h'
  cases u <;> simp [Value.isInt] at q
  rename_i j t
  subst q
  exact ⟨t,rfl⟩
 | inr x =>
  have q:Value.isStrOf x u = true:=h'
  cases u <;> simp [Value.isStrOf] at q
  rename_i j t
  subst q
  exact ⟨t,rfl⟩
theorem zmm {P:Program} {w:World} {H:Hp} {h:Heap} {a:Addr} {ob:Obj} {m:List (Key × V)} (ok:HOk P w H h) (e:H a = some (.frz ob (.dK m))):(a == sysModules) = false/\m.length <= sizeLine/\∃ es ep vs,ob.data = .dict es ep/\KV m vs/\h.DictAt (zak P w) a vs ep:=by
 obtain ⟨e1,hz,hne,vs,kv,o,es,ep,ho,r1,r2,r3⟩:=(show ObjOk P w H h a (.frz ob (.dK m)) from ok a _ e)
 rw [e1] at ho
 cases ho
 exact ⟨hne,hz,es,ep,vs,r2,kv,_,es,e1,r1,r2,r3⟩
theorem KV.get {kvs:List (Key × V)} {vs:List (Key × Value)} (r:KV kvs vs):∀ {i:Nat} {p:Key × V},kvs[i]? = some p->∃ u,vs[i]? = some (p.1,u)/\RelV p.2 u:=by
 unfold KV at r
 induction r with
 | nil=>intro i p e; simp at e
 | @cons p q ps qs h t ih =>
  intro i x e
  cases i with
  | zero =>
   simp at e
   subst e
   exact ⟨q.2,by simp [h.1],h.2⟩
  | succ i =>
   obtain ⟨u,e1,e2⟩:=ih (i:=i) (p:=x) (by simpa using e)
   exact ⟨u,by simpa using e1,e2⟩
def Iti (a:Addr) (ob:Obj) (m:List (Key × V)):It:=⟨fun i H=>i < m.length/\H a = some (.frz ob (.dK m)),fun i H x H'=>∃ p b,m[i]? = some p/\H b = none/\x = .ref b/\H' = upd H b (.tup [kV p.1,p.2]),fun i H=>m.length <= i/\H a = some (.frz ob (.dK m))⟩
def tnI (it a:Addr) (ob:Obj) (n:Nat) (i:Nat) (h:Heap):Prop:=∃ es ep ok ov,ob.data = .dict es ep/\IsItemIter h it a i n ep ok ov
theorem zgZ:entryFor table "dict_itemiterator.__iter__" = some Builtin.«dict_keyiterator.__iter__» :=
 entryFor_alias (id':="dict_keyiterator.__iter__") (by kernel_rfl) rfl (by decide +kernel) (by kernel_rfl)
theorem zgL {prog:Program} {w:World} {A:Around} {E:Value->Shared->Prop} {s:Shared} {it d:Addr} {i n ep:Nat} {ok ov:Value} {Q:Value->Shared->Prop} (hit:IsItemIter s.heap it d i n ep ok ov) (h:Q (.ref it) s):wpAny (model prog w) A (pyIter (.ref it)) Q E s:=by
 have hT:s.TypeIs (.ref it) "dict_itemiterator":=⟨_,hit,rfl⟩
 refine wpAny_pyIter_slot hT F.slot_dict_itemiterator_iter (wpAny_call_entry F.slot_dict_itemiterator_iter hT zgZ ?_ (F.args_dict_itemiterator_iter_1 _))
 show wpAny _ _ (ret (.ref it)) _ _ s
 exact wpAny_pure ⟨_,rfl,"dict_itemiterator",_,hT,F.slot_dict_itemiterator_next.lookup,h⟩
theorem zlz {P:Program} {w:World} {K:W.Frag} {elts:List Expr} {n:Nat} {tpos:Pos} (a it:Addr) (ob:Obj) (m:List (Key × V)):Turn P w K (.Tuple elts n tpos) (Iti a ob m) [it] it (tnI it a ob m.length) where
 mem:=by simp
 obj:=fun i h ⟨_,_,_,_,_,st⟩ b hb=>by
  have e:b = it:=by simpa using hb
  subst e
  exact ⟨_,st,fun v z=>by cases z⟩
 keep:=fun i h h' ⟨es,ep,ok,ov,eo,st⟩ k=>⟨es,ep,ok,ov,eo,k it (by simp) _ st⟩
 item:=by
  intro X hP hw hK hc i zk s σ H E I hf st hg
  subst hP hw hK
  obtain ⟨es,ep,ok,ov,eo,st⟩:=st
  obtain ⟨hi,ea⟩:=hg
  obtain ⟨hne,hz,es',ep',vs,eo',kv,da⟩:=zmm I.hok ea
  rw [eo] at eo'
  cases eo'
  obtain ⟨u,eu,ru⟩:=kv.get (List.getElem?_eq_getElem hi)
  have hl:vs.length = m.length:=kv.length.symm
  refine wpAny_pyNext_items_item (knd:=zak X.prog X.w) (kvs:=vs) (by rw [hl]; exact st) da eu fun key h' hk st' t1 sz kp=>?_
  refine ⟨_,rfl,wpAny_letOwnedTupleGo_items (s:={ s with heap:=h' }) st' fun g' e2 b2=>?_⟩
  have lt:it < s.heap.objs.size:=Heap.lt_size st
  have t2:g'.get? s.heap.objs.size = some { cls:=.type "tuple",data:=.seq #[key,u] }:=(b2.2 _ (Nat.ne_of_gt lt)).trans t1
  have neT:H s.heap.objs.size = none:=I.hok.fresh (Nat.le_refl _)
  rw [hl] at e2
  refine ⟨.ref s.heap.objs.size,upd H s.heap.objs.size (.tup [kV m[i].1,m[i].2]),I.turnLaid (ch:=[it]) (t':=s.toks) (fun b o nb q=>(b2.2 b fun z=>nb (by simp [z])).trans (kp b o (fun z=>nb (by simp [z])) q)) hf (Nat.le_refl _) ?_,rfl,
   ⟨m[i],_,List.getElem?_eq_getElem hi,neT,rfl,rfl⟩,⟨es,ep,_,_,eo,e2⟩,fun b hb=>?_⟩
  ·refine ⟨⟨by show 2 <= sizeLine; decide,_,t2,rfl⟩,[key,u],.cons (zvv hk) (.cons ru .nil),⟨_,t2,rfl,_,rfl⟩⟩
  ·rw [List.mem_singleton.mp hb,zO (Nat.ne_of_lt lt)]
   exact (hf _ (by simp)).1
 done:=by
  intro X hP hw hK hc i zk s σ H E I hf st hg
  subst hP hw hK
  obtain ⟨es,ep,ok,ov,eo,st⟩:=st
  obtain ⟨hi,ea⟩:=hg
  obtain ⟨hne,hz,es',ep',vs,eo',kv,da⟩:=zmm I.hok ea
  rw [eo] at eo'
  cases eo'
  have hl:vs.length = m.length:=kv.length.symm
  obtain ⟨f0,f1,f2,f3,f4,f5⟩:=hf it (by simp)
  exact wpAny_pyNext_items_end (knd:=zak X.prog X.w) (kvs:=vs) (I.ok.hd hc) (by rw [hl]; exact st) da (List.getElem?_eq_none (by omega)) fun h' eb=>⟨rfl,I.turned (t':=s.toks) (fun b o hb e=>eb b o hb e) f0 f1 f3 f4 f5⟩
 self:=fun _ _ _ _ _ ⟨_,_,_,_,_,st⟩ h=>zgL st h
section
variable {X:Cx} {elts:List Expr} {n:Nat} {tpos apos cpos:Pos}
def zqh (te:TE):TI:=fun σ H R=>te σ H fun x H1=>∃ a ob m,x = .ref a/\H1 a = some (.frz ob (.dK m))/\R (Iti a ob m) H1
theorem zh8 {l:Expr} {te:TE} (hl:PE X l te) (hbase:attributeBase l "items" X.env (eval l X.env) = eval l X.env) (hline:(apos.endLine == cpos.line) = true):PI X (.Tuple elts n tpos) (.Call (.Attribute l "items" apos) [] [] cpos) (zqh te):=by
 intro zk s σ H R I h
 refine wpAny_Call_method (T:="dict") (id:="dict.items") hbase rfl hline F.plainAttrs_dict F.slot_dict_items F.type_dict_items (thn (hl zk s σ H _ I h) fun v s1 ⟨x,H1,I1,r1,q1⟩=>?_)
 obtain ⟨a,ob,m,e,ea,q⟩:=q1
 subst e
 cases r1
 obtain ⟨hne,hz,es,ep,vs,eo,kv,da⟩:=zmm I1.hok ea
 have hl':vs.length = m.length:=kv.length.symm
 have hm:=da.dictOf
 refine ⟨hm.typeIs,hm.mapOf.noDict,?_⟩
 show wpAny _ _ (callWith cpos (.builtin "dict.items") [.ref a] [] []) _ _ s1
 refine method_meetsIn F.slot_dict_items F.entry_dict_items rfl (PyProof.Rows.evalArgs_none ⟨rfl,hm.typeIs,F.args_dict_items_1 _,_,meets_dict_items (zak X.prog X.w) a hne,⟨vs,hm⟩,?_⟩)
 have da1:=da.push { cls:=.type "dict_items",data:=.fields #[.ref a] }
 refine wpAny_pyIter_items (s:={ s1 with heap:=s1.heap.push { cls:=.type "dict_items",data:=.fields #[.ref a] } }) (knd:=zak X.prog X.w) ⟨_,Heap.get?_push_size _ rfl,rfl,rfl⟩ da1 ?_
 have I2:Inv X zk σ H1 { s1 with heap:=s1.heap.push { cls:=.type "dict_items",data:=.fields #[.ref a] } }:=I1.kept (t':=s1.toks) fun b o e=>Heap.get?_push_of_some _ e
 refine ⟨_,[_],_,_,H1,rfl,I2.kept (t':=s1.toks) fun b o e=>Heap.get?_push_of_some _ e,zlz a _ ob m,⟨es,ep,_,_,eo,by rw [<- hl']; exact Heap.get?_push_size _ rfl⟩,fun b hb=>?_,q⟩
 rw [List.mem_singleton.mp hb]
 exact I2.fpOk (Nat.le_refl _) (I2.hok.fresh (Nat.le_refl _))
end
def DD.keysD (m:List (Key × PyData)):List PyData:=m.map fun p=>kD p.1
def DD.itemsD (m:List (Key × PyData)):List PyData:=m.map fun p=>.tuple [kD p.1,p.2]
def zpU (e:DE):DI:=fun δ S R=>e δ S fun x S1=>∃ m,x = .d (.dict (DD.pairs (.k m)))/\R (DD.keysD m) S1
def ze3 (e:DE):DI:=fun δ S R=>e δ S fun x S1=>∃ m,x = .d (.dict (DD.pairs (.k m)))/\R (DD.itemsD m) S1
theorem zsQ {H:Hp} {k:Key}:Has H (kD k) (kV k):=by
 cases k with
 | inl i=>exact zcp.mpr rfl
 | inr x=>exact zdw.mpr rfl
theorem HasM.get {H:Hp}:∀ {m:List (Key × PyData)} {m':List (Key × V)} {i:Nat} {p:Key × PyData},HasM H m m'->m[i]? = some p->∃ v,m'[i]? = some (p.1,v)/\Has H p.2 v
 | [],_,_,_,_,e=>by simp at e
 | q :: r,_,0,p,⟨v,t,e1,hv,l⟩,e=>by
  simp at e
  subst e e1
  exact ⟨v,rfl,hv⟩
 | q :: r,_,i + 1,p,⟨v,t,e1,hv,l⟩,e=>by
  subst e1
  obtain ⟨u,z1,z2⟩:=HasM.get (i:=i) l (by simpa using e)
  exact ⟨u,by simpa using z1,z2⟩
theorem zhO {te:TE} {de:DE} (he':RE te de):RI (zqh te) (ze3 de):=fun h o H δ σ S R Q he hs q c =>
 he' h o H δ σ S _ _ he hs q fun o1 H1 S1 x v e1 s1 x1 ⟨m,ex,d1⟩=>by
  subst ex
  obtain ⟨a,ob,m',rfl,ea,l⟩:=zhr.mp (show Has _ _ v from x1)
  have hl:=l.length
  refine ⟨a,ob,m',rfl,zaj _ _ ea,c o1 H1 S1 _ _ e1 s1 ⟨fun i o2 H2 e2 hi=>⟨by simp [DD.itemsD] at hi; omega,zaj _ _ (e2.vx _ _ ea)⟩,fun i d o2 H2 e2 hi=>?_,fun i d o2 H2 y H3 S2 e2 s2 hi yy=>?_⟩ d1⟩
  ·have:=(List.getElem?_eq_some_iff.mp hi).1
   simp [DD.itemsD] at this
   exact ⟨by omega,zaj _ _ (e2.vx _ _ ea)⟩
  ·obtain ⟨p,b,ep,nb,ey,e3⟩:=yy
   subst e3 ey
   unfold DD.itemsD at hi
   rw [List.getElem?_map] at hi
   obtain ⟨p2,e4,e5⟩:=Option.map_eq_some_iff.mp hi
   obtain ⟨u,z1,z2⟩:=l.get e4
   rw [ep] at z1
   cases z1
   have sm:Same H2 (upd H2 b (.tup [kV p2.1,u])):=Same.laid nb
   have fb:=s2.fresh nb
   refine ⟨sm,?_⟩
   rw [<- e5]
   refine za7.mpr ⟨b,_,rfl,zae.mpr ⟨fb.1,fb.2,zN⟩,zI.mpr ⟨_,_,rfl,zsQ,zI.mpr ⟨_,_,rfl,?_,zV.mpr rfl⟩⟩⟩
   exact Has.mono (zc8 sm) _ _ (Has.mono e2.vx _ _ z2)
end L2
namespace L2
open PySem PySem.Spec PyProof.Rows
section
def knA (j:Nat):DEnds->XE->RX:=fun En δ x S2=>En.nx (δ.set j (some x)) S2
def knR:DEnds->XE->RX:=fun En _ x S2=>En.rt x S2
def zud (kn:DEnds->XE->RX) (m:Nat) (q:PX) (da:DA) (i:Nat) (hd:DS):DS:=fun En δ S=>da δ S fun xs S1=>∃ ds,datas xs = some ds/\ds.length = m /\
 q (ds.map XV.d) [] (ret0 S1 (kn En δ)) fun C fs=>C ∈ excs/\hd { nx:=fun δ' S'=>En.nx (δ'.set i none) S',rt:=En.rt } (δ.set i (some (.x C fs))) S1
def zuG (kn:DEnds->XE->RX) (m:Nat) (q:PX) (da:DA) (i:Nat) (hd:DS):DS:=fun En δ S=>da δ S fun xs S1=>∃ ds,views S1 xs = some ds/\ds.length = m /\
 q (ds.map XV.d) [] (zvy S1 (kn En δ)) fun C fs=>C ∈ excs/\(∀ f d,fs.lookup f = some d->zo6 d = true)/\hd { nx:=fun δ' S'=>En.nx (δ'.set i none) S',rt:=En.rt } (δ.set i (some (.x C fs))) S1
end
section
def zwv (x:Str):List PyData:=x.cps.toList.map fun c=>.str ⟨#[c]⟩
def zt0 (e:DE):DI:=fun δ S R=>e δ S fun y S1=>asS y fun x=>R (zwv x) S1
end
section
mutual
def dkE:PyData->Bool
 | .list ds=>zsN ds
 | .tuple ds=>zsN ds
 | .dict kvs=>kvs.isEmpty
 | _=>true
def zsN:List PyData->Bool
 | []=>true
 | d :: ds=>dkE d && zsN ds
end
def zv3:D2:=fun x y S R=>zo1 x y S R\/∃ ds,zb9 S x = some (.list ds)/\zb9 S y = some (.list ds)/\zsN ds = true/\PyData.depthAll ds <= 60/\R (.d (.bool false)) S
def zvV:D2:=fun x y S R=>zid x y S R\/∃ ds,zb9 S x = some (.list ds)/\zb9 S y = some (.list ds)/\zsN ds = true/\PyData.depthAll ds <= 60/\R (.d (.bool true)) S
end
section
section
variable {E:XK} {EX:EXD} {a b c d e f u:TS} {dt du:DS} {i:Nat}
theorem zrr (h:RS (zjr a b) dt) (hu:RS u du):RS (zjr a (zjr b u)) (zW dt du):=zsd (zt h hu)
end
end
section
def zqZ (i:Nat) (F:Addr) (m:Nat) (q:PN) (da:DA):DE:=fun δ S R=>δ[i]? = some (some (.o (.ref F)))/\zaf m q da δ S R
def XV.flat:XV->Bool
 | .d _=>true
 | .o _=>true
 | _=>false
def zmJ (EX:EXD) (m:Nat) (q:PX) (da:DA):DE:=fun δ S R=>da δ S fun xs S1=>xs.all XV.flat = true/\xs.length = m/\q xs [] (ret0 S1 R) EX
def zsF (d:Addr->DE):DE:=fun δ S R=>∀ F,d F δ S R
end
end L2
namespace HT
open PySem PyProof.Rows
end HT
namespace L2
open PySem PySem.Spec PyProof.Rows
section
section
variable {X:Cx}
def zwt (n:Int) (ns:List Int) (m:Int) (ms:List Int):Bool:=if n = m then HT.lexLt ns ms else decide (n < m)
def zs9:D2:=fun x y S R=>asT x fun ds=>asT y fun es=>∃ n ns m ms,ds = [.int n,.list (ns.map PyData.int)]/\es = [.int m,.list (ms.map PyData.int)]/\R (.d (.bool (zwt n ns m ms))) S
end
end
end L2
namespace L2
open PySem PySem.Spec PySem.Calls PyProof.Rows
def zuB:List XV->Sto->RX->Prop:=fun xs S R=>arg1 xs fun x=>∃ m,x = .d (.dict (DD.pairs (.k m)))/\R (.d (.list (m.map fun p=>kD p.1))) S
end L2
namespace HT
open PySem PyProof.Rows
theorem zm0:typeLookup (.type "tuple") "keys" = pure none:=am_miss_of_fast (by decide +kernel)
set_option maxRecDepth 8000 in
theorem zo3 {prog:Program} {w:World} {A:Around} {E:Value->Shared->Prop} {s:Shared} {a:Addr} {o:Obj} {xs:Array Value} {k:Nat} {Q:Option Value->Shared->Prop}
  (hx:s.heap.get? a = some o) (hc:o.cls = .type "tuple") (hdat:o.data = .seq xs k) (hd:o.dict = none) (hA:A.handled = none)
  (h:∀ h' tk,(∀ b ob,s.heap.get? b = some ob->h'.get? b = some ob)->Q none { s with heap:=h',toks:=tk }) :
  wpAny (model prog w) A (getAttr? (.ref a) "keys") Q E s:=by
 obtain ⟨c,dct,dat,sl⟩:=o
 simp only at hc hdat hd
 subst hc hdat hd
 obtain ⟨hp,g,d,tk,os⟩:=s
 have hT:∀ tk',(⟨hp,g,d,tk',os⟩:Shared).TypeIs (.ref a) "tuple":=fun _=>⟨_,hx,rfl⟩
 have f1:=sub_AttributeError
 have f3:=F.slot_tuple_getattribute.lookup
 have f4:=F.slot_tuple_getattribute.bind (.ref a)
 have f5:=am_tuple_getattr_none
 have hname:(["__module__","__name__","__qualname__","__doc__","__annotations__"]:List Str).contains ("keys":Str) = false:=by decide +kernel
 unfold getAttr? getAttrBy? getAttrBy
 repeat (any_goals (first | assumption | exact hT _ | ((with_reducible show wpAny _ _ (call (Value.builtin "tuple.__getattribute__") _ _) _ _ _); refine call_meets F.slot_tuple_getattribute (hT _) am_entry_tuple_getattribute (F.args_tuple_getattribute_2 _ _) (meets_getattribute_miss_tuple a xs k sl "keys" _ zm0 hname) ⟨hx,hA,fun h' tk' e hx'=>?_⟩) | wp_step))
 obtain ⟨t',u',he⟩:=hx'.there
 show wpAny _ _ (getattributeRaised _ _ _ _ _ _ _) _ _ _
 unfold getattributeRaised
 repeat (any_goals (first | assumption | wp_step))
 exact h _ _ hx'.keeps
theorem zji:entryFor table "dict.update.loop" = some Builtin.«dict.update.loop»:=entryFor_of_tree (by kernel_rfl)
theorem zdP:plainId "dict.update.loop" = true:=by decide +kernel
section
variable {prog:Program} {w:World} {K:Type} [DecidableEq K] {knd:PySem.KeyKind prog w K}
def zgw (acc kvs:List (K × Value)):List (K × Value):=kvs.foldl (fun a p=>stored a p.1 p.2) acc
def PairsAt (knd:PySem.KeyKind prog w K) (ap:List Addr) (h:Heap) (vs:List Value) (kvs:List (K × Value)):Prop:=Paired (fun v kv=>∃ b key,v = Value.ref b/\b ∉ ap/\knd.is kv.1 key = true/\IsTup h b #[key,kv.2]) vs kvs
theorem PairsAt.keeps {ap:List Addr} {h h':Heap} {vs:List Value} {kvs:List (K × Value)} (r:PairsAt knd ap h vs kvs) (k:∀ b o,b ∉ ap->h.get? b = some o->h'.get? b = some o):PairsAt knd ap h' vs kvs:=by
 unfold PairsAt at *
 induction r with
 | nil=>exact .nil
 | cons x t ih =>
  obtain ⟨b,key,e,nb,hk,o,g,c⟩:=x
  exact .cons ⟨b,key,e,nb,hk,o,k b o nb g,c⟩ ih
theorem zly (kvs:List (K × Value)) (k:K) (v:Value):(stored kvs k v).length <= kvs.length + 1:=by
 unfold stored
 split <;> simp
theorem zd8 {A:Around} {R:Result->Shared->Prop} {I S:Addr} {fp wr:List Addr} {n:Nat} {P:Nat->Value->Prop} {St:Nat->Heap->Prop} {items:List Value} (W:Walks prog w A.in1 I fp wr n P St) (hSf:S ∉ fp) (hP:∀ i v,P i v->items[i]? = some v) :
  ∀ (kvs:List (K × Value)) (i:Nat) (s:Shared) (acc:List (K × Value)),kvs.length + i = n->St i s.heap->s.heap.DictOf knd S acc->PairsAt knd (S :: wr) s.heap (items.drop i) kvs->acc.length + kvs.length <= 1000 ->
   (∀ h' tk,h'.DictOf knd S (zgw acc kvs)->(∀ b o,b ∉ S :: wr->s.heap.get? b = some o->h'.get? b = some o)->R (.ok (.ret .none)) { s with heap:=h',toks:=tk }) ->
   codeAny (model prog w) A (.builtin "dict.update.loop" ⟨[.ref S,.ref I,rawInt i,.none],[]⟩) R s:=by
 have hSw:S ∉ wr:=fun h=>hSf (W.sub _ h)
 intro kvs
 induction kvs with
 | nil =>
  intro i s acc hn hst hS hp hl hR
  have hi:i = n:=by simpa using hn
  subst hi
  refine codeAny_builtin zji ?_
  rw [Around.under_plainId zdP _]
  show wpAny _ A.in1 (pyNext (.ref I) >>= _) _ _ s
  refine wpAny_bind (W.done s _ _ hst fun h' tk hm=>?_)
  show wpAny _ A.in1 (Builtin.Dict.addKeywords S [] >>= _) _ _ _
  refine wpAny_bind (wpAny_pure (wpAny_pure (hR h' tk ?_ fun b o nb e=>hm b o (fun z=>nb (List.mem_cons_of_mem _ z)) e)))
  obtain ⟨o,es,ep,ho,r⟩:=hS
  exact ⟨o,es,ep,hm S _ hSw ho,r⟩
 | cons kv kvs ih =>
  intro i s acc hn hst hS hp hl hR
  have hlt:i < n:=by rw [List.length_cons] at hn; omega
  refine codeAny_builtin zji ?_
  rw [Around.under_plainId zdP _]
  show wpAny _ A.in1 (pyNext (.ref I) >>= _) _ _ s
  refine wpAny_bind (W.item i s _ _ hlt hst fun v h' tk hPv hst' hm=>?_)
  have ev:=hP i v hPv
  have ed:items.drop i = v :: items.drop (i + 1):=by
   obtain ⟨hl',rfl⟩:=List.getElem?_eq_some_iff.mp ev
   exact List.drop_eq_getElem_cons hl'
  rw [ed] at hp
  have hp':=hp.keeps (h':=h') fun b o nb e=>hm b o (fun z=>nb (List.mem_cons_of_mem _ z)) e
  unfold PairsAt at hp'
  cases hp' with
  | cons x t =>
   obtain ⟨b,key,rfl,nb,hk,⟨cls,dd,data,sl⟩,ho,hc,m,hd⟩:=x
   simp only at hc hd
   subst hc hd
   have hS':h'.DictOf knd S acc:=by
    obtain ⟨o,es,ep,ho,r⟩:=hS
    exact ⟨o,es,ep,hm S _ hSw ho,r⟩
   have hT:({ s with heap:=h',toks:=tk }:Shared).TypeIs (.ref b) "tuple":=⟨_,ho,rfl⟩
   dsimp only
   refine wpAny_bind (wpAny_holding (wpAny_bind (wpAny_tryCatch ?_)))
   unfold Builtin.Dict.pairItems
   refine wpAny_bind (wpAny_typeOf hT ?_)
   rw [if_pos (by decide)]
   have hz:acc.length <= sizeLine:=by rw [List.length_cons] at hl; rw [sizeLine_eq]; omega
   have hset:∀ (Q:Unit->Shared->Prop) (E:Value->Shared->Prop),(∀ h2,h2.DictOf knd S (stored acc kv.1 kv.2)->Heap.SameBut S h' h2->Q () { s with heap:=h2,toks:=tk + 1 })->wpAny (model prog w) A.in1 (dictSet S key kv.2) Q E { s with heap:=h',toks:=tk } :=
    fun Q E hQ=>wpAny_dictSet_pairs (s:={ s with heap:=h',toks:=tk }) hk hS' hQ hz
   wp_walk using PySem.AutoSeq1.wpAny_loadPart' ho,hset
   intro h2 hD hs2
   wp_walk
   have hc:((i:Int) + 1) = ((i + 1:Nat):Int):=by push_cast; rfl
   rw [hc]
   have nS:∀ {c:Addr},c ∈ fp->c ≠ S:=fun m z=>hSf (z ▸ m)
   refine ⟨plainId_quiet zdP _,ih (i + 1) _ (stored acc kv.1 kv.2) (by rw [List.length_cons] at hn; omega) (W.frame _ _ _ hst' fun c m o e=>?_) hD (PairsAt.keeps t fun c o nc e=>?_) ?_ fun h3 tk3 hD3 k3=>hR h3 tk3 hD3 fun c o nc e=>k3 c o nc ?_⟩
   ·rw [hs2.2 c (nS m)]; exact e
   ·rw [hs2.2 c (fun z=>nc (by rw [z]; exact List.mem_cons_self))]; exact e
   ·have:=zly acc kv.1 kv.2
    rw [List.length_cons] at hl
    omega
   ·show h2.get? c = some o
    rw [hs2.2 c (fun z=>nc (by rw [z]; exact List.mem_cons_self))]
    exact hm c o (fun z=>nc (List.mem_cons_of_mem _ z)) e
theorem call_dictP {A:Around} {E:Value->Shared->Prop} {s:Shared} {p:Addr} {op:Obj} {items:Array Value} {nn:Nat} {kvs:List (K × Value)} {Q:Value->Shared->Prop} (hp:s.heap.get? p = some op) (hc:op.cls = .type "tuple") (hdat:op.data = .seq items nn) (hd:op.dict = none)
  (hh:A.handled = none) (hpr:∀ ap:List Addr,(∀ a ∈ ap,s.heap.objs.size <= a)->PairsAt knd ap s.heap items.toList kvs) (hk:kvs.length = items.size) (hl:kvs.length <= 1000)
  (h:∀ h' tk,h'.DictOf knd s.heap.objs.size (zgw [] kvs)->(∀ b o,s.heap.get? b = some o->h'.get? b = some o)->Q (.ref s.heap.objs.size) { s with heap:=h',toks:=tk }) :
  wpAny (model prog w) A (call (.type "dict") [.ref p]) Q E s:=by
 refine callType_codes (Q₁:=fun obj s₁=>obj = .ref s.heap.objs.size/\s₁ = { s with heap:=s.heap.push { cls:=.type "dict",data:=.dict #[] } }) PySem.F.kt_called_dict (PySem.F.kt_typeCall_dict_1 _) PySem.F.entry_dict_init (kt_code_dict_new _ ⟨rfl,rfl⟩) ?_
 rintro obj s₁ ⟨rfl,rfl⟩
 have hnew:(s.heap.push { cls:=.type "dict",data:=.dict #[] }).DictOf knd s.heap.objs.size []:=Heap.DictOf.new s.heap
 have hp1:(s.heap.push { cls:=.type "dict",data:=.dict #[] }).get? p = some op:=Heap.get?_push_of_some _ hp
 have hT:({ s with heap:=s.heap.push { cls:=.type "dict",data:=.dict #[] } }:Shared).TypeIs (.ref p) "tuple":=⟨_,hp1,hc⟩
 have plt:=Heap.lt_size hp
 refine ⟨hnew.typeIs,PySem.F.args_dict_init_2 _ _,?_⟩
 unfold Builtin.«dict.__init__»
 refine wpAny_bind ?_
 unfold Builtin.Dict.selfAndRest
 refine wpAny_bind (wpAny_notOrdered_dict hnew.typeIs ?_)
 show wpAny _ _ (pure (s.heap.objs.size,[Value.ref p])) _ _ _
 refine wpAny_pure ?_
 show wpAny _ _ (Builtin.Dict.updateFrom "dict.__init__" s.heap.objs.size (.ref p) [] .none) _ _ _
 unfold Builtin.Dict.updateFrom
 refine wpAny_bind (wpAny_typeOf hT ?_)
 rw [if_pos (by decide)]
 refine wpAny_bind (zo3 (A:=A.in1.in1) hp1 hc hdat hd hh fun h2 tk2 k2=>?_)
 rw [if_pos (show (none:Option Value).isNone = true from rfl)]
 refine wpAny_bind (wpAny_rule ?_)
 have hp2:=k2 _ _ hp1
 have ht2:h2.IsTuple p items:=⟨_,hp2,hc,nn,hdat⟩
 refine wpAny_bind (wpAny_pyIter_tuple (s:={ s with heap:=h2,toks:=tk2 }) ht2 ?_)
 have g0:∃ o,h2.get? s.heap.objs.size = some o:=by
  obtain ⟨o,es,ep,ho,r⟩:=id hnew
  exact ⟨o,k2 _ _ ho⟩
 obtain ⟨o0,g0⟩:=g0
 have lt2:s.heap.objs.size < h2.objs.size:=Heap.lt_size g0
 have plt2:p < h2.objs.size:=Heap.lt_size hp2
 have hS:(h2.push { cls:=.type "tuple_iterator",data:=.fields #[.ref p,.int 0 0] }).DictOf knd s.heap.objs.size []:=by
  obtain ⟨o,es,ep,ho,r⟩:=hnew
  exact ⟨o,es,ep,Heap.get?_push_of_some _ (k2 _ _ ho),r⟩
 refine wpAny_pure ⟨plainId_quiet zdP _,?_⟩
 refine zd8 (knd:=knd) (A:=A.in1) (items:=items.toList) (Walks.tuple (A:=A.in1.in1) hh h2.objs.size p (Nat.ne_of_lt plt2) items) ?_ ?_ kvs 0 _ [] ?_ ?_ hS ?_ ?_ ?_
 ·simp only [List.mem_cons,List.not_mem_nil,or_false,not_or]
  exact ⟨Nat.ne_of_lt lt2,Nat.ne_of_gt plt⟩
 ·intro i v e
  rw [Array.getElem?_toList]
  exact e
 ·omega
 ·exact ⟨⟨_,Heap.get?_push_size _ rfl,rfl,rfl⟩,ht2.at fun o e=>Heap.get?_push_of_some _ e⟩
 ·rw [List.drop_zero]
  refine PairsAt.keeps (hpr _ fun a m=>?_) fun b o nb e=>Heap.get?_push_of_some _ (k2 _ _ (Heap.get?_push_of_some _ e))
  simp only [List.mem_cons,List.not_mem_nil,or_false] at m
  rcases m with rfl | rfl
  ·exact Nat.le_refl _
  ·exact Nat.le_of_lt lt2
 ·simpa using hl
 ·intro h3 tk3 hD k3
  refine ⟨rfl,h h3 tk3 hD fun b o e=>k3 b o (fun m=>?_) (Heap.get?_push_of_some _ (k2 _ _ (Heap.get?_push_of_some _ e)))⟩
  have:=Heap.lt_size e
  simp only [List.mem_cons,List.not_mem_nil,or_false] at m
  rcases m with z | z
  ·rw [z] at this
   exact absurd this (Nat.lt_irrefl _)
  ·rw [z] at this
   exact absurd (Nat.lt_trans this lt2) (Nat.lt_irrefl _)
end
end HT
namespace L2
open PySem PySem.Spec PySem.Calls PyProof.Rows
def zfq (kvs:List (Key × V)):List (Key × V):=kvs.foldl (fun a p=>zfg a p.1 p.2) []
def PrV (H:Hp):List V->List (Key × V)->Prop:=Paired fun v kv=>∃ b,v = .ref b/\H b = some (.tup [kV kv.1,kv.2])
def zqO:List V->Hp->VK->Prop:=fun xs H Q=>∃ p ws kvs,xs = [.ref p]/\H p = some (.tup ws)/\PrV H ws kvs/\kvs.length <= 1000/\∀ l,H l = none->Q (.ref l) (upd H l (.dK (zfq kvs)))
theorem zpt (a:List (Key × V)) (k:Key) (v:V):(zfg a k v).length <= a.length + 1:=by
 unfold zfg
 split <;> simp
theorem ze5:∀ (kvs acc:List (Key × V)),(kvs.foldl (fun a p=>zfg a p.1 p.2) acc).length <= acc.length + kvs.length
 | [],acc=>by simp
 | p :: r,acc=>by
  rw [List.foldl_cons,List.length_cons]
  have h1:=ze5 r (zfg acc p.1 p.2)
  have h2:=zpt acc p.1 p.2
  omega
theorem znY {kvs:List (Key × V)} {vs:List (Key × Value)} (r:KV kvs vs):∀ {acc:List (Key × V)} {acc':List (Key × Value)},KV acc acc'->KV (kvs.foldl (fun a p=>zfg a p.1 p.2) acc) (vs.foldl (fun a p=>stored a p.1 p.2) acc'):=by
 unfold KV at r
 induction r with
 | nil=>intro acc acc' h; exact h
 | @cons p q ps qs h t ih =>
  intro acc acc' ha
  rw [List.foldl_cons,List.foldl_cons]
  refine ih ?_
  rw [<- h.1]
  exact ha.put p.1 h.2
section
variable {X:Cx}
theorem zkt {zk:List (Addr × Obj)} {σ:St} {H:Hp} {s:Shared} (I:Inv X zk σ H s):∀ {ws:List V} {kvs:List (Key × V)} {its:List Value},PrV H ws kvs->Vals ws its ->
  ∃ kvs':List (Key × Value),KV kvs kvs'/\∀ ap:List Addr,(∀ a ∈ ap,s.heap.objs.size <= a)->HT.PairsAt (zak X.prog X.w) ap s.heap its kvs':=by
 intro ws kvs its pr
 unfold PrV at pr
 induction pr generalizing its with
 | nil =>
  intro rv
  cases rv
  exact ⟨[],.nil,fun _ _=>.nil⟩
 | @cons v kv ws kvs h t ih =>
  intro rv
  cases rv with
  | cons r rv =>
   obtain ⟨b,rfl,hb⟩:=h
   cases r
   obtain ⟨kvs',hk,hp⟩:=ih rv
   obtain ⟨_,is,r2,o,g,c,n,e⟩:=(show ObjOk X.prog X.w H s.heap b (.tup [kV kv.1,kv.2]) from I.hok b _ hb)
   cases r2 with
   | cons ra r2=>cases r2 with
    | @cons _ u2 _ _ rb r2 =>
     cases r2
     refine ⟨(kv.1,u2) :: kvs',.cons ⟨rfl,rb⟩ hk,fun ap ha=>.cons ⟨b,_,rfl,fun m=>?_,zjF ra,o,g,c,n,e⟩ (hp ap ha)⟩
     exact absurd (Nat.lt_of_lt_of_le (Heap.lt_size g) (ha b m)) (Nat.lt_irrefl _)
theorem zbC (hc:X.calm = true):CallR X (.type "dict") zqO:=by
 intro zk s σ H xs us Q I r h
 obtain ⟨p,ws,kvs,rfl,hp,pr,hl,q⟩:=h
 obtain ⟨u,rfl,rx⟩:=vals1 r
 cases rx
 obtain ⟨⟨hz,o1,g1,d1⟩,its,rv,o2,g2,c2,n2,e2⟩:=(show ObjOk X.prog X.w H s.heap p (.tup ws) from I.hok p _ hp)
 rw [g1] at g2
 cases g2
 obtain ⟨kvs',hkv,hpa⟩:=zkt I pr rv
 have l1:kvs.length = kvs'.length:=Paired.length hkv
 have l2:ws.length = kvs.length:=Paired.length pr
 have l3:=rv.length
 refine HT.call_dictP (knd:=zak X.prog X.w) (items:=its.toArray) (kvs:=kvs') g1 c2 e2 d1 (I.ok.hd hc) (by simpa using hpa) (by simp; omega) (by omega) fun h' tk hD kp=>?_
 have ln:=ze5 kvs []
 exact ⟨.ref s.heap.objs.size,_,I.laid (t':=tk) kp (Nat.le_refl _) (show ObjOk X.prog X.w _ h' _ (.dK (zfq kvs)) from ⟨by unfold zfq; rw [sizeLine_eq]; simp at ln; omega,beq_eq_false_iff_ne.mpr (Ne.symm (Nat.ne_of_lt I.big)),_,znY hkv .nil,hD⟩),rfl,q _ (I.hok.fresh (Nat.le_refl _))⟩
end
def zlk (kvs:List (Key × PyData)):List (Key × PyData):=kvs.foldl (fun m p=>ptA m p.1 p.2) []
theorem zge {H:Hp}:∀ {kvs:List (Key × PyData)} {kv':List (Key × V)},HasM H kvs kv'->∀ {acc:List (Key × PyData)} {acc':List (Key × V)},HasM H acc acc'->HasM H (kvs.foldl (fun m p=>ptA m p.1 p.2) acc) (kv'.foldl (fun a p=>zfg a p.1 p.2) acc')
 | [],_,q,acc,acc',ha=>by
  have e:_ = []:=q
  subst e
  exact ha
 | p :: r,_,⟨v,t,e,q,l⟩,acc,acc',ha=>by
  subst e
  rw [List.foldl_cons,List.foldl_cons]
  exact zge l (ha.put q)
theorem zmf {h o:List Addr} {H:Hp}:∀ {kvs:List (Key × PyData)} {ws:List V},HasL (vx h o H) (kvs.map fun p=>PyData.tuple [kD p.1,p.2]) ws->∃ kv',PrV H ws kv'/\HasM (vx h o H) kvs kv'
 | [],ws,l=>by
  have e:=zV.mp l
  subst e
  exact ⟨[],.nil,rfl⟩
 | p :: r,ws,l=>by
  obtain ⟨v,t,rfl,hv,l⟩:=zI.mp l
  obtain ⟨kv',pr,hm⟩:=zmf l
  obtain ⟨b,vs,rfl,eb,lb⟩:=za7.mp hv
  obtain ⟨v1,r1,rfl,h1,k1⟩:=zI.mp lb
  obtain ⟨v2,r2,rfl,h2,k2⟩:=zI.mp k1
  have e3:=zV.mp k2
  subst e3
  have e4:v1 = kV p.1:=by
   cases hp:p.1 with
   | inl i=>rw [hp] at h1; exact zcp.mp h1
   | inr x=>rw [hp] at h1; exact zdw.mp h1
  subst e4
  exact ⟨(p.1,v2) :: kv',.cons ⟨b,rfl,zaj _ _ eb⟩ pr,⟨v2,kv',rfl,h2,hm⟩⟩
def zf8 (da:DA):DE:=fun δ S R=>da δ S fun xs S1=>arg1 xs fun x=>asT x fun ds=>∃ kvs:List (Key × PyData),ds = kvs.map (fun p=>.tuple [kD p.1,p.2])/\kvs.length <= 1000/\R (.d (.dict (DD.pairs (.k (zlk kvs))))) S1
theorem zfH {ta:TA} {da:DA} (ha:RA ta da):RE (ztQ (tCB zqO ta)) (zf8 da):=fun h o H δ σ S R Q he hs q c =>
 ha h o H δ σ S _ _ he hs q fun o1 H1 S1 xs vs e1 s1 x1 d0=>by
  obtain ⟨x,rfl,d1⟩:=za3 d0
  replace d1:=zgh d1
  obtain ⟨ds,rfl,kvs,rfl,hl,d2⟩:=d1
  obtain ⟨v,rfl,hv⟩:=hxs1 x1
  obtain ⟨a,ws,rfl,ea,l⟩:=zdv hv
  obtain ⟨kv',pr,hm⟩:=zmf l
  have ln:kv'.length <= 1000:=by rw [hm.length]; exact hl
  refine ⟨a,ws,kv',rfl,ea,pr,ln,fun p hp=>⟨p,_,rfl,zN,fun ob=>?_⟩⟩
  rw [zfh]
  refine (c.pre e1) o1 _ S1 (.d (.dict (DD.pairs (.k (zlk kvs))))) _ (Ex.of_same (Same.laid hp)) (s1.same (Same.laid hp)) ?_ d2
  show Has _ _ _
  exact zhr.mpr ⟨p,ob,zfq kv',rfl,s1.laid hp,HasM.mono (zc8 (Same.laid hp)) (zge hm rfl)⟩
end L2
namespace HT
open PySem PyProof.Rows
theorem zlU:typeLookup (.type "list") "keys" = pure none:=am_miss_of_fast (by decide +kernel)
set_option maxRecDepth 8000 in
theorem znf {prog:Program} {w:World} {A:Around} {E:Value->Shared->Prop} {s:Shared} {a:Addr} {o:Obj} {xs:Array Value} {k:Nat} {Q:Option Value->Shared->Prop}
  (hx:s.heap.get? a = some o) (hc:o.cls = .type "list") (hdat:o.data = .seq xs k) (hd:o.dict = none) (hA:A.handled = none)
  (h:∀ h' tk,(∀ b ob,s.heap.get? b = some ob->h'.get? b = some ob)->Q none { s with heap:=h',toks:=tk }) :
  wpAny (model prog w) A (getAttr? (.ref a) "keys") Q E s:=by
 obtain ⟨c,dct,dat,sl⟩:=o
 simp only at hc hdat hd
 subst hc hdat hd
 obtain ⟨hp,g,d,tk,os⟩:=s
 have hT:∀ tk',(⟨hp,g,d,tk',os⟩:Shared).TypeIs (.ref a) "list":=fun _=>⟨_,hx,rfl⟩
 have f1:=sub_AttributeError
 have f3:=F.slot_list_getattribute.lookup
 have f4:=F.slot_list_getattribute.bind (.ref a)
 have f5:=am_list_getattr_none
 have hname:(["__module__","__name__","__qualname__","__doc__","__annotations__"]:List Str).contains ("keys":Str) = false:=by decide +kernel
 unfold getAttr? getAttrBy? getAttrBy
 repeat (any_goals (first | assumption | exact hT _ | ((with_reducible show wpAny _ _ (call (Value.builtin "list.__getattribute__") _ _) _ _ _); refine call_meets F.slot_list_getattribute (hT _) am_entry_list_getattribute (F.args_list_getattribute_2 _ _) (meets_getattribute_miss_list a xs k sl "keys" _ zlU hname) ⟨hx,hA,fun h' tk' e hx'=>?_⟩) | wp_step))
 obtain ⟨t',u',he⟩:=hx'.there
 show wpAny _ _ (getattributeRaised _ _ _ _ _ _ _) _ _ _
 unfold getattributeRaised
 repeat (any_goals (first | assumption | wp_step))
 exact h _ _ hx'.keeps
section
variable {prog:Program} {w:World} {K:Type} [DecidableEq K] {knd:PySem.KeyKind prog w K}
theorem call_dictPL {A:Around} {E:Value->Shared->Prop} {s:Shared} {p:Addr} {op:Obj} {items:Array Value} {nn:Nat} {kvs:List (K × Value)} {Q:Value->Shared->Prop} (hp:s.heap.get? p = some op) (hc:op.cls = .type "list") (hdat:op.data = .seq items nn) (hd:op.dict = none)
  (hh:A.handled = none) (hpr:∀ ap:List Addr,(∀ a ∈ ap,s.heap.objs.size <= a)->PairsAt knd ap s.heap items.toList kvs) (hk:kvs.length = items.size) (hl:kvs.length <= 1000)
  (h:∀ h' tk,h'.DictOf knd s.heap.objs.size (zgw [] kvs)->(∀ b o,s.heap.get? b = some o->h'.get? b = some o)->Q (.ref s.heap.objs.size) { s with heap:=h',toks:=tk }) :
  wpAny (model prog w) A (call (.type "dict") [.ref p]) Q E s:=by
 refine callType_codes (Q₁:=fun obj s₁=>obj = .ref s.heap.objs.size/\s₁ = { s with heap:=s.heap.push { cls:=.type "dict",data:=.dict #[] } }) PySem.F.kt_called_dict (PySem.F.kt_typeCall_dict_1 _) PySem.F.entry_dict_init (kt_code_dict_new _ ⟨rfl,rfl⟩) ?_
 rintro obj s₁ ⟨rfl,rfl⟩
 have hnew:(s.heap.push { cls:=.type "dict",data:=.dict #[] }).DictOf knd s.heap.objs.size []:=Heap.DictOf.new s.heap
 have hp1:(s.heap.push { cls:=.type "dict",data:=.dict #[] }).get? p = some op:=Heap.get?_push_of_some _ hp
 have hT:({ s with heap:=s.heap.push { cls:=.type "dict",data:=.dict #[] } }:Shared).TypeIs (.ref p) "list":=⟨_,hp1,hc⟩
 have plt:=Heap.lt_size hp
 refine ⟨hnew.typeIs,PySem.F.args_dict_init_2 _ _,?_⟩
 unfold Builtin.«dict.__init__»
 refine wpAny_bind ?_
 unfold Builtin.Dict.selfAndRest
 refine wpAny_bind (wpAny_notOrdered_dict hnew.typeIs ?_)
 show wpAny _ _ (pure (s.heap.objs.size,[Value.ref p])) _ _ _
 refine wpAny_pure ?_
 show wpAny _ _ (Builtin.Dict.updateFrom "dict.__init__" s.heap.objs.size (.ref p) [] .none) _ _ _
 unfold Builtin.Dict.updateFrom
 refine wpAny_bind (wpAny_typeOf hT ?_)
 rw [if_pos (by decide)]
 refine wpAny_bind (znf (A:=A.in1.in1) hp1 hc hdat hd hh fun h2 tk2 k2=>?_)
 rw [if_pos (show (none:Option Value).isNone = true from rfl)]
 refine wpAny_bind (wpAny_rule ?_)
 have hp2:=k2 _ _ hp1
 have ht2:h2.IsList p items:=⟨_,hp2,hc,nn,hdat⟩
 refine wpAny_bind (wpAny_pyIter_list (s:={ s with heap:=h2,toks:=tk2 }) ht2 ?_)
 have g0:∃ o,h2.get? s.heap.objs.size = some o:=by
  obtain ⟨o,es,ep,ho,r⟩:=id hnew
  exact ⟨o,k2 _ _ ho⟩
 obtain ⟨o0,g0⟩:=g0
 have lt2:s.heap.objs.size < h2.objs.size:=Heap.lt_size g0
 have plt2:p < h2.objs.size:=Heap.lt_size hp2
 have hS:(h2.push { cls:=.type "list_iterator",data:=.fields #[.ref p,.int 0 0] }).DictOf knd s.heap.objs.size []:=by
  obtain ⟨o,es,ep,ho,r⟩:=hnew
  exact ⟨o,es,ep,Heap.get?_push_of_some _ (k2 _ _ ho),r⟩
 refine wpAny_pure ⟨plainId_quiet zdP _,?_⟩
 refine zd8 (knd:=knd) (A:=A.in1) (items:=items.toList) (Walks.list (A:=A.in1.in1) hh h2.objs.size p (Nat.ne_of_lt plt2) items) ?_ ?_ kvs 0 _ [] ?_ ?_ hS ?_ ?_ ?_
 ·simp only [List.mem_cons,List.not_mem_nil,or_false,not_or]
  exact ⟨Nat.ne_of_lt lt2,Nat.ne_of_gt plt⟩
 ·intro i v e
  rw [Array.getElem?_toList]
  exact e
 ·omega
 ·exact ⟨⟨_,Heap.get?_push_size _ rfl,rfl,rfl⟩,ht2.at fun o e=>Heap.get?_push_of_some _ e⟩
 ·rw [List.drop_zero]
  refine PairsAt.keeps (hpr _ fun a m=>?_) fun b o nb e=>Heap.get?_push_of_some _ (k2 _ _ (Heap.get?_push_of_some _ e))
  simp only [List.mem_cons,List.not_mem_nil,or_false] at m
  rcases m with rfl | rfl
  ·exact Nat.le_refl _
  ·exact Nat.le_of_lt lt2
 ·simpa using hl
 ·intro h3 tk3 hD k3
  refine ⟨rfl,h h3 tk3 hD fun b o e=>k3 b o (fun m=>?_) (Heap.get?_push_of_some _ (k2 _ _ (Heap.get?_push_of_some _ e)))⟩
  have:=Heap.lt_size e
  simp only [List.mem_cons,List.not_mem_nil,or_false] at m
  rcases m with z | z
  ·rw [z] at this
   exact absurd this (Nat.lt_irrefl _)
  ·rw [z] at this
   exact absurd (Nat.lt_trans this lt2) (Nat.lt_irrefl _)
end
end HT
namespace L2
open PySem PySem.Spec PySem.Calls PyProof.Rows
def zn3:List V->Hp->VK->Prop:=fun xs H Q=>∃ p ws kvs,xs = [.ref p]/\H p = some (.lst ws)/\PrV H ws kvs/\kvs.length <= 1000/\∀ l,H l = none->Q (.ref l) (upd H l (.dK (zfq kvs)))
theorem zfB {X:Cx} (hc:X.calm = true):CallR X (.type "dict") zn3:=by
 intro zk s σ H xs us Q I r h
 obtain ⟨p,ws,kvs,rfl,hp,pr,hl,q⟩:=h
 obtain ⟨u,rfl,rx⟩:=vals1 r
 cases rx
 obtain ⟨hz,its,n,rv,g1⟩:=(show ObjOk X.prog X.w H s.heap p (.lst ws) from I.hok p _ hp)
 obtain ⟨kvs',hkv,hpa⟩:=zkt I pr rv
 have l1:kvs.length = kvs'.length:=Paired.length hkv
 have l2:ws.length = kvs.length:=Paired.length pr
 have l3:=rv.length
 refine HT.call_dictPL (knd:=zak X.prog X.w) (items:=its.toArray) (kvs:=kvs') g1 rfl rfl rfl (I.ok.hd hc) (by simpa using hpa) (by simp; omega) (by omega) fun h' tk hD kp=>?_
 have ln:=ze5 kvs []
 exact ⟨.ref s.heap.objs.size,_,I.laid (t':=tk) kp (Nat.le_refl _) (show ObjOk X.prog X.w _ h' _ (.dK (zfq kvs)) from ⟨by unfold zfq; rw [sizeLine_eq]; simp at ln; omega,beq_eq_false_iff_ne.mpr (Ne.symm (Nat.ne_of_lt I.big)),_,znY hkv .nil,hD⟩),rfl,q _ (I.hok.fresh (Nat.le_refl _))⟩
def zhx (da:DA):DE:=fun δ S R=>da δ S fun xs S1=>arg1 xs fun x=>∃ kvs:List (Key × PyData),x = .d (.list (kvs.map fun p=>.tuple [kD p.1,p.2]))/\kvs.length <= 1000/\R (.d (.dict (DD.pairs (.k (zlk kvs))))) S1
theorem zmG {ta:TA} {da:DA} (ha:RA ta da):RE (ztQ (tCB zn3 ta)) (zhx da):=fun h o H δ σ S R Q he hs q c =>
 ha h o H δ σ S _ _ he hs q fun o1 H1 S1 xs vs e1 s1 x1 d0=>by
  obtain ⟨x,rfl,kvs,rfl,hl,d2⟩:=za3 d0
  obtain ⟨v,rfl,hv⟩:=hxs1 x1
  obtain ⟨a,ws,rfl,ea,l⟩:=zbs.mp (show Has (vx h o1 H1) _ _ from hv)
  obtain ⟨kv',pr,hm⟩:=zmf l
  have ln:kv'.length <= 1000:=by rw [hm.length]; exact hl
  refine ⟨a,ws,kv',rfl,zaj _ _ ea,pr,ln,fun p hp=>⟨p,_,rfl,zN,fun ob=>?_⟩⟩
  rw [zfh]
  refine (c.pre e1) o1 _ S1 (.d (.dict (DD.pairs (.k (zlk kvs))))) _ (Ex.of_same (Same.laid hp)) (s1.same (Same.laid hp)) ?_ d2
  show Has _ _ _
  exact zhr.mpr ⟨p,ob,zfq kv',rfl,s1.laid hp,HasM.mono (zc8 (Same.laid hp)) (zge hm rfl)⟩
end L2
namespace L2
open PySem PySem.Spec PyProof.Rows
section
theorem zkI {k v:Int}:RE (ztQ (zsL [(tC (.int k),tC (.int v))])) (dC (.dict [(.int k,.int v)])):=fun h o H δ σ S R Q he hs q c p hp=>by
 refine ⟨zN,[(Sum.inl k,.int v)],rfl,by simp,p,zfV [] [(Sum.inl k,.int v)],rfl,zN,fun ob=>?_⟩
 rw [zfh,zfh]
 refine c o _ S (.d (.dict (DD.pairs (.k [(Sum.inl k,.int v)])))) _ (Ex.of_same (Same.laid hp)) (hs.same (Same.laid hp)) ?_ q
 show Has _ _ _
 exact zhr.mpr ⟨p,ob,zfV [] [(Sum.inl k,.int v)],rfl,hs.laid hp,⟨.int v,[],rfl,zcp.mpr rfl,rfl⟩⟩
end
section
def Itd (lo:Int) (n:Nat):It:=⟨fun i _=>i < n,fun i H x H'=>H' = H/\x = .int (lo - i),fun i _=>n <= i⟩
theorem zm5 {P:Program} {w:World} {K:W.Frag} {tg:Expr} (it:Addr) (lo:Int) (n:Nat):Turn P w K tg (Itd lo n) [it] it (fun i h=>IsRangeIter h it (lo + (i:Nat) * (-1)) ((n:Int) - (i:Nat)) (-1)) where
 mem:=by simp
 obj:=fun i h st b hb=>by
  have e:b = it:=by simpa using hb
  subst e
  exact ⟨_,st,fun v z=>by
   have z':Data.fields _ = Data.cell v:=z
   cases z'⟩
 keep:=fun i h h' st k=>k it (by simp) _ st
 item:=by
  intro X hP hw hK hc i zk s σ H E I hf st hg
  subst hP hw hK
  obtain ⟨f0,f1,f2,f3,f4,f5⟩:=hf it (by simp)
  have W:=Walks.range (prog:=X.prog) (w:=X.w) (I.ok.hd hc) it lo (-1) n
  refine W.item i s _ _ hg st fun v h' tk hv st' kk=>?_
  obtain ⟨t,rfl⟩:=hv
  have I1:Inv X zk σ H { s with heap:=h',toks:=tk }:=I.turned (fun b o hb e=>kk b o (by simpa using hb) e) f0 f1 f3 f4 f5
  refine ⟨_,rfl,zmx (s:={ s with heap:=h',toks:=tk }) (n:="range_iterator") st' rfl rfl (by decide) ⟨.int (lo - i),H,I1,⟨t,?_⟩,⟨rfl,rfl⟩,st',fun b hb=>(hf b hb).1⟩⟩
  rw [show lo + (i:Int) * (-1) = lo - i by omega]
 done:=by
  intro X hP hw hK hc i zk s σ H E I hf st hg
  subst hP hw hK
  obtain ⟨f0,f1,f2,f3,f4,f5⟩:=hf it (by simp)
  exact wpAny_pyNext_range_end (I.ok.hd hc) st (by have:n <= i:=hg; omega) fun h' eb=>⟨rfl,I.turned (t':=s.toks) (fun b o hb e=>eb b o hb e) f0 f1 f3 f4 f5⟩
 self:=fun _ _ _ _ _ st h=>wpAny_pyIter_rangeiter st h
section
variable {X:Cx} {tg:Expr}
theorem zln {zk:List (Addr × Obj)} {σ:St} {H:Hp} {s:Shared} {R:It->Hp->Prop} {E:Value->Shared->Prop} {lo hi:Int} {t u v:Tok} {tk:Nat} (I:Inv X zk σ H s) (h1:-1000 <= lo/\lo <= 1000) (h2:-1000 <= hi/\hi <= 1000)
  (q:R (Itd lo (lo - hi).toNat) H):wpAny (model X.prog X.w) X.A (pyIter (.ref s.heap.objs.size)) (PIE X zk σ tg R) E { s with heap:=s.heap.push { cls:=.type "range",data:=.fields #[.int lo t,.int hi u,.int (-1) v] },toks:=tk }:=by
 have I1:Inv X zk σ H { s with heap:=s.heap.push { cls:=.type "range",data:=.fields #[.int lo t,.int hi u,.int (-1) v] },toks:=tk }:=I.kept fun b o e=>Heap.get?_push_of_some _ e
 have e1:lo + ((0:Nat):Int) * (-1) = lo:=by simp
 have e2:(((lo - hi).toNat:Nat):Int) - ((0:Nat):Int) = Builtin.Range.rangeSize lo hi (-1):=by
  unfold Builtin.Range.rangeSize
  rw [if_neg (by decide)]
  split
  ·rw [show (- -1:Int) = 1 by decide,Int.ediv_one]
   omega
  ·omega
 have hsm:Builtin.Range.small lo hi (-1) = true:=by
  unfold Builtin.Range.small
  rw [<- e2,if_neg (by decide)]
  simp only [Builtin.Range.rangeFitsLong,Bool.and_eq_true,Bool.or_eq_true,decide_eq_true_eq,beq_iff_eq]
  omega
 refine wpAny_pyIter_range (IsRange.new ..) hsm ?_
 refine ⟨(s.heap.push { cls:=.type "range",data:=.fields #[.int lo t,.int hi u,.int (-1) v] }).objs.size,[(s.heap.push { cls:=.type "range",data:=.fields #[.int lo t,.int hi u,.int (-1) v] }).objs.size],_,_,H,rfl,
  I1.kept (t':=tk) fun b o e=>Heap.get?_push_of_some _ e,zm5 _ lo (lo - hi).toNat,?_,fun b hb=>?_,q⟩
 ·show IsRangeIter _ _ (lo + ((0:Nat):Int) * (-1)) ((((lo - hi).toNat:Nat):Int) - ((0:Nat):Int)) (-1)
  rw [e1,e2]
  exact Heap.get?_push_size _ rfl
 ·have e:b = (s.heap.push { cls:=.type "range",data:=.fields #[.int lo t,.int hi u,.int (-1) v] }).objs.size:=by simpa using hb
  subst e
  exact I1.fpOk (Nat.le_refl _) (I1.hok.fresh (Nat.le_refl _))
def zsA (ta:TA):TI:=fun σ H R=>ta σ H fun vs H1=>∃ i j:Int,vs = [.int i,.int j,.int (-1)]/\(-1000 <= i/\i <= 1000)/\(-1000 <= j/\j <= 1000)/\R (Itd i (i - j).toNat) H1
theorem ziq {a b c:Expr} {ta:TA} {p pos:Pos} (hg:Gl X "range") (hm:X.mg "range" = none) (ha:PA X [a,b,c] ta) (hs:starEach [a,b,c] X.env = [(false,eval a X.env),(false,eval b X.env),(false,eval c X.env)]:=by rfl) (hs2:starEach [b,c] X.env = [(false,eval b X.env),(false,eval c X.env)]:=by rfl) :
  PI X tg (.Call (.Name "range" p) [a,b,c] [] pos) (zsA ta):=by
 intro zk s σ H R I h
 refine Call_ (zfS I hg hm boot_range (PyProof.Rows.callWith_type1 (thn (ha pos zk s σ H _ I h) fun us s1 ⟨vs,H1,I1,r1,q1⟩=>?_) (by rw [hs,hs2]) (by rw [hs2]; rfl)))
 obtain ⟨i,j,e,h1,h2,q⟩:=q1
 subst e
 cases r1 with
 | cons r rr =>
  cases rr with
  | cons r' rr =>
   cases rr with
   | cons r'' rr =>
    cases rr
    obtain ⟨t,rfl⟩:=r
    obtain ⟨t',rfl⟩:=r'
    obtain ⟨t'',rfl⟩:=r''
    exact call_range_3 (by decide) (zln I1 h1 h2 q) (.inl (PyProof.noPylong_small (by omega)))
end
def zjI (lo:Int) (n:Nat):List PyData:=(List.range n).map fun k:Nat=>.int (lo - k)
theorem zeD {lo:Int} {n i:Nat} {d:PyData} (h:(zjI lo n)[i]? = some d):i < n/\d = .int (lo - i):=by
 unfold zjI at h
 rw [List.getElem?_map] at h
 by_cases hi:i < n
 ·rw [List.getElem?_range hi] at h
  exact ⟨hi,(Option.some.inj h).symm⟩
 ·rw [List.getElem?_eq_none (by simpa using Nat.le_of_not_lt hi)] at h
  cases h
theorem zlL {h o:List Addr} {H:Hp} {lo:Int} {n:Nat}:WalkX h o H (Itd lo n) (zjI lo n) where
 stop:=fun i _ _ _ hi=>by
  have h':n <= i:=by simpa [zjI] using hi
  exact h'
 go:=fun i d _ _ _ hi=>(zeD hi).1
 yld:=fun i d o2 H2 x H3 S2 _ _ hi y=>by
  obtain ⟨e,ex⟩:=y
  subst e ex
  rw [(zeD hi).2]
  exact ⟨Same.refl _,zcp.mpr rfl⟩
def zi4 (a:DA):DI:=fun δ S R=>a δ S fun xs S1=>∃ i j:Int,xs = [.d (.int i),.d (.int j),.d (.int (-1))]/\(-1000 <= i/\i <= 1000)/\(-1000 <= j/\j <= 1000)/\R (zjI i (i - j).toNat) S1
theorem zmt {ta:TA} {da:DA} (ha:RA ta da):RI (zsA ta) (zi4 da):=fun h o H δ σ S R Q he hs q c =>
 ha h o H δ σ S _ _ he hs q fun o1 H1 S1 xs vs e1 s1 x1 d0=>by
  obtain ⟨i,j,rfl,h1,h2,d1⟩:=d0
  obtain ⟨v1,r1,rfl,hv1,l1⟩:=x1
  obtain ⟨v2,r2,rfl,hv2,l2⟩:=l1
  obtain ⟨v3,r3,rfl,hv3,l3⟩:=l2
  have l4:r3 = []:=l3
  subst l4
  rw [zaT hv1,zaT hv2,zaT hv3]
  exact ⟨i,j,rfl,h1,h2,c o1 H1 S1 _ _ e1 s1 zlL d1⟩
end
section
def zvR (i j:Nat) (da:DA):DEnds->XE->Sto->Prop:=fun E δ S=>da δ S fun xs S1=>∃ x y,xs = [x,y]/\E.nx ((δ.set i (some x)).set j (some y)) S1
end
end L2
namespace L2
open PySem PyProof.Rows
section
variable {prog:Program} {w:World} {A:Around} {E:Value->Shared->Prop} {s:Shared} {kd:SortKind} {D:Keyed->Prop} {lt:Keyed->Keyed->Bool}
def flt (lt:Keyed->Keyed->Bool):Keyed->Keyed->Bool:=fun x y=>lt y x
def G (xs:Array Keyed) (i:Nat):Keyed:=(xs[i]?).getD (.none,.none)
end
end L2
namespace L2
open PySem PySem.Spec PySem.Calls PyProof.Rows PySem.W
def zqQ:List XV->Sto->RX->Prop:=fun xs S R=>arg1 xs fun x=>∃ ds,zgP S x = some ds/\∃ ns:List Int,ds = ns.map PyData.int/\ns.length <= 10000000/\∀ ms:List Int,ms.Perm ns->ms.Pairwise (· <= ·)->R (.d (.list (ms.map PyData.int))) S
def zqR:List XV->Sto->RX->Prop:=fun xs S R=>arg1 xs fun x=>∃ m:List (Key × PyData),x = .d (.dict (DD.pairs (.k m)))/\∃ ns:List Int,m.map (·.1) = ns.map Sum.inl/\ns.length <= 10000000/\∀ ms:List Int,ms.Perm ns->ms.Pairwise (· <= ·)->R (.d (.list (ms.map PyData.int))) S
def zqW:List XV->Sto->RX->Prop:=fun xs S R=>arg1 xs fun x=>∃ ds,zgP S x = some ds/\∃ nss:List (List Int),ds = nss.map zo7/\nss.length <= 10000000/\(∀ ns ∈ nss,ns ≠ [])/\∀ mss:List (List Int),mss.Perm nss->mss.Pairwise (fun x y=>HT.lexLt y x = false)->R (.d (.list (mss.map zo7))) S
def ikD (m:List (Int × Int)):List (Key × PyData):=m.map fun p=>(Sum.inl p.1,PyData.int p.2)
def ik2 (p:Int × Int):List Int:=[p.1,p.2]
def zg6 (e:DE):DE:=fun δ S R=>e δ S fun x S1=>∃ m:List (Int × Int),x = .d (.dict (DD.pairs (.k (ikD m))))/\m.length <= 10000000/\∀ ms:List (Int × Int),ms.Perm m->ms.Pairwise (fun x y=>HT.lexLt (ik2 y) (ik2 x) = false)->R (.d (.list (ms.map fun p=>zo7 (ik2 p)))) S1
end L2
namespace My
open PySem L2
def zcd:PN:=fun xs S R=>(zbh (zi7 (dCB zov (ze (zn 0) (ze (dO (.ty "int")) zv))) (zl9 (dCB zov (ze (zn 0) (ze (dO (.ty "bool")) zv)))))) (zb3 S.length R) (xs.map some ++ List.replicate 0 none) S
def zcS:PN:=fun xs S R=>(zW (zag (dOp (dI (fun _ j=>0 < j) fun i j=>i % j) (dOp zaX (zn 0) (dC (.int 7919))) (dC (.int 2147483647))) (zm 0)) (zbh (dOp (dI (fun _ j=>0 < j) fun i j=>i % j) (dOp zaX (dOp zaX (dOp zdr (zn 0) (zn 0)) (dOp zdr (dC (.int 48271)) (zn 0))) (dC (.int 12345))) (dC (.int 2147483629))))) (zb3 S.length R) (xs.map some ++ List.replicate 0 none) S
def zfo:PN:=fun xs S R=>(zW (zag (dCB (dI2 fun i j=>if j > i then j else i) (ze (zn 0) (ze (dOp (dI0 fun i j=>i - j) (dC (.int 0)) (zn 0)) zv))) (zm 1)) (zbh (zer (ze (zn 1) (ze (dCB znI (ze (dOp (dIb fun i j=>decide (j <= i)) (zn 1) (dOp (dI CPow fun i j=>i ^ j.toNat) (dC (.int 10)) (dC (.int 18)))) zv)) (ze (dOp (dI (fun _ j=>0 < j) fun i j=>i % j) (zn 1) (dC (.int 1000003))) zv)))))) (zb3 S.length R) (xs.map some ++ List.replicate 1 none) S
def zbJ:PN:=fun xs S R=>(zbh (zi7 (dCB zov (ze (zn 0) (ze (dO (.ty "int")) zv))) (zl9 (dCB zov (ze (zn 0) (ze (dO (.ty "bool")) zv)))))) (zb3 S.length R) (xs.map some ++ List.replicate 0 none) S
def zy:PN:=fun xs S R=>(zW (zdt (dB (dOp zid (dOp dIx (zn 0) (dC (.int 1))) (dC (.int 1)))) (zW (zag (dOp (dI (fun _ j=>0 < j) fun i j=>i % j) (dOp dIx (zn 0) (dC (.int 0))) (zn 1)) (zm 2)) (zW (zag (dOp dFd (dOp dIx (zn 0) (dC (.int 0))) (zn 1)) (znn (zn 0) (dC (.int 0)))) (zbh (zn 2)))) za5) (zW (zag (zaf 1 zcS (ze (dOp zaX (zaf 1 zcS (ze (dOp dIx (zn 0) (dC (.int 2))) zv)) (dC (.int 7))) zv)) (znn (zn 0) (dC (.int 2)))) (zbh (dOp (dI (fun _ j=>0 < j) fun i j=>i % j) (dOp dFd (dOp dIx (zn 0) (dC (.int 2))) (dC (.int 64))) (zn 1))))) (zb3 S.length R) (xs.map some ++ List.replicate 1 none) S
def zcB:PN:=fun xs S R=>(zW (zag (zad 0 2 zy (ze (zn 0) (ze (dC (.int 8)) zv))) (zm 1)) (zW (zdt (dB (dOp (dIb fun i j=>decide (i < j)) (zn 1) (dC (.int 5)))) (zbh (dOp (dI0 fun i j=>i - j) (zad 0 2 zy (ze (zn 0) (ze (dC (.int 13)) zv))) (dC (.int 6)))) za5) (zW (zdt (dB (dOp (dIb fun i j=>decide (i < j)) (zn 1) (dC (.int 7)))) (zbh (dOp (dI0 fun i j=>i - j) (zad 0 2 zy (ze (zn 0) (ze (dC (.int 2001)) zv))) (dC (.int 1000)))) za5) (zbh (dOp zdr (dOp (dI0 fun i j=>i - j) (zad 0 2 zy (ze (zn 0) (ze (dOp zdr (dC (.int 2)) (dOp (dI CPow fun i j=>i ^ j.toNat) (dC (.int 10)) (dC (.int 30)))) zv))) (dOp (dI CPow fun i j=>i ^ j.toNat) (dC (.int 10)) (dC (.int 30)))) (dOp (dI CPow fun i j=>i ^ j.toNat) (dC (.int 10)) (dC (.int 28)))))))) (zb3 S.length R) (xs.map some ++ List.replicate 1 none) S
def zk8:PN:=fun xs S R=>(zbh (zef (ze (dOp zaX (dOp dIx (zn 0) (dC (.int 0))) (dOp dIx (zn 1) (dC (.int 0)))) (ze (dOp zaX (dOp dIx (zn 0) (dC (.int 1))) (dOp dIx (zn 1) (dC (.int 1)))) zv)))) (zb3 S.length R) (xs.map some ++ List.replicate 0 none) S
def zcG:PN:=fun xs S R=>(zW (zag (zef (ze (dOp zdr (dOp dIx (zn 0) (dC (.int 0))) (zn 1)) (ze (dOp zdr (dOp dIx (zn 0) (dC (.int 1))) (zn 1)) zv))) (zm 2)) (zbh (zef (ze (dCB zlX (ze (zn 2) zv)) (ze (dCB zst (ze (zn 2) zv)) zv))))) (zb3 S.length R) (xs.map some ++ List.replicate 1 none) S
def zdR:PN:=fun xs S R=>(zW (zag (zad 0 2 zy (ze (zn 0) (ze (dC (.int 8)) zv))) (zm 1)) (zW (zdt (dB (dOp (dIb fun i j=>decide (i < j)) (zn 1) (dC (.int 5)))) (zbh (dOp (dI0 fun i j=>i - j) (zad 0 2 zy (ze (zn 0) (ze (dC (.int 13)) zv))) (dC (.int 6)))) za5) (zW (zdt (dB (dOp (dIb fun i j=>decide (i < j)) (zn 1) (dC (.int 7)))) (zbh (dOp (dI0 fun i j=>i - j) (zad 0 2 zy (ze (zn 0) (ze (dC (.int 2001)) zv))) (dC (.int 1000)))) za5) (zbh (dOp zdr (dOp (dI0 fun i j=>i - j) (zad 0 2 zy (ze (zn 0) (ze (dOp zdr (dC (.int 2)) (dOp (dI CPow fun i j=>i ^ j.toNat) (dC (.int 10)) (dC (.int 30)))) zv))) (dOp (dI CPow fun i j=>i ^ j.toNat) (dC (.int 10)) (dC (.int 30)))) (dOp (dI CPow fun i j=>i ^ j.toNat) (dC (.int 10)) (dC (.int 28)))))))) (zb3 S.length R) (xs.map some ++ List.replicate 1 none) S
def zcR:PN:=fun xs S R=>(zbh (dOp zaX (dOp (dI0 fun i j=>i - j) (dOp dIx (zn 0) (dC (.int 1))) (dOp dIx (zn 0) (dC (.int 0)))) (dC (.int 1)))) (zb3 S.length R) (xs.map some ++ List.replicate 0 none) S
def zdV:PN:=fun xs S R=>(zW (zag (zdA (ze (dCB zkx (ze (zn 0) (ze (dO (.ref 37)) zv))) (ze (dCB zkx (ze (zn 0) (ze (dO (.ref 49)) zv))) (ze (dCB zkx (ze (zn 0) (ze (dO (.ref 61)) zv))) (ze (dCB zkx (ze (zn 0) (ze (dO (.ref 161)) zv))) zv))))) (zm 1)) (zW (zag (dOp zaX (zn 1) (zdA (ze (dCB zkx (ze (zn 0) (ze (dO (.ref 73)) zv))) (ze (dCB zkx (ze (zn 0) (ze (dO (.ref 85)) zv))) (ze (dCB zkx (ze (zn 0) (ze (dO (.ref 104)) zv))) (ze (dCB zkx (ze (zn 0) (ze (dO (.ref 123)) zv))) zv)))))) (zm 1)) (zW (zag (dOp zaX (zn 1) (zdA (ze (dCB zkx (ze (zn 0) (ze (dO (.ref 142)) zv))) (ze (dCB zkx (ze (zn 0) (ze (dO (.ref 180)) zv))) zv)))) (zm 1)) (zW (zdt (dOr (zil (zjp (dCB zkx (ze (zn 0) (ze (dO (.ty "ValueError")) zv))))) (dB (dOp zo1 (zt7 zhD (zn 1) (ze (dC (.bool true)) zv)) (dC (.int 1))))) (zbh (dC (.str "other"))) za5) (zW (zag (zdA (ze (dC (.str "span")) (ze (dC (.str "part")) (ze (dC (.str "set")) (ze (dC (.str "text")) (ze (dC (.str "row")) (ze (dC (.str "unlike")) (ze (dC (.str "drawing")) (ze (dC (.str "gap")) (ze (dC (.str "offer")) (ze (dC (.str "great")) zv))))))))))) (zm 2)) (zbh (dOp dIx (zn 2) (zt7 zlc (zn 1) (ze (dC (.bool true)) zv))))))))) (zb3 S.length R) (xs.map some ++ List.replicate 2 none) S
def zd9:PN:=fun xs S R=>(zW (zag (dC (.str "abcdefghijklmnopqrstuvwxyz")) (zm 1)) (zW (zag (zad 0 2 zy (ze (zn 0) (ze (dC (.int 3)) zv))) (zm 2)) (zW (zag (zad 0 2 zy (ze (zn 0) (ze (dC (.int 26)) zv))) (zm 3)) (zW (zag (zfU [none,some 1,some 3] (zaz (ze (dC (.int 8)) zv)) (zm 0) zaJ (dOp zdr (dOp dIx (zn 1) (dOp (dI (fun _ j=>0 < j) fun i j=>i % j) (dOp zaX (zn 2) (dOp zdr (dC (.int 5)) (zn 0))) (dC (.int 26)))) (dOp zaX (dC (.int 1)) (dOp (dI (fun _ j=>0 < j) fun i j=>i % j) (dOp zaX (zn 2) (dOp zdr (dC (.int 3)) (zn 0))) (dC (.int 8)))))) (zm 4)) (zW (zdt (dB (dOp zid (zn 2) (dC (.int 0)))) (zW (zag (ztm znh (dC (.str "")) (ze (zcx [none,some 1,some 3] (zaz (ze (dC (.int 8)) zv)) (zm 0) zaJ (dOp dIx (zn 1) (dOp (dI (fun _ j=>0 < j) fun i j=>i % j) (dOp zaX (zn 2) (dOp zdr (dC (.int 7)) (zn 0))) (dC (.int 26))))) zv)) (zm 5)) (zag (zfU [none,some 5] (zaz (ze (dC (.int 8)) zv)) (zm 0) zaJ (dSl zlv (zn 1) zb7 (zfz (dOp zaX (zn 0) (dC (.int 1)))))) (zm 4))) za5) (zW (zdt (dB (dOp zid (zn 2) (dC (.int 1)))) (zag (zer (ze (dC (.str "part")) (ze (dC (.str "gap")) (ze (dC (.str "cut")) (ze (dC (.str "a")) (ze (dC (.str "aa")) (ze (dC (.str "dear")) (ze (dC (.str "b")) (ze (dC (.str "keeps")) zv))))))))) (zm 4)) za5) (zW (zag (zad 0 2 zy (ze (zn 0) (ze (dC (.int 8)) zv))) (zm 6)) (zW (zag (dOp znW (dSl zlv (zn 4) (zfz (zn 6)) zb7) (dSl zlv (zn 4) zb7 (zfz (zn 6)))) (zm 4)) (zW (zdt (dB (dOp zid (zad 0 2 zy (ze (zn 0) (ze (dC (.int 2)) zv))) (dC (.int 1)))) (zeU (zsf zc4 (zn 4))) za5) (zbh (zn 4))))))))))) (zb3 S.length R) (xs.map some ++ List.replicate 6 none) S
def zfI:PN:=fun xs S R=>(zW (zdt (dOr (zil (zjp (dCB zov (ze (zn 1) (ze (dO (.ty "tuple")) zv))))) (dB (dOp zo1 (dCB zbR (ze (zn 1) zv)) (dCB zbR (ze (zn 0) zv))))) (zbh (dC (.bool false))) za5) (zbh (dCB zrL (ze (zcx [none,none] (zkq (ze (zn 1) (ze (zn 0) zv))) (zdq 2 (zan (zm 0) (zan (zm 1) zds))) zaJ (zi7 (zaf 1 zcd (ze (zn 0) zv)) (zeZ (dIb fun i j=>decide (i <= j)) (dIb fun i j=>decide (i <= j)) (dOp dIx (zn 1) (dC (.int 1))) (zn 0) (dOp dIx (zn 1) (dC (.int 2)))))) zv)))) (zb3 S.length R) (xs.map some ++ List.replicate 0 none) S
def zea:PN:=fun xs S R=>(zW (zdt (dOr (zil (zjp (dCB zov (ze (zn 0) (ze (dO (.ty "tuple")) zv))))) (dB (dOp zo1 (dCB zbR (ze (zn 0) zv)) (dCB zbR (ze (zn 1) zv))))) (zbh (dC (.bool false))) za5) (zbh (zi7 (dCB zrL (ze (zcx [none] (zcQ (zn 0)) (zm 0) zaJ (zaf 1 zbJ (ze (zn 0) zv))) zv)) (dOp zid (zn 0) (dCB zfs (ze (zn 1) zv)))))) (zb3 S.length R) (xs.map some ++ List.replicate 0 none) S
def zcv:PN:=fun xs S R=>(zbh (zef (ze (dOp dIx (zn 0) (dC (.int 1))) (ze (dOp dIx (zn 0) (dC (.int 2))) zv)))) (zb3 S.length R) (xs.map some ++ List.replicate 0 none) S
def zgd:PN:=fun xs S R=>(zW (zag (dCB (dI2 fun i j=>if j > i then j else i) (ze (zn 0) (ze (dOp (dI0 fun i j=>i - j) (dC (.int 0)) (zn 0)) zv))) (zm 1)) (zbh (zer (ze (zn 1) (ze (dCB znI (ze (dOp (dIb fun i j=>decide (j <= i)) (zn 1) (dOp (dI CPow fun i j=>i ^ j.toNat) (dC (.int 10)) (dC (.int 18)))) zv)) (ze (dOp (dI (fun _ j=>0 < j) fun i j=>i % j) (zn 1) (dC (.int 1000003))) zv)))))) (zb3 S.length R) (xs.map some ++ List.replicate 1 none) S
def zdW:PN:=fun xs S R=>(zW (zag (dC (.int 0)) (zm 2)) (zW (zag (dC (.int 0)) (zm 3)) (zW (zgA (zcQ (zn 1)) (zdq 2 (zan (zm 4) (zan (zm 5) zds))) (zW (zag (zdA (ze (dOp zdr (zn 5) (dOp dIx (dOp dIx (zn 0) (zn 4)) (dC (.int 1)))) (ze (dOp zdr (zn 5) (dOp dIx (dOp dIx (zn 0) (zn 4)) (dC (.int 2)))) zv))) (zm 6)) (zW (zag (dOp zaX (zn 2) (dCB zlX (ze (zn 6) zv))) (zm 2)) (zag (dOp zaX (zn 3) (dCB zst (ze (zn 6) zv))) (zm 3))))) (zbh (zef (ze (zn 2) (ze (zn 3) zv))))))) (zb3 S.length R) (xs.map some ++ List.replicate 5 none) S
def zc9:PN:=fun xs S R=>(zW (zag (dC (.str "abcdefghijklmnopqrstuvwxyz")) (zm 1)) (zW (zag (zad 0 2 zy (ze (zn 0) (ze (dC (.int 3)) zv))) (zm 2)) (zW (zag (zad 0 2 zy (ze (zn 0) (ze (dC (.int 26)) zv))) (zm 3)) (zW (zag (zfU [none,some 1,some 3] (zaz (ze (dC (.int 8)) zv)) (zm 0) zaJ (dOp zdr (dOp dIx (zn 1) (dOp (dI (fun _ j=>0 < j) fun i j=>i % j) (dOp zaX (zn 2) (dOp zdr (dC (.int 5)) (zn 0))) (dC (.int 26)))) (dOp zaX (dC (.int 1)) (dOp (dI (fun _ j=>0 < j) fun i j=>i % j) (dOp zaX (zn 2) (dOp zdr (dC (.int 3)) (zn 0))) (dC (.int 8)))))) (zm 4)) (zW (zdt (dB (dOp zid (zn 2) (dC (.int 0)))) (zW (zag (ztm znh (dC (.str "")) (ze (zcx [none,some 1,some 3] (zaz (ze (dC (.int 8)) zv)) (zm 0) zaJ (dOp dIx (zn 1) (dOp (dI (fun _ j=>0 < j) fun i j=>i % j) (dOp zaX (zn 2) (dOp zdr (dC (.int 7)) (zn 0))) (dC (.int 26))))) zv)) (zm 5)) (zag (zfU [none,some 5] (zaz (ze (dC (.int 8)) zv)) (zm 0) zaJ (dSl zlv (zn 1) zb7 (zfz (dOp zaX (zn 0) (dC (.int 1)))))) (zm 4))) za5) (zW (zdt (dB (dOp zid (zn 2) (dC (.int 1)))) (zag (zer (ze (dC (.str "part")) (ze (dC (.str "gap")) (ze (dC (.str "cut")) (ze (dC (.str "a")) (ze (dC (.str "aa")) (ze (dC (.str "dear")) (ze (dC (.str "b")) (ze (dC (.str "keeps")) zv))))))))) (zm 4)) za5) (zW (zag (zad 0 2 zy (ze (zn 0) (ze (dC (.int 8)) zv))) (zm 6)) (zW (zag (dOp znW (dSl zlv (zn 4) (zfz (zn 6)) zb7) (dSl zlv (zn 4) zb7 (zfz (zn 6)))) (zm 4)) (zW (zdt (dB (dOp zid (zad 0 2 zy (ze (zn 0) (ze (dC (.int 2)) zv))) (dC (.int 1)))) (zeU (zsf zc4 (zn 4))) za5) (zbh (zn 4))))))))))) (zb3 S.length R) (xs.map some ++ List.replicate 6 none) S
def zc0:PN:=fun xs S R=>(zW (zag (dOp dIx (zdA (ze (zdA (ze (dC (.int 1)) (ze (dUn (dUI fun i=>-i) (dC (.int 1))) (ze (dC (.int 2)) (ze (dUn (dUI fun i=>-i) (dC (.int 2))) (ze (dC (.int 3)) (ze (dUn (dUI fun i=>-i) (dC (.int 3))) zv))))))) (ze (zdA (ze (dC (.int 1)) (ze (dUn (dUI fun i=>-i) (dC (.int 1))) zv))) (ze (zdA (ze (dC (.int 2)) (ze (dUn (dUI fun i=>-i) (dC (.int 2))) zv))) (ze (zdA (ze (dC (.int 3)) (ze (dUn (dUI fun i=>-i) (dC (.int 3))) zv))) (ze (zdA (ze (dC (.int 2)) (ze (dC (.int 3)) (ze (dUn (dUI fun i=>-i) (dC (.int 2))) (ze (dUn (dUI fun i=>-i) (dC (.int 3))) zv))))) (ze (zdA (ze (dC (.int 1)) (ze (dC (.int 3)) (ze (dUn (dUI fun i=>-i) (dC (.int 1))) (ze (dUn (dUI fun i=>-i) (dC (.int 3))) zv))))) zv))))))) (zad 0 2 zy (ze (zn 0) (ze (dC (.int 6)) zv)))) (zm 2)) (zW (zag (zer zv) (zm 3)) (zW (zgA (zaz (ze (dCB zbR (ze (zn 1) zv)) zv)) (zm 4) (zdt (dB (dOp (dIb fun i j=>decide (j < i)) (zad 0 2 zy (ze (zn 0) (ze (dC (.int 3)) zv))) (dC (.int 0)))) (zeU (dBM zdB (zn 3) (ze (zef (ze (zn 4) (ze (dOp dIx (zn 2) (zad 0 2 zy (ze (zn 0) (ze (dCB zbR (ze (zn 2) zv)) zv)))) zv))) zv))) za5)) (zW (zdt (dB (dOp zid (zn 3) (zdA zv))) (zag (zer (ze (zef (ze (zad 0 2 zy (ze (zn 0) (ze (dCB zbR (ze (zn 1) zv)) zv))) (ze (dOp dIx (zn 2) (zad 0 2 zy (ze (zn 0) (ze (dCB zbR (ze (zn 2) zv)) zv)))) zv))) zv)) (zm 3)) za5) (zbh (dCB zfs (ze (zn 3) zv))))))) (zb3 S.length R) (xs.map some ++ List.replicate 3 none) S
def zeG:PN:=fun xs S R=>(zW (zag (zad 0 2 zc0 (ze (zn 0) (ze (zn 1) zv))) (zm 2)) (zW (zag (zaf 2 zdW (ze (zn 1) (ze (zn 2) zv))) (zdq 2 (zan (zm 3) (zan (zm 4) zds)))) (zW (zag (dOp (dI0 fun i j=>i - j) (zn 4) (zn 3)) (zm 5)) (zW (zag (dOp zaX (zn 3) (dOp dIx (zdA (ze (dC (.int 0)) (ze (dC (.int 1)) (ze (dUn (dUI fun i=>-i) (dC (.int 1))) (ze (dOp dFd (zn 5) (dC (.int 2))) (ze (dOp dFd (zn 5) (dC (.int 3))) (ze (dOp zaX (zn 5) (dC (.int 1))) (ze (zn 5) (ze (dOp (dI0 fun i j=>i - j) (zn 5) (dC (.int 1))) zv))))))))) (zad 0 2 zy (ze (zn 0) (ze (dC (.int 8)) zv))))) (zm 6)) (zW (zag (dOp zaX (zn 6) (dOp dIx (zdA (ze (dC (.int 0)) (ze (dC (.int 1)) (ze (dC (.int 2)) (ze (dOp dFd (zn 5) (dC (.int 2))) (ze (zn 5) (ze (dOp zaX (zn 5) (dC (.int 2))) zv))))))) (zad 0 2 zy (ze (zn 0) (ze (dC (.int 6)) zv))))) (zm 7)) (zbh (zef (ze (zn 2) (ze (zn 6) (ze (zn 7) zv)))))))))) (zb3 S.length R) (xs.map some ++ List.replicate 6 none) S
def zd5:PN:=fun xs S R=>(zbh (dCB zpI (ze (zcx [none,none,some 1] (zcQ (dOp dIx (zn 0) (dC (.int 0)))) (zdq 2 (zan (zm 0) (zan (zm 1) zds))) zaJ (dOp zdr (zn 1) (dOp dIx (zn 2) (zn 0)))) zv))) (zb3 S.length R) (xs.map some ++ List.replicate 0 none) S
def zhY:PN:=fun xs S R=>(zbh (zeZ (dIb fun i j=>decide (i <= j)) (dIb fun i j=>decide (i <= j)) (dOp dIx (zn 0) (dC (.int 1))) (zaf 2 zd5 (ze (zn 0) (ze (zn 1) zv))) (dOp dIx (zn 0) (dC (.int 2))))) (zb3 S.length R) (xs.map some ++ List.replicate 0 none) S
def zbi:PN:=fun xs S R=>(zW (zag (zef (ze (dC (.int 0)) (ze (dC (.int 0)) zv))) (zm 2)) (zW (zgA (zcQ (zn 1)) (zdq 2 (zan (zm 3) (zan (zm 4) zds))) (zag (zaf 2 zk8 (ze (zn 2) (ze (zaf 2 zcG (ze (zaf 1 zcv (ze (dOp dIx (zn 0) (zn 3)) zv)) (ze (zn 4) zv))) zv))) (zm 2))) (zbh (zn 2)))) (zb3 S.length R) (xs.map some ++ List.replicate 3 none) S
def zfM:PN:=fun xs S R=>(zW (zdt (dOr (zil (zjp (dCB zov (ze (zn 0) (ze (dO (.ty "tuple")) zv))))) (dB (dOp zo1 (dCB zbR (ze (zn 0) zv)) (dCB zbR (ze (zn 1) zv))))) (zbh (dC (.bool false))) za5) (zbh (zi7 (dCB zrL (ze (zcx [none] (zcQ (zn 0)) (zm 0) zaJ (zaf 1 zbJ (ze (zn 0) zv))) zv)) (dOp zid (zn 0) (dCB zfs (ze (zn 1) zv)))))) (zb3 S.length R) (xs.map some ++ List.replicate 0 none) S
def zgI:PN:=fun xs S R=>(zbh (zaf 2 zbi (ze (zn 0) (ze (dOp dIx (zn 1) (dC (.int 0))) zv)))) (zb3 S.length R) (xs.map some ++ List.replicate 0 none) S
def zgK:PN:=fun xs S R=>(zW (zag (zdA (ze (zef zv) zv)) (zm 1)) (zW (zgA (zcQ (zn 0)) (zdq 3 (zan (zm 2) (zan (zm 3) (zan (zm 4) zds)))) (zW (ztE (zW (zag (zer zv) (zm 5)) (zgA (zcQ (zn 1)) (zm 6) (zeU (dBM zf0 (zn 5) (ze (zcx [none,some 6,some 3] (zaz (ze (dOp zaX (dOp (dI0 fun i j=>i - j) (zn 4) (zn 3)) (dC (.int 1))) zv)) (zm 0) zaJ (dOp zaX (zn 1) (zef (ze (dOp zaX (zn 2) (zn 0)) zv)))) zv)))))) (zag (zn 5) (zm 1)))) (zbh (zn 1)))) (zb3 S.length R) (xs.map some ++ List.replicate 6 none) S
def zeg:PN:=fun xs S R=>(zW (zag (dC (.int 0)) (zm 2)) (zW (zgA (zcQ (dOp dIx (zn 0) (dC (.int 0)))) (zdq 2 (zan (zm 3) (zan (zm 4) zds))) (zag (dOp zaX (zn 2) (dOp zdr (zn 4) (dOp dIx (zn 1) (zn 3)))) (zm 2))) (zbh (zn 2)))) (zb3 S.length R) (xs.map some ++ List.replicate 3 none) S
def zf5:PN:=fun xs S R=>(zW (zag (zad 0 1 zc9 (ze (zn 0) zv)) (zm 2)) (zW (zag (zcx [none,some 0] (zaz (ze (dOp zaX (dC (.int 1)) (zad 0 2 zy (ze (zn 0) (ze (zn 1) zv)))) zv)) (zm 0) zaJ (dOp zaX (dC (.int 1)) (zad 0 2 zy (ze (zn 1) (ze (dC (.int 3)) zv))))) (zm 3)) (zW (zdt (dB (dOp zid (zad 0 2 zy (ze (zn 0) (ze (dC (.int 12)) zv))) (dC (.int 0)))) (zag (dOp dIx (zdA (ze (dOp zdr (zdA (ze (dC (.int 2)) zv)) (dC (.int 8))) (ze (zdA (ze (dC (.int 17)) (ze (dC (.int 17)) zv))) (ze (zdA (ze (dC (.int 300)) zv)) (ze (dOp zdr (zdA (ze (dC (.int 1)) zv)) (dC (.int 8))) zv))))) (zad 0 2 zy (ze (zn 0) (ze (dC (.int 4)) zv)))) (zm 3)) za5) (zW (zag (zer zv) (zm 4)) (zW (zgA (zaz (ze (dCB zbR (ze (zn 3) zv)) zv)) (zm 5) (zW (zag (zad 0 1 zcB (ze (zn 0) zv)) (zm 6)) (zeU (dBM zdB (zn 4) (ze (zef (ze (dOp dIx (zn 2) (zn 5)) (ze (zn 6) (ze (dOp (dI0 fun i j=>i - j) (dOp zaX (zn 6) (dOp dIx (zn 3) (zn 5))) (dC (.int 1))) zv)))) zv))))) (zbh (dCB zfs (ze (zn 4) zv)))))))) (zb3 S.length R) (xs.map some ++ List.replicate 5 none) S
def zeF:PN:=fun xs S R=>(zW (zag (dC (.int 0)) (zm 2)) (zW (zag (dC (.int 0)) (zm 3)) (zW (zgA (zcQ (zn 1)) (zdq 2 (zan (zm 4) (zan (zm 5) zds))) (zW (zag (zdA (ze (dOp zdr (zn 5) (dOp dIx (dOp dIx (zn 0) (zn 4)) (dC (.int 1)))) (ze (dOp zdr (zn 5) (dOp dIx (dOp dIx (zn 0) (zn 4)) (dC (.int 2)))) zv))) (zm 6)) (zW (zag (dOp zaX (zn 2) (dCB zlX (ze (zn 6) zv))) (zm 2)) (zag (dOp zaX (zn 3) (dCB zst (ze (zn 6) zv))) (zm 3))))) (zbh (zef (ze (zn 2) (ze (zn 3) zv))))))) (zb3 S.length R) (xs.map some ++ List.replicate 5 none) S
def zdy:PN:=fun xs S R=>(zW (zag (zdA (ze (zef zv) zv)) (zm 1)) (zW (zgA (zcQ (zn 0)) (zdq 3 (zan (zm 2) (zan (zm 3) (zan (zm 4) zds)))) (zW (ztE (zW (zag (zer zv) (zm 5)) (zgA (zcQ (zn 1)) (zm 6) (zeU (dBM zf0 (zn 5) (ze (zcx [none,some 6,some 3] (zaz (ze (dOp zaX (dOp (dI0 fun i j=>i - j) (zn 4) (zn 3)) (dC (.int 1))) zv)) (zm 0) zaJ (dOp zaX (zn 1) (zef (ze (dOp zaX (zn 2) (zn 0)) zv)))) zv)))))) (zag (zn 5) (zm 1)))) (zbh (zn 1)))) (zb3 S.length R) (xs.map some ++ List.replicate 6 none) S
def zec:PN:=fun xs S R=>(zW (zag (dC (.int 0)) (zm 2)) (zW (zgA (zcQ (dOp dIx (zn 0) (dC (.int 0)))) (zdq 2 (zan (zm 3) (zan (zm 4) zds))) (zag (dOp zaX (zn 2) (dOp zdr (zn 4) (dOp dIx (zn 1) (zn 3)))) (zm 2))) (zbh (zn 2)))) (zb3 S.length R) (xs.map some ++ List.replicate 3 none) S
def zam:PN:=fun xs S R=>(zbh (dCB zpI (ze (zcx [none,none,some 1,some 2] (ze3 (zn 0)) (zdq 2 (zan (zm 0) (zan (zm 1) zds))) (dB (zeZ (dIb fun i j=>decide (i <= j)) (dIb fun i j=>decide (i <= j)) (dOp dIx (zn 2) (dC (.int 1))) (dOp zaX (zn 3) (zn 0)) (dOp dIx (zn 2) (dC (.int 2))))) (zn 1)) zv))) (zb3 S.length R) (xs.map some ++ List.replicate 0 none) S
def zch:PN:=fun xs S R=>(zW (zdt (dB (dOp zid (zn 2) (dC (.int 0)))) (zbh (zhx (ze (zcx [none,none,some 1] (ze3 (zn 0)) (zdq 2 (zan (zm 0) (zan (zm 1) zds))) zaJ (zef (ze (zn 0) (ze (dOp zdr (zn 1) (zaf 1 zcR (ze (zn 2) zv))) zv)))) zv))) za5) (zW (zun (zmc true 3 (.k []) (zmA (fun M=>(ze7 (ze (dOp dIx (zn 1) (dC (.int 0))) (ze (dOp zaX (dOp dIx (zn 1) (dC (.int 1))) (dC (.int 1))) zv)))) (zm 4) (zmA (fun M=>(ze3 (zn 0))) (zdq 2 (zan (zm 5) (zan (zm 6) zds))) (zo5 (zi5 (zag (dOp zaX (zn 5) (dOp zdr (zn 2) (zn 4))) (zm 7))) (zo8 3 (fun M=>(zn 7)) (fun M=>(dOp zaX (zhu M (zn 3) (zn 7) (dC (.int 0))) (zn 6))))))))) (zbh (zn 3)))) (zb3 S.length R) (xs.map some ++ List.replicate 5 none) S
def zcY:PN:=fun xs S R=>(zbh (zeZ (dIb fun i j=>decide (i <= j)) (dIb fun i j=>decide (i <= j)) (dOp dIx (zn 0) (dC (.int 1))) (zaf 2 zeg (ze (zn 0) (ze (zn 1) zv))) (dOp dIx (zn 0) (dC (.int 2))))) (zb3 S.length R) (xs.map some ++ List.replicate 0 none) S
def zbQ:PN:=fun xs S R=>(zW (zag (zaf 1 zcR (ze (zaf 2 zgI (ze (zn 0) (ze (zn 1) zv))) zv)) (zm 2)) (zW (zdt (dB (dOp (dIb fun i j=>decide (j < i)) (zn 2) (dC (.int 400)))) zho za5) (zW (zag (zf8 (ze (dOp dIx (zn 1) (dC (.int 0))) zv)) (zm 3)) (zW (zag (zer (ze (dC (.dict [(.int 0,.int 1)])) zv)) (zm 4)) (zW (zgA (zi4 (ze (dOp (dI0 fun i j=>i - j) (dCB zbR (ze (zn 0) zv)) (dC (.int 1))) (ze (dUn (dUI fun i=>-i) (dC (.int 1))) (ze (dUn (dUI fun i=>-i) (dC (.int 1))) zv)))) (zm 5) (zeU (dBM zdB (zn 4) (ze (zaf 3 zch (ze (dOp dIx (zn 4) (dUn (dUI fun i=>-i) (dC (.int 1)))) (ze (zaf 1 zcv (ze (dOp dIx (zn 0) (zn 5)) zv)) (ze (zhu [] (zn 3) (zn 5) (dC (.int 0))) zv)))) zv)))) (zW (zeU (zsf zc4 (zn 4))) (zbh (zn 4)))))))) (zb3 S.length R) (xs.map some ++ List.replicate 4 none) S
def zau:PN:=fun xs S R=>(zbh (dCB zpI (ze (zcx [none,none,some 1] (zcQ (dOp dIx (zn 0) (dC (.int 0)))) (zdq 2 (zan (zm 0) (zan (zm 1) zds))) (dB (dOp (dIb fun i j=>decide (i < j)) (zn 0) (dCB zbR (ze (zn 2) zv)))) (dOp zdr (zn 1) (dOp dIx (zn 2) (zn 0)))) zv))) (zb3 S.length R) (xs.map some ++ List.replicate 0 none) S
def zbH:PN:=fun xs S R=>(zW (zag (dCB zbR (ze (zn 2) zv)) (zm 5)) (zW (zag (zaf 1 zcv (ze (dOp dIx (zn 0) (zn 5)) zv)) (zm 6)) (zW (zag (zf8 (ze (dOp dIx (zn 1) (dC (.int 0))) zv)) (zm 7)) (zW (zag (zaf 2 zau (ze (zn 1) (ze (zn 2) zv))) (zm 8)) (zW (zdt (dB (dOp (zs1 [] true) (zn 5) (zn 7))) (zbh (dOp zaX (dOp dIx (zn 6) (dC (.int 0))) (dOp dFd (zn 4) (zaf 3 zam (ze (zn 3) (ze (zn 1) (ze (zn 8) zv))))))) za5) (zgA (ze7 (ze (dOp dIx (zn 6) (dC (.int 0))) (ze (dOp zaX (dOp dIx (zn 6) (dC (.int 1))) (dC (.int 1))) zv))) (zm 9) (zW (zag (zaf 3 zam (ze (zn 3) (ze (zn 1) (ze (dOp zaX (zn 8) (dOp zdr (znJ [] (zn 7) (zn 5)) (zn 9))) zv)))) (zm 10)) (zW (zdt (dB (dOp (dIb fun i j=>decide (i < j)) (zn 4) (zn 10))) (zbh (zn 9)) za5) (zag (dOp (dI0 fun i j=>i - j) (zn 4) (zn 10)) (zm 4)))))))))) (zb3 S.length R) (xs.map some ++ List.replicate 6 none) S
def zaK:PN:=fun xs S R=>(zW (zag (dOp (dI0 fun i j=>i - j) (dCB zbR (ze (zn 2) zv)) (dC (.int 1))) (zm 4)) (zW (zag (dOp dIx (dOp dIx (zn 0) (zn 4)) (dC (.int 1))) (zm 5)) (zW (zag (zf8 (ze (dOp dIx (zn 1) (dC (.int 0))) zv)) (zm 6)) (zW (zag (zaf 2 zau (ze (zn 1) (ze (dSl zlv (zn 2) zb7 (zfz (zn 4))) zv))) (zm 7)) (zW (zdt (dB (dOp (zs1 [] true) (zn 4) (zn 6))) (zbh (dOp zdr (dOp (dI0 fun i j=>i - j) (dOp dIx (zn 2) (zn 4)) (zn 5)) (zaf 3 zam (ze (zn 3) (ze (zn 1) (ze (zn 7) zv)))))) za5) (zbh (dCB zpI (ze (zcx [none,some 3,some 1,some 7,some 6,some 4] (ze7 (ze (zn 5) (ze (dOp dIx (zn 2) (zn 4)) zv))) (zm 0) zaJ (zaf 3 zam (ze (zn 1) (ze (zn 2) (ze (dOp zaX (zn 3) (dOp zdr (znJ [] (zn 4) (zn 5)) (zn 0))) zv))))) zv)))))))) (zb3 S.length R) (xs.map some ++ List.replicate 4 none) S
def zcD:PX:=fun xs S R EX=>(zW (zag (zaf 1 zcR (ze (zaf 2 zgI (ze (zn 0) (ze (zn 1) zv))) zv)) (zm 2)) (zW (zdt (dB (dOp (dIb fun i j=>decide (j < i)) (zn 2) (dC (.int 400)))) (zhV EX 180 ["many","most"] (ze (zn 2) (ze (dC (.int 400)) zv))) za5) (zW (zag (zf8 (ze (dOp dIx (zn 1) (dC (.int 0))) zv)) (zm 3)) (zW (zag (zer (ze (dC (.dict [(.int 0,.int 1)])) zv)) (zm 4)) (zW (zgA (zi4 (ze (dOp (dI0 fun i j=>i - j) (dCB zbR (ze (zn 0) zv)) (dC (.int 1))) (ze (dUn (dUI fun i=>-i) (dC (.int 1))) (ze (dUn (dUI fun i=>-i) (dC (.int 1))) zv)))) (zm 5) (zeU (dBM zdB (zn 4) (ze (zaf 3 zch (ze (dOp dIx (zn 4) (dUn (dUI fun i=>-i) (dC (.int 1)))) (ze (zaf 1 zcv (ze (dOp dIx (zn 0) (zn 5)) zv)) (ze (zhu [] (zn 3) (zn 5) (dC (.int 0))) zv)))) zv)))) (zW (zeU (zsf zc4 (zn 4))) (zbh (zn 4)))))))) (zb3 S.length R) (xs.map some ++ List.replicate 4 none) S
def zpq:PN:=fun xs S R=>(zW (zag (zaf 2 zbQ (ze (zn 0) (ze (zn 1) zv))) (zm 3)) (zW (zdt (dOr (zil (zjp (zaf 1 zcd (ze (zn 2) zv)))) (zil (dB (zeZ (dIb fun i j=>decide (i <= j)) (dIb fun i j=>decide (i < j)) (dC (.int 0)) (zn 2) (zaf 3 zam (ze (dOp dIx (zn 3) (dC (.int 0))) (ze (zn 1) (ze (dC (.int 0)) zv)))))))) zho za5) (zW (zag (zef zv) (zm 4)) (zW (zag (zn 2) (zm 5)) (zW (zgA (zaz (ze (dCB zbR (ze (zn 0) zv)) zv)) (zm 6) (zW (zag (zaf 5 zbH (ze (zn 0) (ze (zn 1) (ze (zn 4) (ze (dOp dIx (zn 3) (dOp zaX (zn 6) (dC (.int 1)))) (ze (zn 5) zv)))))) (zm 7)) (zW (zag (dOp zaX (zn 4) (zef (ze (zn 7) zv))) (zm 4)) (zag (dOp (dI0 fun i j=>i - j) (zn 5) (zaf 4 zaK (ze (zn 0) (ze (zn 1) (ze (zn 4) (ze (dOp dIx (zn 3) (dOp zaX (zn 6) (dC (.int 1)))) zv)))))) (zm 5))))) (zbh (zn 4))))))) (zb3 S.length R) (xs.map some ++ List.replicate 5 none) S
def zoJ:PX:=fun xs S R EX=>(zW (zag (zkr EX 2 zcD (ze (zn 0) (ze (zn 1) zv))) (zm 3)) (zW (zdt (dOr (zil (zjp (zaf 1 zcd (ze (zn 2) zv)))) (zil (dB (zeZ (dIb fun i j=>decide (i <= j)) (dIb fun i j=>decide (i < j)) (dC (.int 0)) (zn 2) (zaf 3 zam (ze (dOp dIx (zn 3) (dC (.int 0))) (ze (zn 1) (ze (dC (.int 0)) zv)))))))) (zhH EX 61) za5) (zW (zag (zef zv) (zm 4)) (zW (zag (zn 2) (zm 5)) (zW (zgA (zaz (ze (dCB zbR (ze (zn 0) zv)) zv)) (zm 6) (zW (zag (zaf 5 zbH (ze (zn 0) (ze (zn 1) (ze (zn 4) (ze (dOp dIx (zn 3) (dOp zaX (zn 6) (dC (.int 1)))) (ze (zn 5) zv)))))) (zm 7)) (zW (zag (dOp zaX (zn 4) (zef (ze (zn 7) zv))) (zm 4)) (zag (dOp (dI0 fun i j=>i - j) (zn 5) (zaf 4 zaK (ze (zn 0) (ze (zn 1) (ze (zn 4) (ze (dOp dIx (zn 3) (dOp zaX (zn 6) (dC (.int 1)))) zv)))))) (zm 5))))) (zbh (zn 4))))))) (zb3 S.length R) (xs.map some ++ List.replicate 5 none) S
def zc5:PN:=fun xs S R=>(zW (zag (zaf 2 zbQ (ze (zn 0) (ze (zn 1) zv))) (zm 3)) (zW (zdt (dOr (zil (zjp (zaf 2 zfI (ze (zn 0) (ze (zn 2) zv))))) (zil (zjp (zaf 2 zhY (ze (zn 1) (ze (zn 2) zv)))))) zho za5) (zbh (dCB zpI (ze (zcx [none,some 0,some 1,some 2,some 3] (zaz (ze (dCB zbR (ze (zn 0) zv)) zv)) (zm 0) zaJ (zaf 4 zaK (ze (zn 1) (ze (zn 2) (ze (dSl ztz (zn 3) zb7 (zfz (dOp zaX (zn 0) (dC (.int 1))))) (ze (dOp dIx (zn 4) (dOp zaX (zn 0) (dC (.int 1)))) zv)))))) zv))))) (zb3 S.length R) (xs.map some ++ List.replicate 1 none) S
def zbf:PN:=fun xs S R=>(zW (zu2 knD 3 zoJ (ze (zn 0) (ze (zn 1) (ze (zn 2) zv))) 3 (zbh (dOp zid (zk2 zdV (ze (zn 3) zv)) (dC (.str "set"))))) (zbh (dC (.bool false)))) (zb3 S.length R) (xs.map some ++ List.replicate 1 none) S
def za0:PN:=fun xs S R=>(zW (zag (zcx [none,some 1] (zcQ (zaf 1 zgK (ze (zn 0) zv))) (zm 0) (zjp (zaf 2 zcY (ze (zn 1) (ze (zn 0) zv)))) (zn 0)) (zm 3)) (zW (zag (dCB zbR (ze (zn 3) zv)) (zm 4)) (zW (zgA (zcQ (dOp zaX (zdA (ze (dC (.int 0)) (ze (dOp (dI0 fun i j=>i - j) (zn 4) (dC (.int 1))) (ze (dOp dFd (zn 4) (dC (.int 2))) zv)))) (zcx [none,some 4] (zcQ (zn 2)) (zm 0) zaJ (dOp (dI (fun _ j=>0 < j) fun i j=>i % j) (zn 0) (dCB (dI2 fun i j=>if j > i then j else i) (ze (dC (.int 1)) (ze (zn 1) zv))))))) (zm 5) (zdt (dB (dOp (dIb fun i j=>decide (j < i)) (zn 4) (dC (.int 0)))) (zW (zag (zaf 3 zc5 (ze (zn 0) (ze (zn 1) (ze (dOp dIx (zn 3) (zn 5)) zv)))) (zm 6)) (zdt (dOr (zil (zjp (zaf 2 zfM (ze (zaf 3 zpq (ze (zn 0) (ze (zn 1) (ze (zn 5) zv)))) (ze (dOp dIx (zn 3) (zn 5)) zv))))) (dOr (zil (zjp (zaf 1 zbJ (ze (zn 6) zv)))) (dB (dOp zo1 (zn 6) (zn 5))))) (zbh (dC (.bool false))) za5)) za5)) (zW (zag (zdA (ze (zn 4) (ze (dUn (dUI fun i=>-i) (dC (.int 1))) (ze (dOp zaX (dOp zaX (zn 4) (dC (.int 1))) (dOp (dI CPow fun i j=>i ^ j.toNat) (dOp dIx (zn 2) (dC (.int 0))) (dC (.int 3)))) (ze (dOp (dI0 fun i j=>i - j) (dUn (dUI fun i=>-i) (dC (.int 2))) (dOp dIx (zn 2) (dC (.int 1)))) (ze (dC (.bool true)) (ze (dC (.bool false)) (ze (dC .none) (ze (dC (.str "0")) (ze (zef (ze (dC (.int 0)) zv)) (ze (zdA (ze (dC (.int 0)) zv)) (ze (dC (.dict [])) zv)))))))))))) (zm 7)) (zbh (dCB zrL (ze (zcx [none,some 0,some 1] (zcQ (zn 7)) (zm 0) zaJ (zaf 3 zbf (ze (zn 1) (ze (zn 2) (ze (zn 0) zv))))) zv))))))) (zb3 S.length R) (xs.map some ++ List.replicate 5 none) S
def zjw:DS:=(zdt (zil (zjp (zaf 3 za0 (ze (zef (ze (zef (ze (dC (.str "a")) (ze (dC (.int 0)) (ze (dC (.int 0)) zv)))) zv)) (ze (zef (ze (zef (ze (zef (ze (dC (.int 0)) (ze (dC (.int 1)) zv))) zv)) (ze (dC (.int 0)) (ze (dC (.int 0)) zv)))) (ze (zdA (ze (dC (.int 0)) (ze (dC (.int 0)) zv))) zv)))))) (zbh (dC (.bool false))) za5)
def zry:DS:=(zW (zag (zaf 1 zgd (ze (zn 1) zv)) (zm 2)) (zW (zag (zad 0 2 zf5 (ze (zn 2) (ze (dC (.int 4)) zv))) (zm 3)) (zW (zag (zad 0 2 zeG (ze (zn 2) (ze (zn 3) zv))) (zm 4)) (zW (zag (zcx [none,some 2] (zaz (ze (dC (.int 4)) zv)) (zm 0) zaJ (zad 0 2 zy (ze (zn 1) (ze (dOp (dI CPow fun i j=>i ^ j.toNat) (dC (.int 10)) (dC (.int 6))) zv)))) (zm 5)) (zW (zag (zaf 2 zdW (ze (zn 3) (ze (dOp dIx (zn 4) (dC (.int 0))) zv))) (zdq 2 (zan (zm 6) (zan (zm 7) zds)))) (zgA (zaz (ze (dC (.int 2)) zv)) (zm 8) (zdt (zu1 (dB (dOp (dIb fun i j=>decide (i < j)) (dOp (dI0 fun i j=>i - j) (zn 7) (zn 6)) (dC (.int 400)))) (zil (zjp (zaf 3 za0 (ze (zn 3) (ze (zn 4) (ze (zn 5) zv))))))) (zbh (dC (.bool false))) za5)))))))
end My
namespace My
open PySem L2
theorem seq1 {t u:DS} {E:DEnds} {δ:XE} {S:Sto} (h:t { E with nx:=u E } δ S):zW t u E δ S:=h
theorem seqm {t u:DSm} {E:DEndsM} {δ:XE} {S:Sto} {M:DM} (h:t { E with nx:=u E } δ S M):zo5 t u E δ S M:=h
theorem cut {t u:DS} {E:DEnds} {δ:XE} {S:Sto} (I:XE->Sto->Prop) (h1:∀ N:XE->Sto->Prop,(∀ δ' S',I δ' S'->N δ' S')->t { E with nx:=N } δ S) (h2:∀ δ' S',I δ' S'->u E δ' S'):zW t u E δ S:=h1 _ h2
theorem zjM (i j:Int):PyData.eqv (.int i) (.int j) = decide (i = j):=rfl
theorem zkh (i j:Bool):PyData.eqv (.bool i) (.bool j) = decide (i = j):=by cases i <;> cases j <;> rfl
theorem zuI (i:Int):SeqAt.shaped (.int i) = true:=rfl
theorem zuy (i:Bool):SeqAt.shaped (.bool i) = true:=rfl
theorem znm:("int" ∈ znj) = True:=eq_true (by decide)
theorem zj4:("bool" ∈ znj) = True:=eq_true (by decide)
theorem ziQ:("tuple" ∈ znj) = True:=eq_true (by decide)
theorem zld:("list" ∈ znj) = True:=eq_true (by decide)
theorem znu:("str" ∈ znj) = True:=eq_true (by decide)
theorem zkQ:("dict" ∈ znj) = True:=eq_true (by decide)
theorem zth:SeqAt.shaped .none = true:=rfl
end My
namespace My
open PySem L2
local macro_rules | `(tactic| walk_at "d")=>`(tactic| (try simp -implicitDefEqProofs only [zag,zvR,zhx,zi4,zf8,zs9,zuB,zqZ,zmJ,zsF,XV.flat,List.all_cons,List.all_nil,Bool.and_self,znG,zp9,zu2,knD,knT,zhH,zhV,dXA,zkr,zud,zuG,knA,knR,zun,zmc,zi5,zwg,zuM,zqy,zuE,zmA,zo8,znJ,zhu,zs1,zpU,ze3,zt0,zv3,zvV,zk2,zhD,zs5,zrb,zuH,ztk,ztt,zvJ,zsK,zwk,zq3,zqB,zvL,zsW,zsE,zpP,zqQ,zqR,zqW,zg6,zkH,zij,zqc,zuU,zwc,ztz,zsI,zmC,zm,zn,dC,dO,dOp,dUn,zv,ze,dCB,zef,zdA,zer,dB,zil,zu1,dOr,zi7,zwj,zl9,dIf,zeZ,dI,dI0,dIb,dUI,zid,zo1,zvF,zul,zuf,zuT,zuC,ztM,zpM,zpT,zqe,zqL,zqu,zqz,zpy,zou,zmv,zno,zqX,zpO,zqA,dFd,zjp,zqC,zqK,zqq,zqg,zqn,zq5,zb7,zfz,dSl,zbR,zkb,zpQ,zp6,zov,zvM,znI,dI2,zfs,zqm,zmi,dBM,zsf,ztm,zt7,zdB,zc4,zf0,zv4,znh,zlc,znW,zwf,zpI,zrL,zvO,zvG,zaf,zad,zqV,zqs,zi8,zha,ztU,ztl,zs8,zs6,zlh,zj7,zkC,zki,zuR,zsG,zup,zuA,asL,zqT,zp0,zuN,zuK,zux,zta,zon,znw,zsH,zpX,zpK,zqD,zqt,ztv,ztT,znX,zot,zq6,zqI,zq9,zql,zqJ,zbh,zsO,zdt,zeU,za5,zrc,zsZ,zho,zvN,zuF,zgA,zcQ,zp1,zpJ,zaz,ze7,znH,zkq,zq8,zp2,zdq,zan,ztO,zuV,ztx,ztB,zsU,ztc,zds,znn,zcx,zfU,zaJ,zqH,ztE,ztA,zsJ,zut,zs4,zfe,zkg,zk5,zkm,zkf,zjh,zhf,List.replicate,List.map_cons,List.map_nil,Option.map_some,Option.bind_some,Option.bind_none,Option.join_some,List.getElem?_cons_zero,List.getElem?_cons_succ,List.set_cons_zero,List.set_cons_succ,List.take_succ_cons,List.take_zero,List.take_nil,List.length_cons,List.length_nil,List.nil_append,List.cons_append,Option.some.injEq,exists_eq_left',exists_eq_left,List.cons.injEq,XV.d.injEq,XV.l.injEq,XV.o.injEq,PyData.int.injEq,PyData.list.injEq,PyData.tuple.injEq,PyData.bool.injEq,PyData.str.injEq,and_true,true_and,decide_eq_true_eq,Bool.not_true,Bool.not_false,Bool.false_eq_true,Bool.true_eq_false,not_true_eq_false,not_false_eq_true,↓reduceIte,decide_true,decide_false,Bool.not_eq_true',zpg,decide_eq_false_iff_not,Nat.reduceAdd,Nat.reduceMul,Nat.zero_add,Nat.reduceLT,Nat.reduceLeDiff,Nat.reduceEqDiff,Int.reduceLT,Int.reduceLE,Int.reduceNeg,Int.reducePow,Int.reduceToNat,Int.reduceEq,Int.reduceAdd,Int.reduceSub,Int.reduceMul,Nat.le_refl,Nat.zero_le,List.length_append,List.length_map,zjM,zkh,zuI,zuy,zth,List.isEmpty_nil,List.isEmpty_cons,Int.cast_ofNat_Int,Int.natCast_zero,Int.natCast_one,znm,zj4,ziQ,zld,znu,zkQ,zn8,zkd,ziJ,zkz,znq,zvH,znN,zmp,zvI,zuL,zq0]))
local macro_rules | `(tactic| walk_at "e")=>`(tactic| (try simp -implicitDefEqProofs only [zW,zag,zvR,zhx,zi4,zf8,zs9,zuB,zqZ,zmJ,zsF,XV.flat,List.all_cons,List.all_nil,Bool.and_self,znG,zp9,zu2,knD,knT,zhH,zhV,dXA,zkr,zud,zuG,knA,knR,zun,zmc,zi5,zo5,zwg,zuM,zqy,zuE,zmA,zo8,znJ,zhu,zs1,zpU,ze3,zt0,zv3,zvV,zk2,zhD,zs5,zrb,zuH,ztk,ztt,zvJ,zsK,zwk,zq3,zqB,zvL,zsW,zsE,zpP,zqQ,zqR,zqW,zg6,zkH,zij,zqc,zuU,zwc,ztz,zsI,zmC,zm,zn,dC,dO,dOp,dUn,zv,ze,dCB,zef,zdA,zer,dB,zil,zu1,dOr,zi7,zwj,zl9,dIf,zeZ,dI,dI0,dIb,dUI,zid,zo1,zvF,zul,zuf,zuT,zuC,ztM,zpM,zpT,zqe,zqL,zqu,zqz,zpy,zou,zmv,zno,zqX,zpO,zqA,dFd,zjp,zqC,zqK,zqq,zqg,zqn,zq5,zb7,zfz,dSl,zbR,zkb,zpQ,zp6,zov,zvM,znI,dI2,zfs,zqm,zmi,dBM,zsf,ztm,zt7,zdB,zc4,zf0,zv4,znh,zlc,znW,zwf,zpI,zrL,zvO,zvG,zaf,zad,zqV,zqs,zi8,zha,ztU,ztl,zs8,zs6,zlh,zj7,zkC,zki,zuR,zsG,zup,zuA,asL,zqT,zp0,zuN,zuK,zux,zta,zon,znw,zsH,zpX,zpK,zqD,zqt,ztv,ztT,znX,zot,zq6,zqI,zq9,zql,zqJ,zbh,zsO,zdt,zeU,za5,zrc,zsZ,zho,zvN,zuF,zgA,zcQ,zp1,zpJ,zaz,ze7,znH,zkq,zq8,zp2,zdq,zan,ztO,zuV,ztx,ztB,zsU,ztc,zds,znn,zcx,zfU,zaJ,zqH,ztE,ztA,zsJ,zut,zs4,zfe,zkg,zk5,zkm,zkf,zjh,zhf,List.replicate,List.map_cons,List.map_nil,Option.map_some,Option.bind_some,Option.bind_none,Option.join_some,List.getElem?_cons_zero,List.getElem?_cons_succ,List.set_cons_zero,List.set_cons_succ,List.take_succ_cons,List.take_zero,List.take_nil,List.length_cons,List.length_nil,List.nil_append,List.cons_append,Option.some.injEq,exists_eq_left',exists_eq_left,List.cons.injEq,XV.d.injEq,XV.l.injEq,XV.o.injEq,PyData.int.injEq,PyData.list.injEq,PyData.tuple.injEq,PyData.bool.injEq,PyData.str.injEq,and_true,true_and,decide_eq_true_eq,Bool.not_true,Bool.not_false,Bool.false_eq_true,Bool.true_eq_false,not_true_eq_false,not_false_eq_true,↓reduceIte,decide_true,decide_false,Bool.not_eq_true',zpg,decide_eq_false_iff_not,Nat.reduceAdd,Nat.reduceMul,Nat.zero_add,Nat.reduceLT,Nat.reduceLeDiff,Nat.reduceEqDiff,Int.reduceLT,Int.reduceLE,Int.reduceNeg,Int.reducePow,Int.reduceToNat,Int.reduceEq,Int.reduceAdd,Int.reduceSub,Int.reduceMul,Nat.le_refl,Nat.zero_le,List.length_append,List.length_map,zjM,zkh,zuI,zuy,zth,List.isEmpty_nil,List.isEmpty_cons,Int.cast_ofNat_Int,Int.natCast_zero,Int.natCast_one,znm,zj4,ziQ,zld,znu,zkQ,zn8,zkd,ziJ,zkz,znq,zvH,znN,zmp,zvI,zuL,zq0]))
section
variable {R:RX}
theorem zfX {n:Int} (q:∀ m,0 <= m->R (.d (.int m)) []):zcS [.d (.int n)] [] R:=by
 unfold zcS
 walk_at "e"
 have h1:=Int.emod_nonneg (n + 7919) (show (2147483647:Int) ≠ 0 by decide)
 have h2:=Int.emod_lt_of_pos (n + 7919) (show (0:Int) < 2147483647 by decide)
 exact ⟨zcE (by omega) (by omega),zcE (by decide) (by decide),q _ (Int.emod_nonneg _ (by decide))⟩
theorem zM {p:List PyData} {n:Int} (hp:zbb p) (hn:0 < n) (hb:n.natAbs.log2 < 9000) (q:∀ r p',0 <= r->r < n->zbb p'->R (.d (.int r)) [p']):zy [.l 0,.d (.int n)] [p] R:=by
 obtain ⟨l,g,sd,rfl,hl⟩:=hp
 unfold zy
 walk_at "e"
 split
 ·refine ⟨hn,.inl ⟨⟨hn,hb⟩,0,rfl,?_⟩⟩
  walk_at "e"
  exact q _ _ (Int.emod_nonneg _ (by omega)) (Int.emod_lt_of_pos _ hn) ⟨_,_,_,rfl,Int.ediv_nonneg hl (by omega)⟩
 ·refine zfX fun m _=>?_
  walk_at "e"
  refine zfX fun m' h'=>?_
  walk_at "e"
  refine ⟨2,rfl,?_⟩
  walk_at "e"
  exact .inl ⟨⟨by decide,by decide +kernel⟩,hn,q _ _ (Int.emod_nonneg _ (by omega)) (Int.emod_lt_of_pos _ hn) ⟨_,_,_,rfl,hl⟩⟩
theorem zhG {n:Int} (q:∀ p,zbb p->R (.l 0) [p]):zfo [.d (.int n)] [] R:=by
 unfold zfo
 walk_at "e"
 refine ⟨⟨by decide,by decide,by decide⟩,?_⟩
 refine .inr (q _ ⟨_,_,_,rfl,?_⟩)
 split <;> omega
theorem zlp {n:Int} (q:∀ p,zbb p->R (.l 0) [p]):zgd [.d (.int n)] [] R:=zhG q
theorem zfy {p:List PyData} (hp:zbb p) (q:∀ r p',-10 ^ 58 <= r->r <= 10 ^ 58->zbb p'->R (.d (.int r)) [p']):zdR [.l 0] [p] R:=by
 unfold zdR
 walk_at "e"
 refine zM hp (by decide) (by decide +kernel) fun r p1 r0 r1 hp1=>?_
 walk_at "e"
 split
 ·refine zM hp1 (by decide) (by decide +kernel) fun r p2 r0 r1 hp2=>?_
  walk_at "e"
  exact q _ _ (by omega) (by omega) hp2
 ·split
  ·refine zM hp1 (by decide) (by decide +kernel) fun r p2 r0 r1 hp2=>?_
   walk_at "e"
   exact q _ _ (by omega) (by omega) hp2
  ·refine ⟨⟨by decide,by decide,by decide⟩,zcE (by decide) (by decide),?_⟩
   have k1:(10:Int) ^ 30 = 1000000000000000000000000000000:=by decide +kernel
   have k2:(10:Int) ^ 28 = 10000000000000000000000000000:=by decide +kernel
   refine zM hp1 (by decide +kernel) (by decide +kernel) fun r p2 r0 r1 hp2=>?_
   walk_at "e"
   try simp only [k1,k2] at r1 ⊢
   refine ⟨⟨by decide,by decide,by decide⟩,⟨by decide,by decide,by decide⟩,zrF 128 128 (by omega) (by decide +kernel),q _ _ (by omega) (by omega) hp2⟩
theorem zic {p:List PyData} (hp:zbb p) (q:∀ r p',-10 ^ 58 <= r->r <= 10 ^ 58->zbb p'->R (.d (.int r)) [p']):zcB [.l 0] [p] R:=zfy hp q
end
section
variable {R:RX}
theorem ztf {α:Type} [Inhabited α] {l:List α} {i:Int} (h0:0 <= i) (h1:i < l.length) (d:α):atI l i = some (l.getD i.toNat d):=by
 obtain ⟨k,rfl⟩:=Int.eq_ofNat_of_zero_le h0
 have hk:k < l.length:=by omega
 rw [zct (List.getElem?_eq_getElem hk)]
 simp [List.getD_eq_getElem?_getD,hk]
theorem zkL:("abcdefghijklmnopqrstuvwxyz":Str).length = 26:=by decide
theorem zoB:("abcdefghijklmnopqrstuvwxyz":Str).cps.toList.length = 26:=by rw [<- zkL]; simp [Str.length]
theorem ziR:("abcdefghijklmnopqrstuvwxyz":Str).length <= sizeLine:=Nat.le_of_lt (small1000 (by rw [zkL]; decide))
theorem len1 (c:Nat):(⟨#[c]⟩:Str).length = 1:=rfl
abbrev lsgn (i:Int):Str:=⟨#[("abcdefghijklmnopqrstuvwxyz":Str).cps.toList.getD i.toNat 0]⟩
theorem zmV {i:Int} (h0:0 <= i) (h1:i < 26):atI ("abcdefghijklmnopqrstuvwxyz":Str).cps.toList i = some (("abcdefghijklmnopqrstuvwxyz":Str).cps.toList.getD i.toNat 0):=ztf h0 (by rw [zoB]; exact h1) 0
theorem zmM {ds:List PyData} {a b:Option Int} {d:PyData} (m:d ∈ zeb ds a b):d ∈ ds:=by
 unfold zeb at m
 exact List.mem_of_mem_drop (List.mem_of_mem_take m)
def zeN (z:Str):Bool:=decide (z.length <= 100) && PyData.strOk z && !decide (z = "zy")
theorem zuz:∀ f < 26,∀ k < 8,zeN (PySem.Txt.mul (lsgn (((f:Nat) + 5 * (0 + ((k:Nat):Int))) % 26)) (1 + ((f:Nat) + 3 * (0 + ((k:Nat):Int))) % 8)) = true:=by decide +kernel
theorem zuS:∀ f < 26,∀ k < 8,zeN (PySem.Txt.slice (PySem.Txt.join "" ((List.range 8).map fun k:Nat=>lsgn (((f:Nat) + 7 * (0 + (k:Int))) % 26))) none (some (0 + ((k:Nat):Int) + 1))) = true:=by decide +kernel
theorem zrH {ds:List PyData} (h:∀ d ∈ ds,∃ z:Str,d = .str z/\zeN z = true):∃ zs:List Str,ds = zs.map PyData.str/\zs.length = ds.length/\∀ z ∈ zs,zeN z = true:=by
 induction ds with
 | nil=>exact ⟨[],rfl,rfl,by simp⟩
 | cons d ds ih =>
  obtain ⟨z,rfl,hz⟩:=h d List.mem_cons_self
  obtain ⟨zs,rfl,hl,hzs⟩:=ih fun d m=>h d (List.mem_cons_of_mem _ m)
  refine ⟨z :: zs,rfl,by simp,fun y m=>?_⟩
  rcases List.mem_cons.mp m with rfl | m
  ·exact hz
  ·exact hzs y m
theorem znl (a b:Str):(a ++ b).length = a.length + b.length:=strLen_append a b
theorem zjo:∀ zs:List Str,(∀ z ∈ zs,z.length <= 1)->(Str.join "" zs).length <= zs.length
 | [],_=>Nat.le_refl 0
 | [a],h=>h a List.mem_cons_self
 | a :: b :: r,h=>by
  show (a ++ "" ++ Str.join "" (b :: r)).length <= _
  rw [znl,znl]
  have e:("":Str).length = 0:=rfl
  have h1:=h a List.mem_cons_self
  have h2:=zjo (b :: r) fun z m=>h z (List.mem_cons_of_mem _ m)
  rw [e]
  simp only [List.length_cons] at h2 ⊢
  omega
def zjc (ds:List PyData):Prop:=∀ d ∈ ds,∃ z:Str,d = .str z/\zeN z = true
theorem zjK {ds:List PyData} {a:Int} (h0:0 <= a) (h1:a <= ds.length):(zeb ds (some a) none ++ zeb ds none (some a)).length = ds.length:=by
 obtain ⟨k,rfl⟩:=Int.eq_ofNat_of_zero_le h0
 have e1:HT.sIx ds.length 0 (some (k:Int)) = k:=by rw [HT.sIx_nat]; omega
 have e2:HT.sIx ds.length ds.length (some (k:Int)) = k:=by rw [HT.sIx_nat]; omega
 have e3:HT.sIx ds.length ds.length none = ds.length:=rfl
 have e4:HT.sIx ds.length 0 none = 0:=rfl
 unfold zeb
 rw [e1,e2,e3,e4,List.length_append,List.length_take,List.length_take,List.length_drop,List.length_drop]
 omega
def znF:List Str:=["part","gap","cut","a","aa","dear","b","keeps"]
set_option maxHeartbeats 8000000 in
theorem zfL {p:List PyData} (hp:zbb p) (q:∀ (ns:List Str) p',ns.length = 8->(∀ z ∈ ns,zeN z = true)->zbb p'->R (.d (.list (ns.map PyData.str))) [p']):zd9 [.l 0] [p] R:=by
 unfold zd9
 walk_at "d"
 (refine seq1 ?_; walk_at "d")
 (refine seq1 ?_; walk_at "d")
 refine zM hp (by decide) (by decide +kernel) fun way p1 w0 w1 hp1=>?_
 walk_at "d"
 (refine seq1 ?_; walk_at "d")
 refine zM hp1 (by decide) (by decide +kernel) fun fst p2 f0 f1 hp2=>?_
 walk_at "d"
 refine cut (fun δ' S'=>∃ (ds:List PyData),zjc ds/\ds.length = 8/\S' = [p2,ds]/\δ' = [some (.l 0),some (.d (.str ("abcdefghijklmnopqrstuvwxyz":Str))),some (.d (.int way)),some (.d (.int fst)),some (.l 1),none,none]) (fun N hN=>?_) ?_
 ·walk_at "d"
  refine cmp1 (S0:=[p2]) (fun k:Nat=>.str (PySem.Txt.mul (lsgn ((fst + 5 * (0 + k)) % 26)) (1 + (fst + 3 * (0 + k)) % 8))) rfl (List.range 8) (by simp) ?_ ?_
  ·intro k mk u acc R' hk
   have b1:=Int.emod_nonneg (fst + 5 * (0 + (k:Int))) (show (26:Int) ≠ 0 by decide)
   have b2:=Int.emod_lt_of_pos (fst + 5 * (0 + (k:Int))) (show (0:Int) < 26 by decide)
   have b3:=Int.emod_nonneg (fst + 3 * (0 + (k:Int))) (show (8:Int) ≠ 0 by decide)
   have b4:=Int.emod_lt_of_pos (fst + 3 * (0 + (k:Int))) (show (0:Int) < 8 by decide)
   walk_at "d"
   refine ⟨zcE (by decide) (by decide),ziR,_,zmV b1 b2,?_⟩
   walk_at "d"
   refine ⟨zcE (by decide) (by decide),?_⟩
   walk_at "d"
   exact ⟨by rw [len1]; decide,by omega,by omega,hk _⟩
  ·refine hN _ _ ⟨_,?_,by simp,rfl,rfl⟩
   intro d m
   obtain ⟨k,mk,rfl⟩:=List.mem_map.mp m
   obtain ⟨f,rfl⟩:=Int.eq_ofNat_of_zero_le f0
   exact ⟨_,rfl,zuz f (by omega) k (List.mem_range.mp mk)⟩
 rintro _ _ ⟨ds,hds,hl,rfl,rfl⟩
 refine cut (fun δ' S'=>∃ (ds:List PyData) (T:Sto) (k:Nat) (u:Option XV),zjc ds/\ds.length = 8/\T[k]? = some ds/\S' = p2 :: T/\δ' = [some (.l 0),some (.d (.str ("abcdefghijklmnopqrstuvwxyz":Str))),some (.d (.int way)),some (.d (.int fst)),some (.l (k + 1)),u,none]) (fun N hN=>?_) ?_
 ·walk_at "d"
  split
  ·refine seq1 ?_
   walk_at "d"
   refine cmp1 (S0:=[p2,ds]) (fun k:Nat=>.str (lsgn ((fst + 7 * (0 + k)) % 26))) rfl (List.range 8) (by simp) ?_ ?_
   ·intro k mk u acc R' hk
    have b1:=Int.emod_nonneg (fst + 7 * (0 + (k:Int))) (show (26:Int) ≠ 0 by decide)
    have b2:=Int.emod_lt_of_pos (fst + 7 * (0 + (k:Int))) (show (0:Int) < 26 by decide)
    walk_at "d"
    refine ⟨zcE (by decide) (by decide),ziR,_,zmV b1 b2,?_⟩
    exact hk _
   ·walk_at "d"
    refine ⟨(List.range 8).map fun k:Nat=>lsgn ((fst + 7 * (0 + k)) % 26),by rw [List.map_map]; rfl,by decide,by simp,fun y m=>?_,?_⟩
    ·obtain ⟨k,_,rfl⟩:=List.mem_map.mp m
     show 1 <= 1000
     decide
    ·have wl:(PySem.Txt.join "" ((List.range 8).map fun k:Nat=>lsgn ((fst + 7 * (0 + k)) % 26))).length <= 8 * 1016:=by
      have:=zoY (y:=("":Str)) (zs:=(List.range 8).map fun k:Nat=>lsgn ((fst + 7 * (0 + k)) % 26)) (by decide) (fun y m=>by
       obtain ⟨k,_,rfl⟩:=List.mem_map.mp m
       show 1 <= 1000
       decide)
      simpa using this
     have wl':(PySem.Txt.join "" ((List.range 8).map fun k:Nat=>lsgn ((fst + 7 * (0 + k)) % 26))).length <= 8:=by
      show (Builtin.Str.glued _ _).length <= _
      rw [StrLaws.glued_eq_join]
      have:=zjo ((List.range 8).map fun k:Nat=>lsgn ((fst + 7 * (0 + k)) % 26)) (fun y m=>by
       obtain ⟨k,_,rfl⟩:=List.mem_map.mp m
       exact Nat.le_refl 1)
      simpa using this
     walk_at "d"
     refine cmp1 (S0:=[p2,ds]) (fun k:Nat=>.str (PySem.Txt.slice (PySem.Txt.join "" ((List.range 8).map fun k:Nat=>lsgn ((fst + 7 * (0 + k)) % 26))) none (some (0 + k + 1)))) rfl (List.range 8) (by simp) ?_ ?_
     ·intro k mk u acc R' hk
      walk_at "d"
      exact ⟨Nat.le_trans wl (by rw [sizeLine_eq]; decide),hk _⟩
     ·refine hN _ _ ⟨_,[ds,_],1,_,?_,?_,rfl,rfl,rfl⟩
      ·intro d m
       obtain ⟨k,mk,rfl⟩:=List.mem_map.mp m
       obtain ⟨f,rfl⟩:=Int.eq_ofNat_of_zero_le f0
       exact ⟨_,rfl,zuS f (by omega) k (List.mem_range.mp mk)⟩
      ·simp
  ·exact hN _ _ ⟨ds,[ds],0,none,hds,hl,rfl,rfl,rfl⟩
 rintro _ _ ⟨ds,T,k,u,hds,hl,hk,rfl,rfl⟩
 refine cut (fun δ' S'=>∃ (ds:List PyData) (T:Sto) (k:Nat),zjc ds/\ds.length = 8/\T[k]? = some ds/\S' = p2 :: T/\δ' = [some (.l 0),some (.d (.str ("abcdefghijklmnopqrstuvwxyz":Str))),some (.d (.int way)),some (.d (.int fst)),some (.l (k + 1)),u,none]) (fun N hN=>?_) ?_
 ·walk_at "d"
  split
  ·refine hN _ _ ⟨znF.map PyData.str,T ++ [znF.map PyData.str],T.length,?_,rfl,by rw [List.getElem?_concat_length],rfl,rfl⟩
   intro d m
   obtain ⟨z,hz,rfl⟩:=List.mem_map.mp m
   refine ⟨z,rfl,?_⟩
   simp only [znF,List.mem_cons,List.not_mem_nil,or_false] at hz
   rcases hz with rfl | rfl | rfl | rfl | rfl | rfl | rfl | rfl <;> decide +kernel
  ·exact hN _ _ ⟨ds,T,k,hds,hl,hk,rfl,rfl⟩
 rintro _ _ ⟨ds,T,k,hds,hl,hk,rfl,rfl⟩
 (refine seq1 ?_; walk_at "d")
 refine zM hp2 (by decide) (by decide +kernel) fun at' p3 a0 a1 hp3=>?_
 walk_at "d"
 (refine seq1 ?_; walk_at "d")
 refine ⟨ds,hk,ds,hk,?_⟩
 have hc:=zjK (ds:=ds) a0 (by omega)
 rw [List.length_append] at hc
 refine ⟨by omega,?_⟩
 have hk2:(T ++ [zeb ds (some at') none ++ zeb ds none (some at')])[T.length]? = some (zeb ds (some at') none ++ zeb ds none (some at')):=by rw [List.getElem?_concat_length]
 have hs2:zjc (zeb ds (some at') none ++ zeb ds none (some at')):=fun d m=>(List.mem_append.mp m).elim (fun m=>hds d (zmM m)) fun m=>hds d (zmM m)
 have hl2:(zeb ds (some at') none ++ zeb ds none (some at')).length = 8:=by rw [List.length_append]; omega
 generalize zeb ds (some at') none ++ zeb ds none (some at') = es at hk2 hs2 hl2 ⊢
 refine seq1 ?_
 walk_at "d"
 refine zM hp3 (by decide) (by decide +kernel) fun r p4 r0 r1 hp4=>?_
 walk_at "d"
 have fin':∀ (fs:List PyData),zjc fs->fs.length = 8->R (.d (.list fs)) [p4]:=by
  intro fs h1 h2
  obtain ⟨zs,rfl,z1,z2⟩:=zrH h1
  exact q zs p4 (by omega) z2 hp4
 split
 ·refine ⟨by simp,es,hk2,?_⟩
  walk_at "d"
  rw [if_neg (by omega)]
  refine ⟨es.reverse,by simp [zhz],.inl (fin' _ (fun d m=>hs2 d (List.mem_reverse.mp m)) (by simpa using hl2))⟩
 ·rw [if_neg (by omega)]
  exact ⟨es,hk2,.inl (fin' _ hs2 hl2)⟩
theorem ziS {p:List PyData} (hp:zbb p) (q:∀ (ns:List Str) p',ns.length = 8->(∀ z ∈ ns,zeN z = true)->zbb p'->R (.d (.list (ns.map PyData.str))) [p']):zc9 [.l 0] [p] R:=zfL hp q
abbrev Part:=Str × Int × Int
def zfl (p:Part):PyData:=.tuple [.str p.1,.int p.2.1,.int p.2.2]
def zcw (ps:List Part):PyData:=.tuple (ps.map zfl)
structure Prt (p:Part):Prop where
 nm:zeN p.1 = true
 le:p.2.1 <= p.2.2
 lo:-10 ^ 58 <= p.2.1
 hi:p.2.2 <= 10 ^ 59
structure Drw (ps:List Part):Prop where
 l1:1 <= ps.length
 l8:ps.length <= 8
 all:∀ p ∈ ps,Prt p
theorem zb1 {α:Type} {f:α->PyData} {l:List α} {k:Nat} {x:α} (e:l[k]? = some x):atI (l.map f) (k:Int) = some (f x):=zct (by rw [List.getElem?_map,e]; rfl)
end
section
variable {R:RX} {S:Sto}
theorem zpN {a b m:Int} (h1:m ∈ [a,b]) (h2:∀ x,x ∈ [a,b]->m <= x):m = min a b:=by
 have ha:=h2 a (by simp)
 have hb:=h2 b (by simp)
 simp only [List.mem_cons,List.not_mem_nil,or_false] at h1
 omega
theorem zqx {a b m:Int} (h1:m ∈ [a,b]) (h2:∀ x,x ∈ [a,b]->x <= m):m = max a b:=by
 have ha:=h2 a (by simp)
 have hb:=h2 b (by simp)
 simp only [List.mem_cons,List.not_mem_nil,or_false] at h1
 omega
theorem zww {a b:Int} (q:R (.d (.int (min a b))) S):zlX [.d (.list [.int a,.int b])] S R:=.inl ⟨_,rfl,[a,b],rfl,by simp,fun m h1 h2=>by rw [zpN h1 h2]; exact q⟩
theorem zwu {a b:Int} (q:R (.d (.int (min a b))) S):zlX [.d (.tuple [.int a,.int b])] S R:=.inl ⟨_,rfl,[a,b],rfl,by simp,fun m h1 h2=>by rw [zpN h1 h2]; exact q⟩
theorem zwC {a b:Int} (q:R (.d (.int (max a b))) S):zst [.d (.list [.int a,.int b])] S R:=⟨_,rfl,[a,b],rfl,by simp,fun m h1 h2=>by rw [zqx h1 h2]; exact q⟩
theorem zwz {a b:Int} (q:R (.d (.int (max a b))) S):zst [.d (.tuple [.int a,.int b])] S R:=⟨_,rfl,[a,b],rfl,by simp,fun m h1 h2=>by rw [zqx h1 h2]; exact q⟩
abbrev Term:=Nat × Int
def tmD (t:Term):PyData:=.tuple [.int t.1,.int t.2]
def zkO (ts:List Term):PyData:=.tuple (ts.map tmD)
structure Gap where
 ts:List Term
 lo:Int
 hi:Int
def zd6 (g:Gap):PyData:=.tuple [zkO g.ts,.int g.lo,.int g.hi]
theorem zcs (g:Gap):zd6 g = .tuple [zkO g.ts,.int g.lo,.int g.hi]:=rfl
theorem zj3 (t:Term):tmD t = .tuple [.int t.1,.int t.2]:=rfl
theorem zjH (p:Part):zfl p = .tuple [.str p.1,.int p.2.1,.int p.2.2]:=rfl
def zb2 (ns:List Int):PyData:=.tuple (ns.map PyData.int)
structure Tms (n:Nat) (ts:List Term):Prop where
 ne:ts ≠ []
 len:ts.length <= n
 ok:∀ t ∈ ts,t.1 < n/\t.2 ≠ 0/\-3 <= t.2/\t.2 <= 3
 srt:ts.Pairwise fun t u=>t.1 < u.1
structure Tm3 (n:Nat) (ts:List Term):Prop where
 len:ts.length <= 100
 ok:∀ t ∈ ts,t.1 < n/\-3 <= t.2/\t.2 <= 3
theorem Tms.tm3 {n:Nat} {ts:List Term} (h:Tms n ts) (hn:n <= 8):Tm3 n ts:=⟨by have:=h.len; omega,fun t m=>⟨(h.ok t m).1,(h.ok t m).2.2⟩⟩
def worth (ts:List Term) (ns:List Int):Int:=(ts.map fun t=>t.2 * ns.getD t.1 0).sum
theorem zgk {ns:List Int} {k:Nat} (h:k < ns.length):ns[k]? = some (ns.getD k 0):=by
 rw [List.getElem?_eq_getElem h,List.getD_eq_getElem?_getD,List.getElem?_eq_getElem h]
 rfl
def part (ps:List Part) (k:Nat):Part:=ps.getD k ("",0,0)
theorem zep {ps:List Part} {k:Nat} (h:k < ps.length):ps[k]? = some (part ps k):=by
 unfold part
 rw [List.getElem?_eq_getElem h,List.getD_eq_getElem?_getD,List.getElem?_eq_getElem h]
 rfl
theorem zbx {ps:List Part} {k:Nat} (h:k < ps.length):part ps k ∈ ps:=List.mem_of_getElem? (zep h)
def plo (ps:List Part) (k:Nat):Int:=(part ps k).2.1
def phi (ps:List Part) (k:Nat):Int:=(part ps k).2.2
def tLo (ps:List Part) (t:Term):Int:=min (t.2 * plo ps t.1) (t.2 * phi ps t.1)
def tHi (ps:List Part) (t:Term):Int:=max (t.2 * plo ps t.1) (t.2 * phi ps t.1)
def zZ (ps:List Part) (ts:List Term):Int:=(ts.map (tLo ps)).sum
def zaD (ps:List Part) (ts:List Term):Int:=(ts.map (tHi ps)).sum
theorem zjQ {ps:List Part} {t:Term} {ts:List Term}:zZ ps (t :: ts) = tLo ps t + zZ ps ts:=by simp [zZ]
theorem zlW {ps:List Part} {t:Term} {ts:List Term}:zaD ps (t :: ts) = tHi ps t + zaD ps ts:=by simp [zaD]
theorem zfN {ps:List Part} {ts:List Term} {i:Nat} {t:Term} (h:ts[i]? = some t):zZ ps (ts.take (i + 1)) = zZ ps (ts.take i) + tLo ps t:=by
 unfold zZ
 rw [List.take_add_one,h]
 simp
theorem zhq {ps:List Part} {ts:List Term} {i:Nat} {t:Term} (h:ts[i]? = some t):zaD ps (ts.take (i + 1)) = zaD ps (ts.take i) + tHi ps t:=by
 unfold zaD
 rw [List.take_add_one,h]
 simp
theorem zlo {ns:List Int} {ts:List Term} {i:Nat} {t:Term} (h:ts[i]? = some t):worth (ts.take (i + 1)) ns = worth (ts.take i) ns + t.2 * ns.getD t.1 0:=by
 unfold worth
 rw [List.take_add_one,h]
 simp
theorem zeI (ps:List Part):∀ ts:List Term,zZ ps ts <= zaD ps ts
 | []=>by simp [zZ,zaD]
 | t :: ts=>by
  have:=zeI ps ts
  rw [zjQ,zlW]
  unfold tLo tHi
  omega
theorem zfj {α:Type} {f:α->PyData} {l:List α} {i:Nat} {d:PyData} (h:(l.map f)[i]? = some d):∃ x,l[i]? = some x/\d = f x:=by
 rw [List.getElem?_map] at h
 obtain ⟨x,e,rfl⟩:=Option.map_eq_some_iff.mp h
 exact ⟨x,e,rfl⟩
theorem zg2 {ps:List Part} {ts:List Term} {t:PyData} (ht:zke (.d t) = some (ts.map tmD)) (h3:Tm3 ps.length ts) (q:R (.d (spD (zZ ps ts) (zaD ps ts))) []):zeF [.d (zcw ps),.d t] [] R:=by
 unfold zeF zcw
 walk_at "d"
 (refine seq1 ?_; walk_at "d")
 (refine seq1 ?_; walk_at "d")
 refine seq1 ?_
 walk_at "d"
 refine ⟨_,ht,?_⟩
 refine zaW (fun i δ S=>∃ (u1 u2 u3:Option XV),S = []/\δ = [some (.d (.tuple (ps.map zfl))),some (.d t),some (.d (.int (zZ ps (ts.take i)))),some (.d (.int (zaD ps (ts.take i)))),u1,u2,u3]) ⟨_,_,_,rfl,rfl⟩ ?_ ?_
 ·rintro i d _ _ N hi ⟨u1,u2,u3,rfl,rfl⟩ hN
  obtain ⟨t,ht,rfl⟩:=zfj hi
  obtain ⟨t1,t2,t3⟩:=h3.ok t (List.mem_of_getElem? ht)
  have ep:=zb1 (f:=zfl) (zep t1)
  unfold tmD
  walk_at "d"
  (refine seq1 ?_; walk_at "d")
  refine ⟨_,ep,?_⟩
  unfold zfl
  walk_at "d"
  refine ⟨zcE (by omega) (by omega),_,ep,?_⟩
  unfold zfl
  walk_at "d"
  refine ⟨zcE (by omega) (by omega),?_⟩
  (refine seq1 ?_; walk_at "d")
  refine zww ?_
  walk_at "d"
  refine zwC ?_
  walk_at "d"
  exact hN _ _ ⟨_,_,_,rfl,by rw [zfN ht,zhq ht]; rfl⟩
 ·rintro _ _ ⟨u1,u2,u3,rfl,rfl⟩
  rw [List.length_map,List.take_length]
  walk_at "d"
  exact q
theorem zf2 {ps:List Part} {ts:List Term} {t:PyData} (ht:zke (.d t) = some (ts.map tmD)) (h3:Tm3 ps.length ts) (q:R (.d (spD (zZ ps ts) (zaD ps ts))) []):zdW [.d (zcw ps),.d t] [] R:=zg2 ht h3 q
theorem zoK {ds:List PyData} {r:Int} {P:PyData->Prop} (h0:0 <= r) (h1:r < ds.length) (hP:∀ d ∈ ds,P d):∃ d,atI ds r = some d/\P d:=by
 obtain ⟨k,rfl⟩:=Int.eq_ofNat_of_zero_le h0
 have hk:k < ds.length:=by omega
 exact ⟨ds[k],zct (List.getElem?_eq_getElem hk),hP _ (List.getElem_mem hk)⟩
theorem zrn (ds:List PyData):PyData.eqv (.list ds) (.list []) = decide (ds = []):=by
 cases ds with
 | nil=>rfl
 | cons d ds=>rfl
theorem ztp (t:Term):Shp 1 (tmD t):=zma (zvc zjP zjP)
theorem zlC (ts:List Term):SeqAt.shaped (.list (ts.map tmD)) = true:=(zhN (zhQ fun t _=>ztp t)).ok
structure GapOk (n:Nat) (g:Gap):Prop where
 ts:Tms n g.ts
 le:g.lo <= g.hi
theorem zvl {g:DG} {te:DE} {fin:Sto->Prop} {α:Type} (F:α->Prop) (f:α->PyData) (P:XE->Prop):∀ (ds:List PyData) (acc:List α) (p:List PyData) (τ:XE),P τ->zbb p->acc.length + ds.length <= 1000 ->
  (∀ d ∈ ds,∀ τ p acc (R:XE->RX),P τ->zbb p->(∀ τ' x p',P τ'->zbb p'->F x->R τ' (.d (f x)) [p',acc])->g (.d d) τ [p,acc] fun τ1 S1=>te τ1 S1 (R τ1)) ->
  (∀ xs p',zbb p'->(∀ x ∈ xs,F x)->xs.length = ds.length->fin [p',(acc ++ xs).map f])->zff 1 g zaJ te fin ds τ [p,acc.map f]
 | [],acc,p,τ,_,hp,_,_,h=>by
  have:=h [] p hp (by simp) rfl
  rw [List.append_nil] at this
  exact this
 | d :: ds,acc,p,τ,hP,hp,hl,el,h=>by
  show g (.d d) τ [p,acc.map f] fun τ1 S1=>zaJ τ1 S1 fun b S2=>if b = true then te τ1 S2 fun x S3=>asD x fun e=>∃ acc,S3[1]? = some acc/\acc.length < 1000/\zff 1 g zaJ te fin ds τ1 (S3.set 1 (acc ++ [e])) else zff 1 g zaJ te fin ds τ1 S2
  simp only [zaJ,↓reduceIte]
  rw [List.length_cons] at hl
  refine el d List.mem_cons_self τ p (acc.map f) (fun τ1 x S3=>asD x fun e=>∃ acc,S3[1]? = some acc/\acc.length < 1000/\zff 1 g zaJ te fin ds τ1 (S3.set 1 (acc ++ [e]))) hP hp fun τ' x p' hP' hp' hF=>?_
  refine ⟨acc.map f,rfl,by rw [List.length_map]; omega,?_⟩
  have e:([p',acc.map f]:Sto).set 1 (acc.map f ++ [f x]) = [p',(acc ++ [x]).map f]:=by simp
  rw [e]
  refine zvl F f P ds (acc ++ [x]) p' τ' hP' hp' (by rw [List.length_append,List.length_singleton]; omega) (fun e m=>el e (List.mem_cons_of_mem _ m)) fun xs p'' hp'' fs hl=>?_
  rw [List.append_assoc]
  exact h (x :: xs) p'' hp'' (fun y m=>(List.mem_cons.mp m).elim (fun e=>e ▸ hF) (fs y)) (by simp [hl])
end
section
variable {R:RX} {S:Sto}
theorem zrE {a b c d:Int} (q:R (.d (spD (a + c) (b + d))) []):zk8 [.d (spD a b),.d (spD c d)] [] R:=by
 unfold zk8 spD
 walk_at "e"
 exact q
theorem zh6 {a b n:Int} (h1:-3 <= n) (h2:n <= 3) (q:R (.d (spD (min (a * n) (b * n)) (max (a * n) (b * n)))) []):zcG [.d (spD a b),.d (.int n)] [] R:=by
 unfold zcG spD
 walk_at "e"
 refine ⟨zpY (by omega) (by omega),zpY (by omega) (by omega),?_⟩
 refine zwu ?_
 walk_at "e"
 refine zwz ?_
 walk_at "e"
 exact q
theorem zdY {p:Part} (q:R (.d (spD p.2.1 p.2.2)) []):zcv [.d (zfl p)] [] R:=by
 unfold zcv zfl
 walk_at "e"
 exact q
theorem ze4 {a b:Int} (q:R (.d (.int (b - a + 1))) []):zcR [.d (spD a b)] [] R:=by
 unfold zcR spD
 walk_at "e"
 exact q
theorem zvh {ps:List Part} {t:Term}:min ((part ps t.1).2.1 * t.2) ((part ps t.1).2.2 * t.2) = tLo ps t:=by
 unfold tLo plo phi
 rw [Int.mul_comm t.2,Int.mul_comm t.2]
theorem zu9 {ps:List Part} {t:Term}:max ((part ps t.1).2.1 * t.2) ((part ps t.1).2.2 * t.2) = tHi ps t:=by
 unfold tHi plo phi
 rw [Int.mul_comm t.2,Int.mul_comm t.2]
theorem zfb {ps:List Part} {ts:List Term} {t:PyData} (ht:zke (.d t) = some (ts.map tmD)) (h3:Tm3 ps.length ts) (q:R (.d (spD (zZ ps ts) (zaD ps ts))) []):zbi [.d (zcw ps),.d t] [] R:=by
 unfold zbi zcw
 walk_at "d"
 (refine seq1 ?_; walk_at "d")
 refine seq1 ?_
 walk_at "d"
 refine ⟨_,ht,?_⟩
 refine zaW (fun i δ S=>∃ (u1 u2:Option XV),S = []/\δ = [some (.d (.tuple (ps.map zfl))),some (.d t),some (.d (spD (zZ ps (ts.take i)) (zaD ps (ts.take i)))),u1,u2]) ⟨_,_,rfl,rfl⟩ ?_ ?_
 ·rintro i d _ _ N hi ⟨u1,u2,rfl,rfl⟩ hN
  obtain ⟨t,ht,rfl⟩:=zfj hi
  obtain ⟨t1,t2,t3⟩:=h3.ok t (List.mem_of_getElem? ht)
  have ep:=zb1 (f:=zfl) (zep t1)
  rw [zj3]
  walk_at "d"
  refine ⟨_,ep,?_⟩
  refine zdY ?_
  walk_at "d"
  refine zh6 t2 t3 ?_
  walk_at "d"
  refine zrE ?_
  walk_at "d"
  exact hN _ _ ⟨_,_,rfl,by rw [zfN ht,zhq ht,<- zvh,<- zu9]⟩
 ·rintro _ _ ⟨u1,u2,rfl,rfl⟩
  rw [List.length_map,List.take_length]
  walk_at "d"
  exact q
theorem zjG {g:Gap} {ns:List Int} (h3:Tm3 ns.length g.ts) (q:R (.d (.int (worth g.ts ns))) []):zd5 [.d (zd6 g),.d (zb2 ns)] [] R:=by
 unfold zd5 zb2
 rw [zcs,zkO]
 walk_at "e"
 refine cmp2 (S0:=[]) (fun t:Term=>.int (t.2 * ns.getD t.1 0)) rfl g.ts (by have:=h3.len; omega) ?_ ?_
 ·intro t mt u v acc R' hk
  obtain ⟨t1,t2,t3⟩:=h3.ok t mt
  have e:=zb1 (f:=PyData.int) (zgk t1)
  rw [zj3]
  walk_at "e"
  refine ⟨_,e,?_⟩
  walk_at "e"
  exact ⟨zcE (by omega) (by omega),hk _ _⟩
 ·walk_at "e"
  refine ⟨g.ts.map fun t:Term=>t.2 * ns.getD t.1 0,by rw [List.map_map]; rfl,q⟩
def zaF (g:Gap) (ns:List Int):Bool:=decide (g.lo <= worth g.ts ns/\worth g.ts ns <= g.hi)
theorem zoI {g:Gap} {ns:List Int} (h3:Tm3 ns.length g.ts) (q:R (.d (.bool (zaF g ns))) []):zhY [.d (zd6 g),.d (zb2 ns)] [] R:=by
 unfold zhY
 walk_at "e"
 rw [zcs]
 walk_at "e"
 rw [<- zcs]
 refine zjG h3 ?_
 walk_at "e"
 unfold zaF at q
 by_cases h:g.lo <= worth g.ts ns
 ·simp only [h,true_and] at q
  rw [if_pos h]
  exact q
 ·simp only [h,false_and,decide_false] at q
  rw [if_neg h]
  exact q
structure InBox (ps:List Part) (ns:List Int):Prop where
 len:ns.length = ps.length
 ok:∀ k,k < ps.length->plo ps k <= ns.getD k 0/\ns.getD k 0 <= phi ps k
def Ord (ps:List Part):Prop:=∀ p ∈ ps,p.2.1 <= p.2.2
theorem Drw.ord {ps:List Part} (h:Drw ps):Ord ps:=fun p m=>(h.all p m).le
end
section
variable {R:RX} {S:Sto}
def zbt:PyData->Bool
 | .int _=>true
 | _=>false
theorem zfk {d:PyData} (q:R (.d (.bool (zbt d))) []):zbJ [.d d] [] R:=by
 unfold zbJ
 cases d <;> (walk_at "e"; exact q)
end
section
variable {R:RX} {S:Sto}
def rng (lo:Int) (n:Nat):List Int:=(List.range n).map fun k:Nat=>lo + k
theorem znA {lo x:Int} {n:Nat}:x ∈ rng lo n ↔ lo <= x/\x < lo + n:=by
 unfold rng
 rw [List.mem_map]
 constructor
 ·rintro ⟨k,hk,rfl⟩
  have:=List.mem_range.mp hk
  omega
 ·rintro ⟨h1,h2⟩
  exact ⟨(x - lo).toNat,List.mem_range.mpr (by omega),by omega⟩
theorem zlJ (lo:Int) (n:Nat):(rng lo n).Pairwise (· < ·):=by
 unfold rng
 rw [List.pairwise_map]
 exact List.pairwise_lt_range.imp fun h=>by omega
def zoz (p:Part):List Int:=rng p.2.1 (p.2.2 - p.2.1 + 1).toNat
theorem zfE (p:Part):(zoz p).length = (p.2.2 - p.2.1 + 1).toNat:=by simp [zoz,rng]
def zfm:List Part->List (List Int)
 | []=>[[]]
 | p :: ps=>(zoz p).flatMap fun x=>(zfm ps).map (x :: ·)
def ext (found:List (List Int)) (p:Part):List (List Int):=found.flatMap fun a=>(zoz p).map fun x=>a ++ [x]
theorem zjf:∀ (ps:List Part) (found:List (List Int)),ps.foldl ext found = found.flatMap fun a=>(zfm ps).map (a ++ ·)
 | [],found=>by simp [zfm]
 | p :: ps,found=>by
  rw [List.foldl_cons,zjf ps]
  unfold ext
  simp only [zfm,List.flatMap_assoc,List.map_flatMap,List.flatMap_map,List.map_map]
  congr 1
  funext a
  congr 1
  funext x
  congr 1
  funext t
  simp
theorem ziV (ps:List Part):ps.foldl ext [[]] = zfm ps:=by
 rw [zjf]
 simp
theorem zgu {ms:List Int}:InBox [] ms ↔ ms = []:=⟨fun h=>List.eq_nil_of_length_eq_zero h.len,fun h=>by subst h; exact ⟨rfl,fun k hk=>by simp at hk⟩⟩
theorem zii {p:Part} {ps:List Part} {k:Nat}:part (p :: ps) (k + 1) = part ps k:=by simp [part]
theorem zd2 {p:Part} {ps:List Part} {ms:List Int}:InBox (p :: ps) ms ↔ ∃ x t,ms = x :: t/\p.2.1 <= x/\x <= p.2.2/\InBox ps t:=by
 constructor
 ·intro h
  cases ms with
  | nil=>have:=h.len; simp at this
  | cons x t =>
   have h0:=h.ok 0 (by simp)
   refine ⟨x,t,rfl,h0.1,h0.2,by have:=h.len; simpa using this,fun k hk=>?_⟩
   have:=h.ok (k + 1) (by simpa using hk)
   unfold plo phi at this ⊢
   rw [zii] at this
   simpa using this
 ·rintro ⟨x,t,rfl,h1,h2,h3⟩
  refine ⟨by simp [h3.len],fun k hk=>?_⟩
  cases k with
  | zero=>exact ⟨h1,h2⟩
  | succ k =>
   have:=h3.ok k (by simpa using hk)
   unfold plo phi at this ⊢
   rw [zii]
   simpa using this
theorem zde:∀ {ps:List Part} {ms:List Int},ms ∈ zfm ps ↔ InBox ps ms
 | [],ms=>by rw [zgu]; simp [zfm]
 | p :: ps,ms=>by
  rw [zd2,zfm,List.mem_flatMap]
  constructor
  ·rintro ⟨x,hx,h⟩
   obtain ⟨t,ht,rfl⟩:=List.mem_map.mp h
   unfold zoz at hx
   rw [znA] at hx
   exact ⟨x,t,rfl,by omega,by omega,zde.mp ht⟩
  ·rintro ⟨x,t,rfl,h1,h2,h3⟩
   exact ⟨x,by unfold zoz; rw [znA]; omega,List.mem_map.mpr ⟨t,zde.mpr h3,rfl⟩⟩
theorem zgl:∀ ps:List Part,(zfm ps).Pairwise fun a b=>HT.lexLt a b = true
 | []=>by simp [zfm]
 | p :: ps=>by
  rw [zfm,List.pairwise_flatMap]
  refine ⟨fun x _=>?_,?_⟩
  ·rw [List.pairwise_map]
   refine (zgl ps).imp fun {a b} h=>?_
   rw [HT.lexLt_cons,if_pos rfl]
   exact h
  ·refine (zlJ _ _).imp fun {x y} h a ha b hb=>?_
   obtain ⟨t,_,rfl⟩:=List.mem_map.mp ha
   obtain ⟨u,_,rfl⟩:=List.mem_map.mp hb
   rw [HT.lexLt_cons,if_neg (by omega)]
   simpa using h
def zeu:List Nat->Nat
 | []=>1
 | x :: xs=>x * zeu xs
def zcX (ps:List Part):Nat:=zeu (ps.map fun p=>(p.2.2 - p.2.1 + 1).toNat)
theorem zej {α β:Type} {f:α->List β} {n:Nat}:∀ {l:List α},(∀ x ∈ l,(f x).length = n)->(l.flatMap f).length = l.length * n
 | [],_=>by simp
 | x :: l,h=>by
  rw [List.flatMap_cons,List.length_append,h x List.mem_cons_self,zej fun y m=>h y (List.mem_cons_of_mem _ m),List.length_cons,Nat.succ_mul,Nat.add_comm]
theorem zlf:∀ ps:List Part,(zfm ps).length = zcX ps
 | []=>rfl
 | p :: ps=>by
  rw [zfm,zej (n:=zcX ps) fun x _=>by rw [List.length_map,zlf ps],zfE]
  rfl
theorem zjC {found:List (List Int)} {p:Part}:(ext found p).length = found.length * (p.2.2 - p.2.1 + 1).toNat:=by
 unfold ext
 exact zej fun x _=>by rw [List.length_map,zfE]
theorem zgE {found:List (List Int)}:∀ {ps:List Part},(ps.foldl ext found).length = found.length * zcX ps
 | []=>by simp [zcX,zeu]
 | p :: ps=>by
  rw [List.foldl_cons,zgE (ps:=ps),zjC]
  simp [zcX,zeu,Nat.mul_assoc]
theorem ziI:∀ {l:List Nat},(∀ x ∈ l,1 <= x)->1 <= zeu l
 | [],_=>Nat.le_refl _
 | x :: l,h=>Nat.mul_le_mul (h x List.mem_cons_self) (ziI fun y m=>h y (List.mem_cons_of_mem _ m))
theorem znb {ps:List Part} (ho:Ord ps):1 <= zcX ps:=ziI fun x m=>by
 obtain ⟨p,mp,rfl⟩:=List.mem_map.mp m
 have:=ho p mp
 omega
theorem zfx:∀ (a b:List Nat),zeu (a ++ b) = zeu a * zeu b
 | [],b=>by simp [zeu]
 | x :: a,b=>by simp [zeu,zfx a b,Nat.mul_assoc]
theorem zhj {ps:List Part} (ho:Ord ps) (i:Nat):zcX (ps.take i) <= zcX ps:=by
 have e:zcX ps = zcX (ps.take i) * zcX (ps.drop i):=by
  unfold zcX
  rw [<- zfx,<- List.map_append,List.take_append_drop]
 have:=znb (ps:=ps.drop i) fun p m=>ho p (List.mem_of_mem_drop m)
 rw [e]
 exact Nat.le_mul_of_pos_right _ this
theorem zda {α:Type} {l:List α} {i:Nat} {x:α} (h:l[i]? = some x):l.take (i + 1) = l.take i ++ [x]:=by rw [List.take_add_one,h]; rfl
theorem znL (a:List Int) (x:Int):PyData.tuple (a.map PyData.int ++ [.int x]) = zb2 (a ++ [x]):=by simp [zb2]
theorem zfA {ps:List Part} (ho:Ord ps) (h100:ps.length <= 100) (hs:zcX ps <= 300) (q:R (.d (.list ((zfm ps).map zb2))) []):zdy [.d (zcw ps)] [] R:=by
 unfold zdy
 rw [zcw]
 walk_at "d"
 (refine seq1 ?_; walk_at "d")
 refine seq1 ?_
 walk_at "d"
 refine zaW (fun i δ S=>∃ (u1 u2 u3 u4 u5:Option XV),S = []/\δ = [some (.d (.tuple (ps.map zfl))),some (.d (.list (((ps.take i).foldl ext [[]]).map zb2))),u1,u2,u3,u4,u5]) ⟨_,_,_,_,_,rfl,rfl⟩ ?_ ?_
 ·rintro i d _ _ N hi ⟨u1,u2,u3,u4,u5,rfl,rfl⟩ hN
  obtain ⟨p,hp,rfl⟩:=zfj hi
  have tk:=zda hp
  have il:i < ps.length:=(List.getElem?_eq_some_iff.mp hp).1
  have op:=ho p (List.mem_of_getElem? hp)
  have l1:=zhj ho i
  have l2:=zhj ho (i + 1)
  have f1:((ps.take i).foldl ext [[]]).length = zcX (ps.take i):=by rw [zgE]; simp
  have f2:(ext ((ps.take i).foldl ext [[]]) p).length = zcX (ps.take (i + 1)):=by
   have:(ps.take (i + 1)).foldl ext [[]] = ext ((ps.take i).foldl ext [[]]) p:=by rw [tk,List.foldl_append]; rfl
   rw [<- this,zgE]
   simp
  have fl:∀ a ∈ (ps.take i).foldl ext [[]],a.length <= i:=by
   rw [ziV]
   intro a m
   have:=(zde.mp m).len
   rw [this,List.length_take]
   omega
  have hN':=fun u1 u2 u3 u4 u5=>hN [some (.d (.tuple (ps.map zfl))),some (.d (.list ((ext ((ps.take i).foldl ext [[]]) p).map zb2))),u1,u2,u3,u4,u5] [] ⟨u1,u2,u3,u4,u5,rfl,by rw [tk,List.foldl_append]; rfl⟩
  generalize (ps.take i).foldl ext [[]] = found at f1 f2 fl hN' ⊢
  rw [zjH]
  walk_at "d"
  refine seq1 ?_
  walk_at "d"
  refine seq1 ?_
  walk_at "d"
  refine zaW (fun j δ S=>∃ (u:Option XV),S = [(ext (found.take j) p).map zb2]/\δ = [some (.d (.tuple (ps.map zfl))),some (.d (.list (found.map zb2))),some (.d (.str p.1)),some (.d (.int p.2.1)),some (.d (.int p.2.2)),some (.l 0),u]) ⟨_,rfl,rfl⟩ ?_ ?_
  ·rintro j d _ _ N' hj ⟨u,rfl,rfl⟩ hN2
   obtain ⟨a,ha,rfl⟩:=zfj hj
   have tkj:=zda ha
   have al:=fl a (List.mem_of_getElem? ha)
   have ej:ext (found.take (j + 1)) p = ext (found.take j) p ++ (zoz p).map fun x=>a ++ [x]:=by
    rw [tkj]
    unfold ext
    rw [List.flatMap_append]
    simp
   have lj:(ext (found.take (j + 1)) p).length <= (ext found p).length:=by
    rw [zjC,zjC,List.length_take]
    exact Nat.mul_le_mul_right _ (by omega)
   have pl:(p.2.2 - p.2.1 + 1).toNat <= 1000:=by
    have:=zfE p
    rw [ej,List.length_append,List.length_map] at lj
    omega
   rw [zb2]
   walk_at "d"
   refine cmp1 (S0:=[(ext (found.take j) p).map zb2]) (fun k:Nat=>zb2 (a ++ [p.2.1 + (0 + (k:Int))])) rfl (List.range (p.2.2 - p.2.1 + 1).toNat) (by simpa using pl) ?_ ?_
   ·intro k mk u acc R' hk
    walk_at "d"
    refine ⟨by omega,?_⟩
    rw [znL]
    exact hk _
   ·walk_at "d"
    have er:(List.range (p.2.2 - p.2.1 + 1).toNat).map (fun k:Nat=>zb2 (a ++ [p.2.1 + (0 + (k:Int))])) = ((zoz p).map fun x=>a ++ [x]).map zb2:=by
     unfold zoz rng
     rw [List.map_map,List.map_map]
     simp [Function.comp_def]
    rw [er]
    refine ⟨by rw [ej,List.length_append] at lj; simp only [List.length_map,List.length_range] at lj ⊢; rw [zfE] at lj; omega,hN2 _ _ ⟨_,by rw [ej,List.map_append],rfl⟩⟩
  ·rintro _ _ ⟨u,rfl,rfl⟩
   rw [List.length_map,List.take_length]
   walk_at "d"
   exact hN' _ _ _ _ _
 ·rintro _ _ ⟨u1,u2,u3,u4,u5,rfl,rfl⟩
  rw [List.length_map,List.take_length,ziV]
  walk_at "d"
  exact q
end
section
variable {R:RX} {S:Sto}
structure Wds (ws:List Int):Prop where
 l1:1 <= ws.length
 l8:ws.length <= 8
 pos:∀ x ∈ ws,1 <= x
 le:∀ x ∈ ws,x <= 300
 prod:zeu (ws.map Int.toNat) <= 300
theorem prod3:∀ {ws:List Int},(∀ x ∈ ws,1 <= x/\x <= 3)->zeu (ws.map Int.toNat) <= 3 ^ ws.length
 | [],_=>by simp [zeu]
 | x :: ws,h=>by
  have h1:=h x List.mem_cons_self
  have h2:=prod3 fun y m=>h y (List.mem_cons_of_mem _ m)
  rw [List.map_cons,zeu,List.length_cons,Nat.pow_succ,Nat.mul_comm]
  exact Nat.mul_le_mul h2 (by omega)
theorem wds3 {ws:List Int} (l1:1 <= ws.length) (l4:ws.length <= 4) (h:∀ x ∈ ws,1 <= x/\x <= 3):Wds ws:=by
 refine ⟨l1,by omega,fun x m=>(h x m).1,fun x m=>by have:=(h x m).2; omega,Nat.le_trans (prod3 h) ?_⟩
 have:ws.length = 1\/ws.length = 2\/ws.length = 3\/ws.length = 4:=by omega
 rcases this with e | e | e | e <;> rw [e] <;> decide
theorem zpn {Q names number:PN} {p:List PyData} {m:Int} (hQ:Q = fun xs S R=>(zW (zag (zad 0 1 names (ze (zn 0) zv)) (zm 2)) (zW (zag (zcx [none,some 0] (zaz (ze (dOp zaX (dC (.int 1)) (zad 0 2 zy (ze (zn 0) (ze (zn 1) zv)))) zv)) (zm 0) zaJ (dOp zaX (dC (.int 1)) (zad 0 2 zy (ze (zn 1) (ze (dC (.int 3)) zv))))) (zm 3)) (zW (zdt (dB (dOp zid (zad 0 2 zy (ze (zn 0) (ze (dC (.int 12)) zv))) (dC (.int 0)))) (zag (dOp dIx (zdA (ze (dOp zdr (zdA (ze (dC (.int 2)) zv)) (dC (.int 8))) (ze (zdA (ze (dC (.int 17)) (ze (dC (.int 17)) zv))) (ze (zdA (ze (dC (.int 300)) zv)) (ze (dOp zdr (zdA (ze (dC (.int 1)) zv)) (dC (.int 8))) zv))))) (zad 0 2 zy (ze (zn 0) (ze (dC (.int 4)) zv)))) (zm 3)) za5) (zW (zag (zer zv) (zm 4)) (zW (zgA (zaz (ze (dCB zbR (ze (zn 3) zv)) zv)) (zm 5) (zW (zag (zad 0 1 number (ze (zn 0) zv)) (zm 6)) (zeU (dBM zdB (zn 4) (ze (zef (ze (dOp dIx (zn 2) (zn 5)) (ze (zn 6) (ze (dOp (dI0 fun i j=>i - j) (dOp zaX (zn 6) (dOp dIx (zn 3) (zn 5))) (dC (.int 1))) zv)))) zv))))) (zbh (dCB zfs (ze (zn 4) zv)))))))) (zb3 S.length R) (xs.map some ++ List.replicate 5 none) S)
  (hnames:∀ {p:List PyData} {R:RX},zbb p->(∀ (ns:List Str) p',ns.length = 8->(∀ z ∈ ns,zeN z = true)->zbb p'->R (.d (.list (ns.map PyData.str))) [p'])->names [.l 0] [p] R)
  (hnumber:∀ {p:List PyData} {R:RX},zbb p->(∀ r p',-10 ^ 58 <= r->r <= 10 ^ 58->zbb p'->R (.d (.int r)) [p'])->number [.l 0] [p] R)
  (hp:zbb p) (m1:0 < m) (m4:m <= 4) (q:∀ (ps:List Part) p',Drw ps->zcX ps <= 300->zbb p'->R (.d (zcw ps)) [p']):Q [.l 0,.d (.int m)] [p] R:=by
 subst hQ
 walk_at "d"
 (refine seq1 ?_; walk_at "d")
 refine hnames hp fun ns p1 hn hz hp1=>?_
 walk_at "d"
 (refine seq1 ?_; walk_at "d")
 refine zM hp1 m1 (zcP m1 (by omega)) fun r p2 r0 r1 hp2=>?_
 walk_at "d"
 refine zvl (α:=Int) (fun x=>1 <= x/\x <= 3) PyData.int (fun τ=>∃ u,τ = [u,some (.l 0)]) _ [] p2 _ ⟨_,rfl⟩ hp2 (by rw [zah]; simp; omega) ?_ ?_
 ·rintro d md _ p acc R' ⟨u,rfl⟩ hp hk
  walk_at "d"
  refine zM hp (by decide) (by decide +kernel) fun r p' r0 r1 hp'=>?_
  walk_at "d"
  exact hk _ _ p' ⟨_,rfl⟩ hp' ⟨by omega,by omega⟩
 ·intro ws p3 hp3 hw hl
  rw [zah] at hl
  have hws:Wds ws:=wds3 (by omega) (by omega) hw
  rw [List.nil_append]
  walk_at "d"
  refine cut (fun δ S=>∃ (p:List PyData) (ws:List Int),zbb p/\Wds ws/\S = [p]/\δ = [some (.l 0),some (.d (.int m)),some (.d (.list (ns.map PyData.str))),some (.d (.list (ws.map PyData.int))),none,none,none]) (fun N hN=>?_) ?_
  ·walk_at "d"
   refine zM hp3 (by decide) (by decide +kernel) fun r2 p4 r3 r4 hp4=>?_
   walk_at "d"
   split
   ·refine zM hp4 (by decide) (by decide +kernel) fun r5 p5 r6 r7 hp5=>?_
    obtain ⟨d,ed,ws',rfl,hw'⟩:=zoK (P:=fun d=>∃ ws:List Int,d = .list (ws.map PyData.int)/\Wds ws) (ds:=[PyData.list (List.replicate 8 [PyData.int 2]).flatten,.list [.int 17,.int 17],.list [.int 300],.list (List.replicate 8 [PyData.int 1]).flatten]) r6 r7 (by
     intro d m
     simp only [List.mem_cons,List.not_mem_nil,or_false] at m
     rcases m with rfl | rfl | rfl | rfl
     ·exact ⟨[2,2,2,2,2,2,2,2],rfl,by decide,by decide,by decide,by decide,by decide⟩
     ·exact ⟨[17,17],rfl,by decide,by decide,by decide,by decide,by decide⟩
     ·exact ⟨[300],rfl,by decide,by decide,by decide,by decide,by decide⟩
     ·exact ⟨[1,1,1,1,1,1,1,1],rfl,by decide,by decide,by decide,by decide,by decide⟩)
    walk_at "d"
    refine ⟨_,ed,hN _ _ ⟨p5,ws',hp5,hw',rfl,rfl⟩⟩
   ·exact hN _ _ ⟨p4,ws,hp4,hws,rfl,rfl⟩
  rintro _ _ ⟨p,ws,hp,hws,rfl,rfl⟩
  have w8:=hws.l8
  (refine seq1 ?_; walk_at "d")
  refine seq1 ?_
  walk_at "d"
  refine zaW (fun i δ S=>∃ (p:List PyData) (ps:List Part) (u1 u2:Option XV),zbb p/\ps.length = i/\(∀ p ∈ ps,Prt p)/\ps.map (fun p=>(p.2.2 - p.2.1 + 1).toNat) = (ws.take i).map Int.toNat/\S = [p,ps.map zfl]/\δ = [some (.l 0),some (.d (.int m)),some (.d (.list (ns.map PyData.str))),some (.d (.list (ws.map PyData.int))),some (.l 1),u1,u2]) ⟨p,[],_,_,hp,rfl,by simp,rfl,rfl,rfl⟩ ?_ ?_
  ·rintro i d _ _ N hi ⟨p,ps,u1,u2,hp,hl,ha,hs,rfl,rfl⟩ hN
   obtain ⟨hi',rfl⟩:=zco hi
   have iw:i < ws.length:=by simpa using hi'
   have i8:i < ns.length:=by omega
   have e:=zb1 (f:=PyData.str) (List.getElem?_eq_getElem i8)
   have ew:=zb1 (f:=PyData.int) (List.getElem?_eq_getElem iw)
   have w1:=hws.pos _ (List.getElem_mem iw)
   have w300:=hws.le _ (List.getElem_mem iw)
   have e0:(0:Int) + (i:Int) = (i:Int):=by omega
   walk_at "d"
   (refine seq1 ?_; walk_at "d")
   refine hnumber hp fun lo p3 h1 h2 hp3=>?_
   walk_at "d"
   rw [e0]
   refine ⟨_,e,?_⟩
   walk_at "d"
   refine ⟨_,ew,?_⟩
   walk_at "d"
   refine ⟨by omega,hN _ _ ⟨p3,ps ++ [(ns[i],lo,lo + ws[i] - 1)],_,_,hp3,by simp [hl],fun x hx=>?_,?_,by simp [zfl],rfl⟩⟩
   ·rcases List.mem_append.mp hx with hx | hx
    ·exact ha x hx
    ·rw [List.mem_singleton.mp hx]
     exact ⟨hz _ (List.getElem_mem i8),by simp only; omega,h1,by simp only; omega⟩
   ·rw [List.map_append,hs,zda (List.getElem?_eq_getElem iw),List.map_append]
    congr 1
    simp only [List.map_cons,List.map_nil,List.cons.injEq,and_true]
    omega
  ·rintro _ _ ⟨p,ps,u1,u2,hp,hl,ha,hs,rfl,rfl⟩
   rw [zah] at hl hs
   have hz':(ws.length:Int).toNat = ws.length:=by simp
   rw [hz'] at hl hs
   rw [List.take_length] at hs
   walk_at "d"
   have hw1:=hws.l1
   exact q ps p ⟨by omega,by omega,ha⟩ (by unfold zcX; rw [hs]; exact hws.prod) hp
theorem zl0 {p:List PyData} {m:Int} (hp:zbb p) (m1:0 < m) (m4:m <= 4) (q:∀ (ps:List Part) p',Drw ps->zcX ps <= 300->zbb p'->R (.d (zcw ps)) [p']):zf5 [.l 0,.d (.int m)] [p] R :=
 zpn (names:=zc9) (number:=zcB) rfl ziS zic hp m1 m4 q
theorem zf7 {g:Gap} {ns:List Int} (h3:Tm3 ns.length g.ts) (q:R (.d (.int (worth g.ts ns))) []):zec [.d (zd6 g),.d (zb2 ns)] [] R:=by
 unfold zec zb2
 rw [zcs,zkO]
 walk_at "d"
 (refine seq1 ?_; walk_at "d")
 refine seq1 ?_
 walk_at "d"
 refine zaW (fun i δ S=>∃ (u1 u2:Option XV),S = []/\δ = [some (.d (.tuple [.tuple (g.ts.map tmD),.int g.lo,.int g.hi])),some (.d (.tuple (ns.map PyData.int))),some (.d (.int (worth (g.ts.take i) ns))),u1,u2]) ⟨_,_,rfl,rfl⟩ ?_ ?_
 ·rintro i d _ _ N hi ⟨u1,u2,rfl,rfl⟩ hN
  obtain ⟨t,ht,rfl⟩:=zfj hi
  obtain ⟨t1,t2,t3⟩:=h3.ok t (List.mem_of_getElem? ht)
  have e:=zb1 (f:=PyData.int) (zgk t1)
  rw [zj3]
  walk_at "d"
  refine ⟨_,e,?_⟩
  walk_at "d"
  exact ⟨zcE (by omega) (by omega),hN _ _ ⟨_,_,rfl,by rw [zlo ht]⟩⟩
 ·rintro _ _ ⟨u1,u2,rfl,rfl⟩
  rw [List.length_map,List.take_length]
  walk_at "d"
  exact q
theorem ziz {g:Gap} {ns:List Int} (h3:Tm3 ns.length g.ts) (q:R (.d (.int (worth g.ts ns))) []):zeg [.d (zd6 g),.d (zb2 ns)] [] R:=zf7 h3 q
theorem zgj:∀ (a b:List Int),PyData.eqvAll (a.map PyData.int) (b.map PyData.int) = decide (a = b)
 | [],[]=>rfl
 | [],_ :: _=>rfl
 | _ :: _,[]=>rfl
 | x :: a,y :: b=>by
  show (PyData.eqv (.int x) (.int y) && PyData.eqvAll (a.map PyData.int) (b.map PyData.int)) = _
  rw [zjM,zgj a b]
  by_cases h1:x = y <;> by_cases h2:a = b <;> simp [h1,h2]
theorem zrs (a b:List Int):PyData.eqv (zb2 a) (zb2 b) = decide (a = b):=zgj a b
theorem zrg {n:Nat} (a:List Int):Shp (n + 1) (zb2 a):=zma (zhQ fun _ _=>zjP)
theorem zg7 (a:List Int):SeqAt.shaped (zb2 a) = true:=(zrg (n:=0) a).ok
theorem zf1 {a b:List Int} {d:PyData} (hd:zke (.d d) = some (b.map PyData.int)) (hl:a.length <= 100) (q:R (.d (.bool (decide (a = b)))) []):zea [.d (zb2 a),.d d] [] R:=by
 have hd':∀ S,zox S (.d d) = some b.length/\asQ S (.d d) = some (b.map PyData.int):=by
  intro S
  unfold zke at hd
  split at hd
  ·cases hd; rename_i e; cases e; exact ⟨by simp [zox],rfl⟩
  ·cases hd; rename_i e; cases e; exact ⟨by simp [zox],rfl⟩
  ·cases hd
 unfold zea
 walk_at "d"
 refine seq1 ?_
 rw [zb2]
 walk_at "d"
 refine ⟨_,(hd' _).1,?_⟩
 by_cases he:a.length = b.length
 ·rw [if_neg (by omega)]
  refine cmp1 (S0:=[]) (fun n:Int=>.bool true) rfl a (by omega) ?_ ?_
  ·intro n mn u acc R' hk
   walk_at "d"
   refine zfk ?_
   simp only [zbt]
   walk_at "d"
   exact hk _
  ·walk_at "d"
   refine ⟨a.map fun _=>true,by rw [List.map_map]; rfl,?_⟩
   have ea:(a.map fun _=>true).all id = true:=by simp
   rw [ea]
   walk_at "d"
   refine ⟨_,(hd' _).2,?_⟩
   walk_at "d"
   rw [<- zb2,<- zb2]
   refine ⟨zg7 a,zg7 b,?_⟩
   rw [zrs]
   exact q
 ·rw [if_pos (by omega)]
  have e2:decide (a = b) = false:=by simp; exact fun h=>he (by rw [h])
  rw [e2] at q
  exact q
end
section
variable {R:RX} {S:Sto}
abbrev Off:=Int × Int × Int
def offer (os:List (List Off)) (ks:List Nat) (i:Nat):Off:=(os.getD i []).getD (ks.getD i 0) (0,0,0)
end
section
variable {R:RX} {S:Sto}
def few0 (s1 s2 r:Int):Int:=if (r - (s1 + 2 * s2) + 2) / 3 > 0 then (r - (s1 + 2 * s2) + 2) / 3 else 0
def few (s1 s2 r:Int):Int:=if s1 = 0/\(r - few0 s1 s2 r) % 2 = 1 then few0 s1 s2 r + 1 else few0 s1 s2 r
theorem zka {ps:List Part} {g:Gap} (h3:Tm3 ps.length g.ts) (q:R (.d (spD (zZ ps g.ts) (zaD ps g.ts))) []):zgI [.d (zcw ps),.d (zd6 g)] [] R:=by
 unfold zgI
 rw [zcs]
 walk_at "d"
 refine zfb rfl h3 ?_
 walk_at "d"
 exact q
end
section
variable {R:RX} {S:Sto}
structure TimesL (l:List Int):Prop where
 l1:1 <= l.length
 l6:l.length <= 6
 ok:∀ x ∈ l,x ≠ 0/\-3 <= x/\x <= 3
theorem zd4 {l:List Int} (h:(decide (1 <= l.length) && decide (l.length <= 6) && l.all fun x=>decide (x ≠ 0/\-3 <= x/\x <= 3)) = true):TimesL l:=by
 simp only [Bool.and_eq_true,decide_eq_true_eq,List.all_eq_true] at h
 exact ⟨h.1.1,h.1.2,h.2⟩
theorem TimesL.at {l:List Int} (h:TimesL l) {r:Int} (r0:0 <= r) (r1:r < l.length):∃ n,atI (l.map PyData.int) r = some (.int n)/\n ≠ 0/\-3 <= n/\n <= 3:=by
 obtain ⟨k,rfl⟩:=Int.eq_ofNat_of_zero_le r0
 have hk:k < l.length:=by omega
 exact ⟨l[k],zb1 (List.getElem?_eq_getElem hk),h.ok _ (List.getElem_mem hk)⟩
theorem ziU {p:List PyData} {ps:List Part} (hp:zbb p) (hd:Drw ps) (q:∀ ts p',Tms ps.length ts->zbb p'->R (.d (zkO ts)) [p']):zc0 [.l 0,.d (zcw ps)] [p] R:=by
 have h8:=hd.l8
 have h1:=hd.l1
 unfold zc0
 walk_at "d"
 (refine seq1 ?_; walk_at "d")
 refine zM hp (by decide) (by decide +kernel) fun r p1 r0 r1 hp1=>?_
 obtain ⟨d,ed,l,rfl,hl⟩:=zoK (P:=fun d=>∃ l:List Int,d = .list (l.map PyData.int)/\TimesL l) (ds:=[PyData.list [.int 1,.int (-1),.int 2,.int (-2),.int 3,.int (-3)],.list [.int 1,.int (-1)],.list [.int 2,.int (-2)],.list [.int 3,.int (-3)],.list [.int 2,.int 3,.int (-2),.int (-3)],.list [.int 1,.int 3,.int (-1),.int (-3)]]) r0 r1 (by
  intro d m
  simp only [List.mem_cons,List.not_mem_nil,or_false] at m
  rcases m with rfl | rfl | rfl | rfl | rfl | rfl
  ·exact ⟨[1,-1,2,-2,3,-3],rfl,zd4 (by decide)⟩
  ·exact ⟨[1,-1],rfl,zd4 (by decide)⟩
  ·exact ⟨[2,-2],rfl,zd4 (by decide)⟩
  ·exact ⟨[3,-3],rfl,zd4 (by decide)⟩
  ·exact ⟨[2,3,-2,-3],rfl,zd4 (by decide)⟩
  ·exact ⟨[1,3,-1,-3],rfl,zd4 (by decide)⟩)
 have l1:=hl.l1
 have l6:=hl.l6
 walk_at "d"
 refine ⟨_,ed,?_⟩
 walk_at "d"
 (refine seq1 ?_; walk_at "d")
 refine cut (fun δ S=>∃ (p:List PyData) (ts:List Term) (u1:Option XV),zbb p/\ts.length <= ps.length/\(∀ t ∈ ts,t.1 < ps.length/\t.2 ≠ 0/\-3 <= t.2/\t.2 <= 3)/\(ts.Pairwise fun t u=>t.1 < u.1)/\S = [p,ts.map tmD]/\δ = [some (.l 0),some (.d (zcw ps)),some (.d (.list (l.map PyData.int))),some (.l 1),u1]) (fun N hN=>?_) ?_
 ·walk_at "d"
  refine ⟨ps.length,by unfold zcw; walk_at "d",?_⟩
  refine zaW (fun i δ S=>∃ (p:List PyData) (ts:List Term) (u1:Option XV),zbb p/\ts.length <= i/\(∀ t ∈ ts,t.1 < i/\t.2 ≠ 0/\-3 <= t.2/\t.2 <= 3)/\(ts.Pairwise fun t u=>t.1 < u.1)/\S = [p,ts.map tmD]/\δ = [some (.l 0),some (.d (zcw ps)),some (.d (.list (l.map PyData.int))),some (.l 1),u1]) ⟨p1,[],_,hp1,Nat.le_refl _,by simp,.nil,rfl,rfl⟩ ?_ ?_
  ·rintro i d _ _ N hi ⟨p,ts,u1,hp,hl',ht,hw,rfl,rfl⟩ hN
   obtain ⟨hi',rfl⟩:=zco hi
   have hi8:i < ps.length:=by simpa using hi'
   walk_at "d"
   refine zM hp (by decide) (by decide +kernel) fun r p2 r0 r1 hp2=>?_
   walk_at "d"
   split
   ·refine zM hp2 (by omega) (zcP (by omega) (by omega)) fun r3 p3 r30 r31 hp3=>?_
    obtain ⟨n,en,hn⟩:=hl.at r30 r31
    walk_at "d"
    refine ⟨_,en,?_⟩
    walk_at "d"
    refine ⟨by omega,hN _ _ ⟨p3,ts ++ [(i,n)],_,hp3,by simp; omega,fun t m=>?_,?_,by simp [tmD],rfl⟩⟩
    ·rcases List.mem_append.mp m with m | m
     ·exact ⟨by have:=(ht t m).1; omega,(ht t m).2⟩
     ·rw [List.mem_singleton.mp m]
      exact ⟨by simp,hn⟩
    ·rw [List.pairwise_append]
     exact ⟨hw,by simp,fun t m u m'=>by rw [List.mem_singleton.mp m']; exact (ht t m).1⟩
   ·exact hN _ _ ⟨p2,ts,_,hp2,by omega,fun t m=>⟨by have:=(ht t m).1; omega,(ht t m).2⟩,hw,rfl,rfl⟩
  ·rintro _ _ ⟨p,ts,u1,hp,hl',ht,hw,rfl,rfl⟩
   rw [zah] at hl' ht
   have hz:(ps.length:Int).toNat = ps.length:=by simp
   rw [hz] at hl' ht
   exact hN _ _ ⟨p,ts,u1,hp,hl',ht,hw,rfl,rfl⟩
 rintro _ _ ⟨p,ts,u1,hp,hl',ht,hw,rfl,rfl⟩
 refine cut (fun δ S=>∃ (p:List PyData) (ts:List Term) (T:Sto) (k:Nat),zbb p/\Tms ps.length ts/\T[k]? = some (ts.map tmD)/\S = p :: T/\δ = [some (.l 0),some (.d (zcw ps)),some (.d (.list (l.map PyData.int))),some (.l (k + 1)),u1]) (fun N hN=>?_) ?_
 ·walk_at "d"
  refine ⟨zlC ts,rfl,?_⟩
  rw [zrn]
  walk_at "d"
  split
  ·refine ⟨ps.length,by unfold zcw; walk_at "d",?_⟩
   refine zM hp (by omega) (zcP (by omega) (by omega)) fun r p2 r0 r1 hp2=>?_
   walk_at "d"
   refine zM hp2 (by omega) (zcP (by omega) (by omega)) fun r3 p3 r30 r31 hp3=>?_
   obtain ⟨n,en,hn⟩:=hl.at r30 r31
   obtain ⟨k,rfl⟩:=Int.eq_ofNat_of_zero_le r0
   walk_at "d"
   refine ⟨_,en,?_⟩
   walk_at "d"
   refine hN _ _ ⟨p3,[(k,n)],[ts.map tmD,[tmD (k,n)]],1,hp3,⟨by simp,by simpa using h1,fun t m=>by rw [List.mem_singleton.mp m]; exact ⟨by simp only; omega,hn⟩,by simp⟩,rfl,rfl,rfl⟩
  ·rename_i hne
   exact hN _ _ ⟨p,ts,[ts.map tmD],0,hp,⟨fun z=>hne (by rw [z]; rfl),hl',ht,hw⟩,rfl,rfl,rfl⟩
 rintro _ _ ⟨p,ts,T,k,hp,hts,hk,rfl,rfl⟩
 walk_at "d"
 exact ⟨_,hk,q ts p hts hp⟩
theorem zlB {p:List PyData} {ps:List Part} (hp:zbb p) (hd:Drw ps) (q:∀ g p',GapOk ps.length g->zbb p'->R (.d (zd6 g)) [p']):zeG [.l 0,.d (zcw ps)] [p] R:=by
 have h8:=hd.l8
 unfold zeG
 walk_at "d"
 (refine seq1 ?_; walk_at "d")
 refine ziU hp hd fun ts p1 hts hp1=>?_
 walk_at "d"
 (refine seq1 ?_; walk_at "d")
 refine zf2 rfl (hts.tm3 h8) ?_
 have lm:=zeI ps ts
 unfold spD
 walk_at "d"
 (refine seq1 ?_; walk_at "d")
 (refine seq1 ?_; walk_at "d")
 refine .inl ⟨⟨by decide,by decide +kernel⟩,.inl ⟨⟨by decide,by decide +kernel⟩,?_⟩⟩
 walk_at "d"
 refine zM hp1 (by decide) (by decide +kernel) fun r p2 r0 r1 hp2=>?_
 obtain ⟨d,ed,n,rfl⟩:=zoK (P:=fun d=>∃ n,d = .int n) (ds:=[PyData.int 0,PyData.int 1,PyData.int (-1),PyData.int ((zaD ps ts - zZ ps ts) / 2),PyData.int ((zaD ps ts - zZ ps ts) / 3),PyData.int (zaD ps ts - zZ ps ts + 1),PyData.int (zaD ps ts - zZ ps ts),PyData.int (zaD ps ts - zZ ps ts - 1)]) r0 r1 (by simp)
 walk_at "d"
 refine ⟨_,ed,?_⟩
 walk_at "d"
 (refine seq1 ?_; walk_at "d")
 refine .inl ⟨⟨by decide,by decide +kernel⟩,?_⟩
 walk_at "d"
 refine zM hp2 (by decide) (by decide +kernel) fun r' p3 r2 r3 hp3=>?_
 obtain ⟨d,ed,n',rfl,h0⟩:=zoK (P:=fun d=>∃ n,d = .int n/\0 <= n) (ds:=[PyData.int 0,PyData.int 1,PyData.int 2,PyData.int ((zaD ps ts - zZ ps ts) / 2),PyData.int (zaD ps ts - zZ ps ts),PyData.int (zaD ps ts - zZ ps ts + 2)]) r2 r3 (by simp; omega)
 walk_at "d"
 refine ⟨_,ed,?_⟩
 walk_at "d"
 exact q ⟨ts,_,_⟩ p3 ⟨hts,by simp only; omega⟩ hp3
end
section
variable {R:RX} {S:Sto}
def zvd (C:Addr):Str:=if C = 37 then "span" else if C = 49 then "part" else if C = 61 then "set" else if C = 161 then "text" else if C = 73 then "row" else if C = 85 then "unlike" else if C = 104 then "drawing" else if C = 123 then "gap" else if C = 142 then "offer" else "great"
theorem zow {C D:Addr} {fs:List (Str × PyData)} (hC:C ∈ excs) (hD:D ∈ excs) (q:R (.d (.bool (decide (C = D)))) S):zkx [.x C fs,.o (.ref D)] S R:=⟨C,fs,_,rfl,rfl,hC,.inl ⟨D,rfl,hD,q⟩⟩
theorem zwE {C:Addr} {fs:List (Str × PyData)} (hC:C ∈ excs) (q:R (.d (.bool true)) S):zkx [.x C fs,.o (.ty "ValueError")] S R:=⟨C,fs,_,rfl,rfl,hC,.inr ⟨rfl,q⟩⟩
theorem zjO {C:Addr} {fs:List (Str × PyData)} (hC:C ∈ excs) (q:R (.d (.str (zvd C))) []):zdV [.x C fs] [] R:=by
 unfold zdV
 walk_at "d"
 (refine seq1 ?_; walk_at "d")
 refine zow hC (by decide) ?_
 walk_at "d"
 refine zow hC (by decide) ?_
 walk_at "d"
 refine zow hC (by decide) ?_
 walk_at "d"
 refine zow hC (by decide) ?_
 walk_at "d"
 (refine seq1 ?_; walk_at "d")
 refine zow hC (by decide) ?_
 walk_at "d"
 refine zow hC (by decide) ?_
 walk_at "d"
 refine zow hC (by decide) ?_
 walk_at "d"
 refine zow hC (by decide) ?_
 walk_at "d"
 (refine seq1 ?_; walk_at "d")
 refine zow hC (by decide) ?_
 walk_at "d"
 refine zow hC (by decide) ?_
 walk_at "d"
 (refine seq1 ?_; walk_at "d")
 refine zwE hC ?_
 walk_at "d"
 refine ⟨[decide (C = 37),decide (C = 49),decide (C = 61),decide (C = 161),decide (C = 73),decide (C = 85),decide (C = 104),decide (C = 123),decide (C = 142),decide (C = 180)],rfl,?_⟩
 have sh:∀ bs:List Bool,SeqAt.shaped (.list (bs.map PyData.bool)) = true:=fun bs=>(zhN (zhQ fun _ _=>(zky:Shp 0 _))).ok
 simp only [excs,List.mem_cons,List.not_mem_nil,or_false] at hC
 rcases hC with rfl | rfl | rfl | rfl | rfl | rfl | rfl | rfl | rfl | rfl
 ·rw [if_neg (by decide)]
  (refine seq1 ?_; walk_at "d")
  exact ⟨sh [true,false,false,false,false,false,false,false,false,false],0,⟨_,rfl,rfl⟩,(fun m e hm he=>by rcases m with _ | _ | _ | _ | _ | _ | _ | _ | _ | m <;> first | (exfalso; omega) | (cases he; rfl)),_,rfl,q⟩
 ·rw [if_neg (by decide)]
  (refine seq1 ?_; walk_at "d")
  exact ⟨sh [false,true,false,false,false,false,false,false,false,false],1,⟨_,rfl,rfl⟩,(fun m e hm he=>by rcases m with _ | _ | _ | _ | _ | _ | _ | _ | _ | m <;> first | (exfalso; omega) | (cases he; rfl)),_,rfl,q⟩
 ·rw [if_neg (by decide)]
  (refine seq1 ?_; walk_at "d")
  exact ⟨sh [false,false,true,false,false,false,false,false,false,false],2,⟨_,rfl,rfl⟩,(fun m e hm he=>by rcases m with _ | _ | _ | _ | _ | _ | _ | _ | _ | m <;> first | (exfalso; omega) | (cases he; rfl)),_,rfl,q⟩
 ·rw [if_neg (by decide)]
  (refine seq1 ?_; walk_at "d")
  exact ⟨sh [false,false,false,false,true,false,false,false,false,false],4,⟨_,rfl,rfl⟩,(fun m e hm he=>by rcases m with _ | _ | _ | _ | _ | _ | _ | _ | _ | m <;> first | (exfalso; omega) | (cases he; rfl)),_,rfl,q⟩
 ·rw [if_neg (by decide)]
  (refine seq1 ?_; walk_at "d")
  exact ⟨sh [false,false,false,false,false,true,false,false,false,false],5,⟨_,rfl,rfl⟩,(fun m e hm he=>by rcases m with _ | _ | _ | _ | _ | _ | _ | _ | _ | m <;> first | (exfalso; omega) | (cases he; rfl)),_,rfl,q⟩
 ·rw [if_neg (by decide)]
  (refine seq1 ?_; walk_at "d")
  exact ⟨sh [false,false,false,false,false,false,true,false,false,false],6,⟨_,rfl,rfl⟩,(fun m e hm he=>by rcases m with _ | _ | _ | _ | _ | _ | _ | _ | _ | m <;> first | (exfalso; omega) | (cases he; rfl)),_,rfl,q⟩
 ·rw [if_neg (by decide)]
  (refine seq1 ?_; walk_at "d")
  exact ⟨sh [false,false,false,false,false,false,false,true,false,false],7,⟨_,rfl,rfl⟩,(fun m e hm he=>by rcases m with _ | _ | _ | _ | _ | _ | _ | _ | _ | m <;> first | (exfalso; omega) | (cases he; rfl)),_,rfl,q⟩
 ·rw [if_neg (by decide)]
  (refine seq1 ?_; walk_at "d")
  exact ⟨sh [false,false,false,false,false,false,false,false,true,false],8,⟨_,rfl,rfl⟩,(fun m e hm he=>by rcases m with _ | _ | _ | _ | _ | _ | _ | _ | _ | m <;> first | (exfalso; omega) | (cases he; rfl)),_,rfl,q⟩
 ·rw [if_neg (by decide)]
  (refine seq1 ?_; walk_at "d")
  exact ⟨sh [false,false,false,true,false,false,false,false,false,false],3,⟨_,rfl,rfl⟩,(fun m e hm he=>by rcases m with _ | _ | _ | _ | _ | _ | _ | _ | _ | m <;> first | (exfalso; omega) | (cases he; rfl)),_,rfl,q⟩
 ·rw [if_neg (by decide)]
  (refine seq1 ?_; walk_at "d")
  exact ⟨sh [false,false,false,false,false,false,false,false,false,true],9,⟨_,rfl,rfl⟩,(fun m e hm he=>by rcases m with _ | _ | _ | _ | _ | _ | _ | _ | _ | m <;> first | (exfalso; omega) | (cases he; rfl)),_,rfl,q⟩
end
section
variable {R:RX} {S:Sto}
theorem zuJ {κ α:Type} [DecidableEq κ] {p:κ × α} {r:List (κ × α)} {k:κ} {v:α} (h:p.1 ≠ k):ptA (p :: r) k v = p :: ptA r k v:=by
 unfold ptA
 simp only [List.any_cons,decide_eq_false h,Bool.false_or]
 split
 ·simp [h]
 ·simp
theorem zuP {κ α:Type} [DecidableEq κ] {p:κ × α} {r:List (κ × α)} {k:κ} {v:α} (h:p.1 = k) (hn:∀ q ∈ r,q.1 ≠ k):ptA (p :: r) k v = (k,v) :: r:=by
 unfold ptA
 rw [if_pos (by simp [h]),List.map_cons,if_pos h,h]
 congr 1
 have e:List.map (fun p:κ × α=>if p.1 = k then (p.1,v) else p) r = List.map id r:=List.map_congr_left fun q m=>if_neg (hn q m)
 rw [e,List.map_id]
abbrev Tal:=List (Int × Int)
def zbc (t:Tal):List (Key × PyData):=t.map fun p=>((Sum.inl p.1:Key),PyData.int p.2)
def zeH (t:Tal):PyData:=.dict (DD.pairs (.k (zbc t)))
def tsum (t:Tal) (f:Int->Int):Int:=(t.map fun p=>p.2 * f p.1).sum
def ind (k:Int):Int->Int:=fun w=>if w = k then 1 else 0
def tget (t:Tal) (k:Int):Int:=tsum t (ind k)
def tadd:Tal->Int->Int->Tal
 | [],k,n=>[(k,n)]
 | p :: r,k,n=>if p.1 = k then (k,p.2 + n) :: r else p :: tadd r k n
def kys (t:Tal):List Int:=t.map (·.1)
theorem zpp (f:Int->Int):tsum [] f = 0:=rfl
theorem zap (p:Int × Int) (t:Tal) (f:Int->Int):tsum (p :: t) f = p.2 * f p.1 + tsum t f:=by simp [tsum]
theorem zoD (t u:Tal) (f:Int->Int):tsum (t ++ u) f = tsum t f + tsum u f:=by simp [tsum]
theorem zbq (p:Int × Int) (t:Tal):kys (p :: t) = p.1 :: kys t:=rfl
theorem zhB {p:Int × Int} {t:Tal} (h:p ∈ t):p.1 ∈ kys t:=List.mem_map.mpr ⟨p,h,rfl⟩
theorem zcg:∀ {t:Tal} {k:Int},k ∉ kys t->tget t k = 0
 | [],_,_=>rfl
 | p :: t,k,h=>by
  rw [zbq,List.mem_cons,not_or] at h
  unfold tget
  rw [zap,ind,if_neg (Ne.symm h.1)]
  have:=zcg h.2
  unfold tget at this
  omega
theorem ziE:∀ {t:Tal} {k:Int},(kys t).Nodup->(lkA (zbc t) (Sum.inl k)).getD (.int 0) = .int (tget t k)
 | [],_,_=>rfl
 | p :: t,k,h=>by
  rw [zbq,List.nodup_cons] at h
  by_cases e:p.1 = k
  ·subst e
   have h0:=zcg h.1
   unfold tget at h0 ⊢
   rw [zap,h0,ind,if_pos rfl]
   simp [zbc,lkA]
  ·have e2:lkA (zbc (p :: t)) (Sum.inl k) = lkA (zbc t) (Sum.inl k):=by simp [zbc,lkA,e]
   rw [e2,ziE h.2]
   unfold tget
   rw [zap,ind,if_neg e,Int.mul_zero,Int.zero_add]
theorem zvi {t:Tal} {k:Int} (hk:k ∈ kys t) (h:(kys t).Nodup):lkA (zbc t) (Sum.inl k) = some (.int (tget t k)):=by
 have e:=ziE (k:=k) h
 cases hl:lkA (zbc t) (Sum.inl k) with
 | some d=>rw [hl] at e; exact congrArg some e
 | none =>
  exfalso
  obtain ⟨p,m,rfl⟩:=List.mem_map.mp hk
  unfold lkA at hl
  rw [Option.map_eq_none_iff,List.find?_eq_none] at hl
  exact hl ((Sum.inl p.1:Key),.int p.2) (List.mem_map.mpr ⟨p,m,rfl⟩) (by simp)
theorem zqr:∀ {t:Tal} {k n:Int},(kys t).Nodup->ptA (zbc t) (Sum.inl k) (.int (tget t k + n)) = zbc (tadd t k n)
 | [],k,n,_=>by
  have:tget [] k = 0:=rfl
  rw [this,Int.zero_add]
  rfl
 | p :: t,k,n,h=>by
  rw [zbq,List.nodup_cons] at h
  unfold tadd
  by_cases e:p.1 = k
  ·rw [if_pos e]
   subst e
   have h0:=zcg h.1
   have hg:tget (p :: t) p.1 = p.2:=by
    unfold tget at h0 ⊢
    rw [zap,h0,ind,if_pos rfl]
    omega
   rw [hg]
   refine zuP rfl fun q m z=>?_
   obtain ⟨x,mx,rfl⟩:=List.mem_map.mp m
   have z':x.1 = p.1:=by simpa using z
   exact h.1 (z' ▸ zhB mx)
  ·rw [if_neg e]
   have hg:tget (p :: t) k = tget t k:=by
    unfold tget
    rw [zap,ind,if_neg e,Int.mul_zero,Int.zero_add]
   rw [hg]
   show ptA (((Sum.inl p.1:Key),PyData.int p.2) :: zbc t) _ _ = ((Sum.inl p.1:Key),PyData.int p.2) :: zbc (tadd t k n)
   rw [zuJ (by simpa using e),zqr h.2]
theorem zj9:∀ (t:Tal) (k n:Int) (f:Int->Int),tsum (tadd t k n) f = tsum t f + n * f k
 | [],k,n,f=>by simp [tadd,tsum]
 | p :: t,k,n,f=>by
  unfold tadd
  split
  ·rename_i e
   rw [zap,zap,e]
   show (p.2 + n) * f k + tsum t f = p.2 * f k + tsum t f + n * f k
   rw [Int.add_mul]
   omega
  ·rw [zap,zap,zj9 t k n f]
   omega
theorem zj2:∀ {t:Tal} {k n x:Int},x ∈ kys (tadd t k n) ↔ x ∈ kys t\/x = k
 | [],k,n,x=>by simp [tadd,kys]
 | p :: t,k,n,x=>by
  unfold tadd
  split
  ·rename_i e
   rw [zbq,zbq,List.mem_cons,List.mem_cons,e]
   constructor
   ·rintro (h | h)
    ·exact .inr h
    ·exact .inl (.inr h)
   ·rintro ((h | h) | h)
    ·exact .inl h
    ·exact .inr h
    ·exact .inl h
  ·rw [zbq,zbq,List.mem_cons,List.mem_cons,zj2]
   exact or_assoc.symm
theorem zpH:∀ {t:Tal} {k n:Int},(kys t).Nodup->(kys (tadd t k n)).Nodup
 | [],k,n,_=>by simp [tadd,kys]
 | p :: t,k,n,h=>by
  rw [zbq,List.nodup_cons] at h
  unfold tadd
  split
  ·rename_i e
   rw [zbq,List.nodup_cons]
   exact ⟨e ▸ h.1,h.2⟩
  ·rename_i e
   rw [zbq,List.nodup_cons]
   refine ⟨fun m=>?_,zpH h.2⟩
   rcases zj2.mp m with m | m
   ·exact h.1 m
   ·exact e m
theorem znr:∀ {t:Tal} {k n:Int},(∀ p ∈ t,0 < p.2)->0 < n->∀ p ∈ tadd t k n,0 < p.2
 | [],k,n,_,hn,p,m=>by
  rw [tadd,List.mem_singleton] at m
  rw [m]
  exact hn
 | x :: t,k,n,h,hn,p,m=>by
  unfold tadd at m
  split at m
  ·rcases List.mem_cons.mp m with rfl | m
   ·have:=h x List.mem_cons_self
    show 0 < x.2 + n
    omega
   ·exact h p (List.mem_cons_of_mem _ m)
  ·rcases List.mem_cons.mp m with rfl | m
   ·exact h _ List.mem_cons_self
   ·exact znr (fun q mq=>h q (List.mem_cons_of_mem _ mq)) hn p m
theorem zpZ:∀ (n:Nat) (lo:Int) (l:List Int),l.Nodup->(∀ x ∈ l,lo <= x/\x < lo + n)->l.length <= n
 | 0,lo,l,_,h=>by
  cases l with
  | nil=>exact Nat.le_refl _
  | cons x l=>have:=h x List.mem_cons_self; omega
 | n + 1,lo,l,hn,h=>by
  have ih:=zpZ n lo (l.erase (lo + n)) (hn.erase _) fun x m=>by
   rw [hn.mem_erase_iff] at m
   have:=h x m.2
   omega
  have:=List.length_erase (a:=lo + (n:Int)) (l:=l)
  split at this <;> omega
structure Tl (t:Tal) (lo hi:Int):Prop where
 nd:(kys t).Nodup
 bd:∀ x ∈ kys t,lo <= x/\x <= hi
 pos:∀ p ∈ t,0 < p.2
theorem Tl.len {t:Tal} {lo hi:Int} (h:Tl t lo hi):t.length <= (hi - lo + 1).toNat:=by
 have:=zpZ (hi - lo + 1).toNat lo (kys t) h.nd fun x m=>by
  have:=h.bd x m
  omega
 simpa [kys] using this
theorem Tl.add {t:Tal} {lo hi k n:Int} (h:Tl t lo hi) (h1:lo <= k) (h2:k <= hi) (hn:0 < n):Tl (tadd t k n) lo hi:=⟨zpH h.nd,fun x m=>by
 rcases zj2.mp m with m | m
 ·exact h.bd x m
 ·rw [m]; exact ⟨h1,h2⟩,znr h.pos hn⟩
theorem Tl.one:Tl [(0,1)] 0 0:=⟨by simp [kys],by simp [kys],by simp⟩
theorem Tl.nil {lo hi:Int}:Tl [] lo hi:=⟨by simp [kys],by simp [kys],by simp⟩
def rsum (a:Int) (n:Nat) (f:Int->Int):Int:=((List.range n).map fun k:Nat=>f (a + k)).sum
theorem zeW (a:Int) (f:Int->Int):rsum a 0 f = 0:=rfl
theorem zaE (a:Int) (n:Nat) (f:Int->Int):rsum a (n + 1) f = rsum a n f + f (a + n):=by
 unfold rsum
 rw [List.range_succ,List.map_append,List.sum_append]
 simp
theorem zbI {a:Int}:∀ {n:Nat} {f g:Int->Int},(∀ x,a <= x->x < a + n->f x = g x)->rsum a n f = rsum a n g
 | 0,f,g,_=>rfl
 | n + 1,f,g,h=>by
  rw [zaE,zaE,zbI (n:=n) fun x h1 h2=>h x h1 (by omega),h (a + n) (by omega) (by omega)]
theorem zkR (a c:Int) (f:Int->Int):∀ n:Nat,rsum a n (fun x=>c * f x) = c * rsum a n f
 | 0=>by simp [zeW]
 | n + 1=>by rw [zaE,zaE,zkR a c f n,Int.mul_add]
theorem zbl (a c:Int):∀ n:Nat,rsum a n (fun _=>c) = n * c
 | 0=>by simp [zeW]
 | n + 1=>by
  rw [zaE,zbl a c n,Int.natCast_add,Int.add_mul]
  simp
theorem zfR {a:Int} {f g:Int->Int}:∀ {n:Nat},(∀ x,a <= x->x < a + n->f x <= g x)->rsum a n f <= rsum a n g
 | 0,_=>Int.le_refl _
 | n + 1,h=>by
  rw [zaE,zaE]
  have h1:=zfR (n:=n) fun x h1 h2=>h x h1 (by omega)
  have h2:=h (a + n) (by omega) (by omega)
  omega
theorem zf9 {f:Int->Int} (hf:∀ x,0 <= f x):∀ {t:Tal},(∀ p ∈ t,0 < p.2)->0 <= tsum t f
 | [],_=>Int.le_refl _
 | p :: t,h=>by
  rw [zap]
  have h1:=zf9 hf fun q m=>h q (List.mem_cons_of_mem _ m)
  have h2:=Int.mul_nonneg (Int.le_of_lt (h p List.mem_cons_self)) (hf p.1)
  omega
theorem zrd {f:Int->Int} (hf:∀ x,0 <= f x):∀ {t:Tal} {p:Int × Int},(∀ p ∈ t,0 < p.2)->p ∈ t->p.2 * f p.1 <= tsum t f
 | q :: t,p,h,m=>by
  rw [zap]
  have h1:=zf9 hf fun q m=>h q (List.mem_cons_of_mem _ m)
  have h2:=Int.mul_nonneg (Int.le_of_lt (h q List.mem_cons_self)) (hf q.1)
  rcases List.mem_cons.mp m with rfl | m
  ·omega
  ·have:=zrd hf (fun q m=>h q (List.mem_cons_of_mem _ m)) m
   omega
theorem zkp {t:Tal} (nd:(kys t).Nodup) {p:Int × Int} (m:p ∈ t):tget t p.1 = p.2:=by
 induction t with
 | nil=>cases m
 | cons q t ih =>
  rw [zbq,List.nodup_cons] at nd
  unfold tget at ih ⊢
  rw [zap]
  rcases List.mem_cons.mp m with rfl | m
  ·have:=zcg nd.1
   unfold tget at this
   rw [this,ind,if_pos rfl]
   omega
  ·have ne:q.1 ≠ p.1:=fun z=>nd.1 (z ▸ zhB m)
   rw [ih nd.2 m,ind,if_neg ne]
   omega
abbrev Row:=Int × Nat × Int
def fw:List Row->(Int->Int)->Int
 | [],f=>f 0
 | r :: rs,f=>rsum r.1 r.2.1 fun x=>fw rs fun w=>f (w + r.2.2 * x)
theorem zob (c:Int):∀ (rs:List Row) (f:Int->Int),fw rs (fun w=>c * f w) = c * fw rs f
 | [],f=>rfl
 | r :: rs,f=>by
  unfold fw
  rw [<- zkR]
  exact zbI fun x _ _=>zob c rs _
theorem zhS:∀ (rs:List Row) {f g:Int->Int},(∀ w,f w <= g w)->fw rs f <= fw rs g
 | [],f,g,h=>h 0
 | r :: rs,f,g,h=>by
  unfold fw
  exact zfR fun x _ _=>zhS rs fun w=>h _
def busy (rs:List Row):List Row:=rs.filter fun r=>r.2.2 != 0
theorem zpG:∀ rs:List Row,fw rs (fun _=>1) = (rs.map fun r=>(r.2.1:Int)).prod
 | []=>rfl
 | r :: rs=>by
  show (rsum r.1 r.2.1 fun x=>fw rs fun _=>1) = _
  rw [zpG rs,zbl,List.map_cons,List.prod_cons]
def rLo (r:Row):Int:=min (r.2.2 * r.1) (r.2.2 * (r.1 + r.2.1 - 1))
def rHi (r:Row):Int:=max (r.2.2 * r.1) (r.2.2 * (r.1 + r.2.1 - 1))
def zgO (rs:List Row):Int:=(rs.map rLo).sum
def zgN (rs:List Row):Int:=(rs.map rHi).sum
theorem zqN (r:Row):rLo r <= rHi r:=by unfold rLo rHi; omega
theorem ztu {r:Row} {x:Int} (h1:r.1 <= x) (h2:x < r.1 + r.2.1):rLo r <= r.2.2 * x/\r.2.2 * x <= rHi r:=by
 unfold rLo rHi
 have h3:x <= r.1 + r.2.1 - 1:=by omega
 rcases Int.le_total 0 r.2.2 with h | h
 ·have a1:=Int.mul_le_mul_of_nonneg_left h1 h
  have a2:=Int.mul_le_mul_of_nonneg_left h3 h
  omega
 ·have a1:=Int.mul_le_mul_of_nonpos_left h h1
  have a2:=Int.mul_le_mul_of_nonpos_left h h3
  omega
theorem ze0 (t:Tal):DD.itemsD (zbc t) = t.map fun p=>PyData.tuple [.int p.1,.int p.2]:=by
 unfold DD.itemsD zbc
 rw [List.map_map]
 rfl
theorem zgq {g:DG} {b:DSm} {E:DEndsM}:∀ {ds:List PyData} {δ:XE} {S:Sto} {M:DM} (I:Nat->XE->Sto->DM->Prop),I 0 δ S M ->
  (∀ i d δ S M (N:XE->Sto->DM->Prop),ds[i]? = some d->I i δ S M->(∀ δ' S' M',I (i + 1) δ' S' M'->N δ' S' M')->g (.d d) δ S fun δ1 S1=>b { nx:=N,ct:=N,bk:=E.nx,rt:=E.rt } δ1 S1 M) ->
  (∀ δ S M,I ds.length δ S M->E.nx δ S M)->zfp g b ds E δ S M
 | [],δ,S,M,I,h0,_,fin=>fin δ S M h0
 | d :: ds,δ,S,M,I,h0,step,fin=>by
  show g (.d d) δ S fun δ1 S1=>b _ δ1 S1 M
  refine step 0 d δ S M _ rfl h0 fun δ' S' M' h1=>?_
  exact zgq (ds:=ds) (fun i=>I (i + 1)) h1 (fun i e δ S M N hi=>step (i + 1) e δ S M N (by simpa using hi)) fin
theorem znM (g:Gap) (w:Int):∀ t:Tal,((t.filter fun p=>decide (g.lo <= w + p.1) && decide (w + p.1 <= g.hi)).map (·.2)).sum = tsum t fun x=>if g.lo <= w + x/\w + x <= g.hi then 1 else 0
 | []=>rfl
 | p :: t=>by
  rw [zap,<- znM g w t]
  by_cases h1:g.lo <= w + p.1 <;> by_cases h2:w + p.1 <= g.hi <;> simp [h1,h2]
def inG (g:Gap) (w:Int):Int->Int:=fun x=>if g.lo <= w + x/\w + x <= g.hi then 1 else 0
theorem zg3 {t:Tal} {g:Gap} {w:Int} (hl:t.length <= 1000) (q:R (.d (.int (tsum t (inG g w)))) []):zam [.d (zeH t),.d (zd6 g),.d (.int w)] [] R:=by
 unfold zam
 rw [zeH,zcs]
 walk_at "d"
 refine ⟨_,rfl,?_⟩
 rw [ze0]
 refine cmf2 (S0:=[]) (fun p:Int × Int=>PyData.int p.2) (fun p=>decide (g.lo <= w + p.1) && decide (w + p.1 <= g.hi)) rfl t hl ?_ ?_
 ·intro p m u v acc R' hk
  walk_at "d"
  by_cases h1:g.lo <= w + p.1
  ·simp only [h1,decide_true,↓reduceIte,Bool.true_and] at hk ⊢
   walk_at "d"
   refine hk _ _ fun _ T hT=>?_
   walk_at "d"
   exact hT
  ·simp only [h1,decide_false,Bool.false_and,Bool.false_eq_true,↓reduceIte] at hk ⊢
   walk_at "d"
   exact hk _ _ fun z=>by cases z
 ·refine ⟨[],_,rfl,rfl,?_⟩
  walk_at "d"
  refine ⟨(t.filter fun p=>decide (g.lo <= w + p.1) && decide (w + p.1 <= g.hi)).map (·.2),by rw [List.map_map]; rfl,?_⟩
  rw [znM g w t]
  exact q
theorem zlg:∀ (kvs acc:List (Key × PyData)),((acc ++ kvs).map (·.1)).Nodup->kvs.foldl (fun m p=>ptA m p.1 p.2) acc = acc ++ kvs
 | [],acc,_=>by simp
 | p :: r,acc,h=>by
  have e:ptA acc p.1 p.2 = acc ++ [p]:=by
   unfold ptA
   rw [if_neg]
   rw [List.any_eq_true]
   rintro ⟨x,m,e⟩
   rw [List.map_append,List.nodup_append] at h
   exact h.2.2 x.1 (List.mem_map.mpr ⟨x,m,rfl⟩) p.1 (List.mem_map.mpr ⟨p,List.mem_cons_self,rfl⟩) (of_decide_eq_true e)
  rw [List.foldl_cons,e,zlg r (acc ++ [p]) (by rw [List.append_assoc]; exact h),List.append_assoc]
  rfl
theorem zeM {kvs:List (Key × PyData)} (h:(kvs.map (·.1)).Nodup):zlk kvs = kvs:=by
 unfold zlk
 rw [zlg kvs [] (by simpa using h)]
 rfl
theorem zpm (t:Tal):(zbc t).map (·.1) = (kys t).map fun x=>(Sum.inl x:Key):=by
 unfold zbc kys
 rw [List.map_map,List.map_map]
 rfl
theorem zgy {t:Tal} (h:(kys t).Nodup):((zbc t).map (·.1)).Nodup:=by
 rw [zpm]
 exact List.Pairwise.map _ (fun a b ne e=>ne (by injection e)) h
def cnt (a b:Int):Nat:=(b - a + 1).toNat
theorem zhp (c:Int) (f:Int->Int):∀ t:Tal,tsum (t.map fun p=>(p.1,p.2 * c)) f = c * tsum t f
 | []=>by simp [tsum]
 | p :: t=>by
  rw [List.map_cons,zap,zap,zhp c f t,Int.mul_add]
  simp only
  rw [Int.mul_assoc,Int.mul_left_comm]
theorem zjV {α:Type} {l:List α} {i:Nat} {x:α} (h:l[i]? = some x):l.take (i + 1) = l.take i ++ [x]:=by
 rw [List.take_add_one,h]
 rfl
theorem zfu {t:Tal} {a b m lo hi:Int} (ht:Tl t lo hi) (hab:a <= b) (hl:t.length <= 900) (hv:m = 0->(∀ p ∈ t,p.2 < 2 ^ 1700)/\b - a + 1 < 2 ^ 1700)
  (hm:m ≠ 0->-3 <= m/\m <= 3) (hw:m ≠ 0->hi + rHi (a,cnt a b,m) - (lo + rLo (a,cnt a b,m)) < 900)
  (q:∀ t',Tl t' (lo + rLo (a,cnt a b,m)) (hi + rHi (a,cnt a b,m))->(∀ f,tsum t' f = rsum a (cnt a b) fun x=>tsum t fun w=>f (w + m * x))->R (.d (zeH t')) []):zch [.d (zeH t),.d (spD a b),.d (.int m)] [] R:=by
 unfold zch
 rw [zeH]
 walk_at "d"
 refine seq1 ?_
 walk_at "d"
 by_cases h0:m = 0
 ·subst h0
  obtain ⟨hv1,hv2⟩:=hv rfl
  walk_at "d"
  refine ⟨_,rfl,?_⟩
  rw [ze0]
  refine cmp2 (S0:=[]) (fun p:Int × Int=>PyData.tuple [.int p.1,.int (p.2 * (b - a + 1))]) rfl t (by omega) ?_ ?_
  ·intro p mp u v acc R' hk
   walk_at "d"
   refine ze4 ?_
   walk_at "d"
   have hp:=ht.pos p mp
   have hb:=hv1 p mp
   exact ⟨zrF 1700 1700 (by omega) (by omega),hk _ _⟩
  ·refine ⟨[],_,rfl,rfl,?_⟩
   walk_at "d"
   refine ⟨zbc (t.map fun p=>(p.1,p.2 * (b - a + 1))),by unfold zbc; rw [List.map_map,List.map_map]; rfl,by simp [zbc]; omega,?_⟩
   have nk:(kys (t.map fun p=>(p.1,p.2 * (b - a + 1)))) = kys t:=by unfold kys; rw [List.map_map]; rfl
   rw [zeM (zgy (by rw [nk]; exact ht.nd))]
   have z0:rLo (a,cnt a b,0) = 0:=by simp [rLo]
   have z1:rHi (a,cnt a b,0) = 0:=by simp [rHi]
   refine q _ ⟨by rw [nk]; exact ht.nd,by rw [nk,z0,z1]; simpa using ht.bd,fun p mp=>?_⟩ fun f=>?_
   ·obtain ⟨x,mx,rfl⟩:=List.mem_map.mp mp
    exact Int.mul_pos (ht.pos x mx) (by omega)
   ·have e:(fun x:Int=>tsum t fun w=>f (w + 0 * x)) = fun _=>tsum t f:=by
     funext x
     congr 1
     funext w
     simp
    rw [zhp,e,zbl]
    congr 1
    unfold cnt
    omega
 ·obtain ⟨m1,m2⟩:=hm h0
  have hw':=hw h0
  rw [if_neg h0]
  refine seq1 ?_
  walk_at "d"
  intro ad _
  unfold spD
  walk_at "d"
  have ec:(b + 1 - a).toNat = cnt a b:=by unfold cnt; congr 1; omega
  rw [ec]
  refine zgq (fun i δ S M=>∃ (t':Tal) (u4 u5 u6 u7:Option XV),S = []/\M = [(ad,.k (zbc t'))]/\Tl t' (lo + rLo (a,cnt a b,m)) (hi + rHi (a,cnt a b,m))/\(∀ f,tsum t' f = rsum a i fun x=>tsum t fun w=>f (w + m * x))/\δ = [some (.d (.dict (DD.pairs (.k (zbc t))))),some (.d (.tuple [.int a,.int b])),some (.d (.int m)),some (.o (.ref ad)),u4,u5,u6,u7]) ⟨[],_,_,_,_,rfl,rfl,Tl.nil,fun f=>rfl,rfl⟩ ?_ ?_
  ·rintro i d _ _ _ N hii ⟨t1,u4,u5,u6,u7,rfl,rfl,ht1,hs1,rfl⟩ hN
   obtain ⟨hi',rfl⟩:=zco hii
   walk_at "d"
   refine ⟨_,rfl,?_⟩
   rw [ze0]
   refine zgq (fun j δ S M=>∃ (t':Tal) (u5 u6 u7:Option XV),S = []/\M = [(ad,.k (zbc t'))]/\Tl t' (lo + rLo (a,cnt a b,m)) (hi + rHi (a,cnt a b,m))/\(∀ f,tsum t' f = tsum t1 f + tsum (t.take j) fun w=>f (w + m * (a + i)))/\δ = [some (.d (.dict (DD.pairs (.k (zbc t))))),some (.d (.tuple [.int a,.int b])),some (.d (.int m)),some (.o (.ref ad)),some (.d (.int (a + i))),u5,u6,u7]) ⟨t1,_,_,_,rfl,rfl,ht1,fun f=>by simp [tsum],rfl⟩ ?_ ?_
   ·rintro j d _ _ _ N2 hj ⟨t2,v5,v6,v7,rfl,rfl,ht2,hs2,rfl⟩ hN2
    obtain ⟨p,ep,rfl⟩:=zfj hj
    have mp:=List.mem_of_getElem? ep
    have hpos:=ht.pos p mp
    have hbd:=ht.bd p.1 (zhB mp)
    have hr:=ztu (r:=(a,cnt a b,m)) (x:=a + i) (by show a <= a + i; omega) (by show a + (i:Int) < a + (cnt a b:Nat); omega)
    have hr1:rLo (a,cnt a b,m) <= m * (a + i):=hr.1
    have hr2:m * (a + i) <= rHi (a,cnt a b,m):=hr.2
    have h3:=ht2.add (k:=p.1 + m * (a + i)) (n:=p.2) (by omega) (by omega) hpos
    have hlen:=ht2.len
    walk_at "d"
    refine seqm ?_
    walk_at "d"
    refine ⟨zcE (by omega) (by omega),?_⟩
    walk_at "d"
    refine ⟨.k (zbc t2),.inl ⟨ad,rfl,by simp⟩,?_⟩
    walk_at "d"
    refine ⟨lkA (zbc t2) (Sum.inl (p.1 + m * (a + i))),rfl,?_⟩
    rw [ziE ht2.nd]
    walk_at "d"
    refine ⟨ad,rfl,?_⟩
    walk_at "d"
    refine ⟨.k (zbc t2),.k (zbc (tadd t2 (p.1 + m * (a + i)) p.2)),by simp,?_,?_,hN2 _ _ _ ⟨tadd t2 (p.1 + m * (a + i)) p.2,_,_,_,rfl,?_,h3,fun f=>?_,rfl⟩⟩
    ·show some (DD.k (ptA (zbc t2) (Sum.inl (p.1 + m * (a + i))) (.int (tget t2 (p.1 + m * (a + i)) + p.2)))) = _
     rw [zqr ht2.nd]
    ·show (zbc t2).length < 1000
     unfold zbc
     rw [List.length_map]
     omega
    ·simp [zsv]
    ·rw [zj9,hs2 f,zjV ep,zoD,zap,zpp]
     omega
   ·rintro _ _ _ ⟨t2,v5,v6,v7,rfl,rfl,ht2,hs2,rfl⟩
    refine hN _ _ _ ⟨t2,_,_,_,_,rfl,rfl,ht2,fun f=>?_,rfl⟩
    rw [List.length_map,List.take_length] at hs2
    rw [hs2 f,hs1 f,zaE]
  ·rintro _ _ _ ⟨t2,u4,u5,u6,u7,rfl,rfl,ht2,hs2,rfl⟩
   rw [zah] at hs2
   refine ⟨[],zbc t2,rfl,rfl,_,rfl,?_⟩
   have e:zrT ad (zbc t2) (XV.o (V.ref ad)) = .d (zeH t2):=by simp [zrT,zeH]
   rw [e]
   walk_at "d"
   exact q t2 ht2 hs2
def tmT (ts:List Term):Tal:=ts.map fun t:Term=>((t.1:Int),t.2)
def zcA (ts:List Term) (k:Nat):Int:=tget (tmT ts) k
theorem zhX (ts:List Term):kys (tmT ts) = ts.map fun t:Term=>(t.1:Int):=by
 unfold kys tmT
 rw [List.map_map]
 rfl
theorem zey {ts:List Term} (h:ts.Pairwise fun t u=>t.1 < u.1):(kys (tmT ts)).Nodup:=by
 rw [zhX]
 exact List.Pairwise.map _ (fun a b l e=>by omega) h
def zbG (ps:List Part) (ts:List Term) (k:Nat):Row:=(plo ps k,cnt (plo ps k) (phi ps k),zcA ts k)
def zoy (ps:List Part) (t:Term):Row:=(plo ps t.1,cnt (plo ps t.1) (phi ps t.1),t.2)
def zdp (ps:List Part) (ts:List Term) (s n:Nat):List Row:=(List.range' s n).map (zbG ps ts)
def zu (ps:List Part) (ts:List Term):List Row:=zdp ps ts 0 ps.length
theorem zfT (t:Term) (ts:List Term) (k:Nat):zcA (t :: ts) k = (if t.1 = k then t.2 else 0) + zcA ts k:=by
 unfold zcA tget tmT
 rw [List.map_cons,zap]
 unfold ind
 by_cases h:t.1 = k
 ·simp [h]
 ·have:¬ ((t.1:Int) = (k:Int)):=by omega
  simp [h,this]
theorem zis {ts:List Term} {k:Nat} (h:∀ t ∈ ts,t.1 ≠ k):zcA ts k = 0:=by
 refine zcg fun m=>?_
 rw [zhX] at m
 obtain ⟨t,mt,e⟩:=List.mem_map.mp m
 exact h t mt (by omega)
theorem zfQ (ps:List Part):∀ (n s:Nat) (ts:List Term),(∀ t ∈ ts,s <= t.1/\t.1 < s + n/\t.2 ≠ 0)->(ts.Pairwise fun t u=>t.1 < u.1)->busy (zdp ps ts s n) = ts.map (zoy ps)
 | 0,s,ts,h,_=>by
  cases ts with
  | nil=>rfl
  | cons t ts=>have:=h t List.mem_cons_self; omega
 | n + 1,s,ts,h,hp=>by
  have hc:∀ ts':List Term,(∀ k,s + 1 <= k->zcA ts k = zcA ts' k)->zdp ps ts (s + 1) n = zdp ps ts' (s + 1) n:=fun ts' e=>by
   unfold zdp
   refine List.map_congr_left fun k m=>?_
   rw [List.mem_range'] at m
   obtain ⟨i,_,e'⟩:=m
   unfold zbG
   rw [e k (by omega)]
  have er:zdp ps ts s (n + 1) = zbG ps ts s :: zdp ps ts (s + 1) n:=by
   unfold zdp
   rw [List.range'_succ,List.map_cons]
  rw [er]
  have skip:(∀ t ∈ ts,s + 1 <= t.1)->busy (zbG ps ts s :: zdp ps ts (s + 1) n) = ts.map (zoy ps):=fun h1=>by
   have e0:zcA ts s = 0:=zis fun t m=>by have:=h1 t m; omega
   have eb:busy (zbG ps ts s :: zdp ps ts (s + 1) n) = busy (zdp ps ts (s + 1) n):=by simp [busy,zbG,e0]
   rw [eb]
   exact zfQ ps n (s + 1) ts (fun t m=>⟨h1 t m,by have:=h t m; omega,(h t m).2.2⟩) hp
  cases ts with
  | nil=>exact skip fun t m=>by cases m
  | cons t ts =>
   rw [List.pairwise_cons] at hp
   have ht:=h t List.mem_cons_self
   by_cases e:t.1 = s
   ·have e0:zcA (t :: ts) s = t.2:=by
     rw [zfT,if_pos e,zis fun u m=>by have:=hp.1 u m; omega]
     omega
    have eb:busy (zbG ps (t :: ts) s :: zdp ps (t :: ts) (s + 1) n) = zoy ps t :: busy (zdp ps (t :: ts) (s + 1) n):=by
     have:zbG ps (t :: ts) s = zoy ps t:=by unfold zbG zoy; rw [e0,e]
     rw [this]
     simp [busy,zoy,ht.2.2]
    rw [eb,hc ts fun k hk=>by rw [zfT,if_neg (by omega),Int.zero_add],zfQ ps n (s + 1) ts (fun u m=>⟨by have:=hp.1 u m; omega,by have:=h u (List.mem_cons_of_mem _ m); omega,(h u (List.mem_cons_of_mem _ m)).2.2⟩) hp.2]
    rfl
   ·exact skip fun u m=>by
     rcases List.mem_cons.mp m with rfl | m
     ·omega
     ·have:=hp.1 u m; omega
theorem zj0 {ps:List Part} {ts:List Term} (h:Tms ps.length ts):busy (zu ps ts) = ts.map (zoy ps) :=
 zfQ ps ps.length 0 ts (fun t m=>⟨Nat.zero_le _,by have:=(h.ok t m).1; omega,(h.ok t m).2.1⟩) h.srt
theorem zo2 {r:Row} (h:r.2.2 = 0):rLo r = 0:=by unfold rLo; rw [h]; simp
theorem zoQ {r:Row} (h:r.2.2 = 0):rHi r = 0:=by unfold rHi; rw [h]; simp
theorem zk7:∀ rs:List Row,zgO rs = zgO (busy rs)/\zgN rs = zgN (busy rs)
 | []=>⟨rfl,rfl⟩
 | r :: rs=>by
  have ih:=zk7 rs
  unfold zgO zgN at *
  by_cases h:r.2.2 = 0
  ·have eb:busy (r :: rs) = busy rs:=by simp [busy,h]
   rw [eb,List.map_cons,List.map_cons,List.sum_cons,List.sum_cons,zo2 h,zoQ h,Int.zero_add,Int.zero_add]
   exact ih
  ·have eb:busy (r :: rs) = r :: busy rs:=by simp [busy,h]
   rw [eb,List.map_cons,List.map_cons,List.map_cons,List.map_cons,List.sum_cons,List.sum_cons,List.sum_cons,List.sum_cons,ih.1,ih.2]
   exact ⟨rfl,rfl⟩
theorem ziG {ps:List Part} {t:Term} (h:plo ps t.1 <= phi ps t.1):rLo (zoy ps t) = tLo ps t/\rHi (zoy ps t) = tHi ps t:=by
 unfold rLo rHi zoy tLo tHi cnt
 have e:plo ps t.1 + ((phi ps t.1 - plo ps t.1 + 1).toNat:Int) - 1 = phi ps t.1:=by omega
 simp only
 rw [e]
 exact ⟨rfl,rfl⟩
theorem zfJ {ps:List Part} {ts:List Term} (ho:Ord ps) (h:Tms ps.length ts):zgO (zu ps ts) = zZ ps ts/\zgN (zu ps ts) = zaD ps ts:=by
 have hb:=zk7 (zu ps ts)
 rw [zj0 h] at hb
 rw [hb.1,hb.2]
 unfold zgO zgN zZ zaD
 rw [List.map_map,List.map_map]
 constructor
 ·congr 1
  exact List.map_congr_left fun t m=>(ziG (ho _ (zbx (h.ok t m).1))).1
 ·congr 1
  exact List.map_congr_left fun t m=>(ziG (ho _ (zbx (h.ok t m).1))).2
theorem zbO (ps:List Part) (ts:List Term):(zu ps ts).length = ps.length:=by simp [zu,zdp]
theorem zc2 {ps:List Part} {ts:List Term} {k:Nat} (h:k < ps.length):(zu ps ts).drop k = zbG ps ts k :: (zu ps ts).drop (k + 1):=by
 rw [List.drop_eq_getElem_cons (by rw [zbO]; exact h)]
 congr 1
 simp [zu,zdp]
theorem zet (rs:List Row):∀ k,zgN (rs.drop k) - zgO (rs.drop k) <= zgN rs - zgO rs
 | 0=>by simp
 | k + 1=>by
  cases rs with
  | nil=>simp
  | cons r rs =>
   have:=zet rs k
   have h2:=zqN r
   rw [List.drop_succ_cons]
   unfold zgN zgO at *
   rw [List.map_cons,List.map_cons,List.sum_cons,List.sum_cons]
   omega
theorem zhb:∀ rs:List Row,zgO rs <= zgN rs
 | []=>Int.le_refl _
 | r :: rs=>by
  have:=zhb rs
  have:=zqN r
  unfold zgN zgO at *
  rw [List.map_cons,List.map_cons,List.sum_cons,List.sum_cons]
  omega
structure Gd (ps:List Part) (ts:List Term) (k:Nat) (t:Tal):Prop where
 tl:Tl t (zgO ((zu ps ts).drop k)) (zgN ((zu ps ts).drop k))
 fw:∀ f,tsum t f = My.fw ((zu ps ts).drop k) f
def Bnd (ps:List Part):Prop:=∀ p ∈ ps,p.2.2 - p.2.1 + 1 < 2 ^ 200
theorem zmD {B:Int} (hB:1 <= B):∀ l:List Int,(∀ x ∈ l,0 <= x/\x <= B)->0 <= l.prod/\l.prod <= B ^ l.length
 | [],_=>by simp
 | x :: l,h=>by
  have ih:=zmD hB l fun y m=>h y (List.mem_cons_of_mem _ m)
  have hx:=h x List.mem_cons_self
  rw [List.prod_cons,List.length_cons,Int.pow_succ,Int.mul_comm _ B]
  exact ⟨Int.mul_nonneg hx.1 ih.1,Int.mul_le_mul hx.2 ih.2 ih.1 (by omega)⟩
theorem zoU {B:Int} (hB:1 <= B) {n m:Nat} (h:n <= m):B ^ n <= B ^ m:=by
 obtain ⟨k,rfl⟩:=Nat.exists_eq_add_of_le h
 rw [Int.pow_add]
 have h1:1 <= B ^ k:=by
  have:0 < B ^ k:=Int.pow_pos (by omega)
  omega
 have h2:0 < B ^ n:=Int.pow_pos (by omega)
 have:=Int.mul_le_mul_of_nonneg_left h1 (Int.le_of_lt h2)
 omega
theorem zqE {ps:List Part} {ts:List Term} (ho:Ord ps) (hb:Bnd ps) (h8:ps.length <= 8) (k:Nat):fw ((zu ps ts).drop k) (fun _=>1) < 2 ^ 1700:=by
 rw [zpG]
 have h:=zmD (B:=2 ^ 200) (by decide) (((zu ps ts).drop k).map fun r=>(r.2.1:Int)) fun x m=>by
  obtain ⟨r,mr,rfl⟩:=List.mem_map.mp m
  have mr:=List.mem_of_mem_drop mr
  unfold zu zdp at mr
  obtain ⟨j,mj,rfl⟩:=List.mem_map.mp mr
  have hj:j < ps.length:=by rw [List.mem_range'] at mj; omega
  have h1:=ho _ (zbx hj)
  have h2:=hb _ (zbx hj)
  unfold zbG cnt plo phi
  simp only
  omega
 have hl:(((zu ps ts).drop k).map fun r=>(r.2.1:Int)).length <= 8:=by rw [List.length_map,List.length_drop,zbO]; omega
 have:=zoU (B:=2 ^ 200) (by decide) hl
 have e:((2:Int) ^ 140) ^ 8 < 2 ^ 1700:=by decide +kernel
 omega
theorem Gd.val {ps:List Part} {ts:List Term} {k:Nat} {t:Tal} (g:Gd ps ts k t) (ho:Ord ps) (hb:Bnd ps) (h8:ps.length <= 8):∀ p ∈ t,p.2 < 2 ^ 1700:=fun p m=>by
 have h:=zrd (f:=fun _=>1) (fun _=>by decide) g.tl.pos m
 have h2:=zqE (ts:=ts) ho hb h8 k
 rw [<- g.fw] at h2
 omega
theorem Gd.len {ps:List Part} {ts:List Term} {k:Nat} {t:Tal} (g:Gd ps ts k t) (ho:Ord ps) (ht:Tms ps.length ts) (hr:zaD ps ts - zZ ps ts < 400):t.length <= 400:=by
 have h1:=g.tl.len
 have h2:=zet (zu ps ts) k
 have h3:=zfJ ho ht
 rw [h3.1,h3.2] at h2
 omega
theorem zhy {n:Nat} {ts:List Term} (h:Tms n ts) (k:Nat):zcA ts k = 0\/∃ t ∈ ts,t.1 = k/\zcA ts k = t.2:=by
 by_cases hk:(k:Int) ∈ kys (tmT ts)
 ·rw [zhX] at hk
  obtain ⟨t,mt,e⟩:=List.mem_map.mp hk
  refine .inr ⟨t,mt,by omega,?_⟩
  have:=zkp (zey h.srt) (p:=((t.1:Int),t.2)) (List.mem_map.mpr ⟨t,mt,rfl⟩)
  unfold zcA
  rw [<- e]
  exact this
 ·exact .inl (zcg hk)
theorem zeL {ps:List Part} {g:Gap} (ho:Ord ps) (hb:Bnd ps) (h8:ps.length <= 8) (ht:Tms ps.length g.ts) (hr:zaD ps g.ts - zZ ps g.ts < 400)
  (q:∀ T:List Tal,T.length = ps.length + 1->(∀ k t,T[k]? = some t->Gd ps g.ts k t)->R (.d (.list (T.map zeH))) []):zbQ [.d (zcw ps),.d (zd6 g)] [] R:=by
 unfold zbQ
 rw [zcs,zcw]
 walk_at "d"
 (refine seq1 ?_; walk_at "d")
 refine zka (ps:=ps) (g:=g) (ht.tm3 h8) ?_
 walk_at "d"
 refine ze4 ?_
 walk_at "d"
 refine seq1 ?_
 walk_at "d"
 rw [if_neg (by omega)]
 refine seq1 ?_
 unfold zkO
 walk_at "d"
 refine ⟨zbc (tmT g.ts),by unfold zbc tmT; rw [List.map_map,List.map_map]; rfl,by have:=ht.len; simp [zbc,tmT]; omega,?_⟩
 rw [zeM (zgy (zey ht.srt))]
 (refine seq1 ?_; walk_at "d")
 refine cut (fun δ S=>∃ (L:List Tal) (u5:Option XV),L.length = ps.length + 1/\(∀ j t,L[j]? = some t->Gd ps g.ts (ps.length - j) t)/\S = [L.map zeH]/\δ = [some (.d (.tuple (ps.map zfl))),some (.d (.tuple [.tuple (g.ts.map tmD),.int g.lo,.int g.hi])),some (.d (.int (zaD ps g.ts - zZ ps g.ts + 1))),some (.d (.dict (DD.pairs (.k (zbc (tmT g.ts)))))),some (.l 0),u5]) (fun N hN=>?_) ?_
 ·walk_at "d"
  refine ⟨_,_,⟨rfl,rfl⟩,⟨by omega,by omega⟩,by decide,?_⟩
  have en:((ps.length:Int) - 1 - -1).toNat = ps.length:=by omega
  rw [en]
  have er:zgO ([]:List Row) = 0/\zgN ([]:List Row) = 0:=⟨rfl,rfl⟩
  refine zaW (fun i δ S=>∃ (L:List Tal) (u5:Option XV),L.length = i + 1/\(∀ j t,L[j]? = some t->Gd ps g.ts (ps.length - j) t)/\S = [L.map zeH]/\δ = [some (.d (.tuple (ps.map zfl))),some (.d (.tuple [.tuple (g.ts.map tmD),.int g.lo,.int g.hi])),some (.d (.int (zaD ps g.ts - zZ ps g.ts + 1))),some (.d (.dict (DD.pairs (.k (zbc (tmT g.ts)))))),some (.l 0),u5]) ⟨[[(0,1)]],_,rfl,fun j t e=>?_,rfl,rfl⟩ ?_ ?_
  ·cases j with
   | succ j=>cases e
   | zero =>
    cases e
    have ed:(zu ps g.ts).drop (ps.length - 0) = []:=List.drop_of_length_le (by rw [zbO]; omega)
    refine ⟨by rw [ed]; exact Tl.one,fun f=>?_⟩
    rw [ed]
    show 1 * f 0 + 0 = f 0
    omega
  ·rintro i d _ _ N hii ⟨L,u5,hl,hL,rfl,rfl⟩ hN
   obtain ⟨hi',rfl⟩:=zeD hii
   have hk:ps.length - 1 - i < ps.length:=by omega
   have ek:((ps.length:Int) - 1 - i) = ((ps.length - 1 - i:Nat):Int):=by omega
   rw [ek]
   have hli:i < L.length:=by omega
   have el:=List.getElem?_eq_getElem hli
   have gd:=hL i _ el
   have e1:ps.length - i = ps.length - 1 - i + 1:=by omega
   rw [e1] at gd
   generalize L[i] = t at el gd
   generalize hkk:ps.length - 1 - i = k at *
   have edr:=zc2 (ts:=g.ts) hk
   walk_at "d"
   refine ⟨zeH t,?_,?_⟩
   ·obtain ⟨r,er⟩:=List.getLast?_eq_some_iff.mp (show (L.map zeH).getLast? = some (zeH t) by
     rw [List.getLast?_eq_getElem?,List.length_map,hl,Nat.add_sub_cancel,List.getElem?_map,el]
     rfl)
    rw [er]
    exact zk0 _ _
   ·walk_at "d"
    refine ⟨_,zb1 (zep hk),?_⟩
    walk_at "d"
    refine zdY ?_
    walk_at "d"
    refine ⟨.k (zbc (tmT g.ts)),.inr ⟨_,rfl,rfl⟩,?_⟩
    walk_at "d"
    refine ⟨lkA (zbc (tmT g.ts)) (Sum.inl (k:Int)),rfl,?_⟩
    rw [ziE (zey ht.srt)]
    walk_at "d"
    have hbd:zcA g.ts k = 0\/∃ t ∈ g.ts,t.1 = k/\zcA g.ts k = t.2:=zhy ht k
    have hcons:zgO ((zu ps g.ts).drop k) = rLo (zbG ps g.ts k) + zgO ((zu ps g.ts).drop (k + 1))/\zgN ((zu ps g.ts).drop k) = rHi (zbG ps g.ts k) + zgN ((zu ps g.ts).drop (k + 1)):=by
     rw [edr]
     unfold zgO zgN
     simp
    have hdr:=zet (zu ps g.ts) k
    have hen:=zfJ ho ht
    rw [hen.1,hen.2] at hdr
    refine zfu (t:=t) (a:=plo ps k) (b:=phi ps k) (m:=zcA g.ts k) gd.tl (ho _ (zbx hk)) (by have:=gd.len ho ht hr; omega) (fun _=>⟨gd.val ho hb h8,by have:=hb _ (zbx hk); unfold phi plo; omega⟩) (fun h0=>?_) (fun h0=>?_) fun t' ht' hs'=>?_
    ·rcases hbd with h | ⟨u,mu,_,e⟩
     ·exact absurd h h0
     ·rw [e]
      exact (ht.ok u mu).2.2
    ·show _ + rHi (zbG ps g.ts k) - (_ + rLo (zbG ps g.ts k)) < 900
     omega
    ·walk_at "d"
     refine ⟨by first | omega | (simp; omega),hN _ _ ⟨L ++ [t'],_,by simp [hl],fun j u ej=>?_,by simp,rfl⟩⟩
     by_cases hj:j < L.length
     ·rw [List.getElem?_append_left hj] at ej
      exact hL j u ej
     ·have hj2:j = L.length:=by
       have:=(List.getElem?_eq_some_iff.mp ej).1
       simp at this
       omega
      subst hj2
      rw [List.getElem?_concat_length] at ej
      cases ej
      have e4:ps.length - L.length = k:=by omega
      rw [e4]
      refine ⟨?_,fun f=>?_⟩
      ·rw [hcons.1,hcons.2,Int.add_comm (rLo _),Int.add_comm (rHi _)]
       exact ht'
      ·rw [hs' f,edr]
       show _ = rsum (plo ps k) (cnt (plo ps k) (phi ps k)) fun x=>fw ((zu ps g.ts).drop (k + 1)) fun w=>f (w + zcA g.ts k * x)
       exact zbI fun x _ _=>gd.fw _
  ·rintro _ _ ⟨L,u5,hl,hL,rfl,rfl⟩
   refine hN _ _ ⟨L,u5,?_,hL,rfl,rfl⟩
   simpa [zjI] using hl
 rintro _ _ ⟨L,u5,hl,hL,rfl,rfl⟩
 refine seq1 ?_
 walk_at "d"
 refine .inl ?_
 rw [<- List.map_reverse]
 refine q L.reverse (by simpa using hl) fun k t ek=>?_
 have hk:k < L.length:=by simpa using (List.getElem?_eq_some_iff.mp ek).1
 rw [List.getElem?_reverse hk] at ek
 have:=hL _ t ek
 rwa [show ps.length - (L.length - 1 - k) = k by omega] at this
theorem zgz (g:Gap) (w x:Int):0 <= inG g w x/\inG g w x <= 1:=by
 unfold inG
 split <;> omega
def zcJ (ps:List Part) (g:Gap):Int:=fw (zu ps g.ts) (inG g 0)
theorem zr8 (ps:List Part) (g:Gap):0 <= zcJ ps g:=by
 have:=zhS (zu ps g.ts) (f:=fun w=>0 * inG g 0 w) (g:=inG g 0) fun w=>by have:=zgz g 0 w; omega
 rw [zob] at this
 unfold zcJ
 omega
end
section
variable {R:RX} {S:Sto}
theorem zrM (ps:List Part):zcw ps = .tuple (ps.map zfl):=rfl
theorem zdM {d:PyData} (q:R (.d (.bool (zbt d))) []):zcd [.d d] [] R:=by
 unfold zcd
 cases d <;> (walk_at "e"; exact q)
def inP (p:Part):PyData->Bool
 | .int k=>decide (p.2.1 <= k/\k <= p.2.2)
 | _=>false
def zkJ (ps:List Part):PyData->Bool
 | .tuple ds=>decide (ds.length = ps.length) && ((ds.zip ps).map fun q=>inP q.2 q.1).all id
 | _=>false
theorem zeX (ps:List Part) (ds:List PyData):zkJ ps (.tuple ds) = (decide (ds.length = ps.length) && ((ds.zip ps).map fun q=>inP q.2 q.1).all id):=rfl
theorem zmK {ps:List Part} {d:PyData} (hl:ps.length <= 100) (q:R (.d (.bool (zkJ ps d))) []):zfI [.d (zcw ps),.d d] [] R:=by
 unfold zfI
 rw [zrM]
 cases d with
 | tuple ds =>
  walk_at "d"
  (refine seq1 ?_; walk_at "d")
  by_cases h:ds.length = ps.length
  ·rw [if_neg (by omega)]
   rw [zeX,decide_eq_true h,Bool.true_and] at q
   have ez:zjq ds (ps.map zfl) = (ds.zip ps).map fun q=>.tuple [q.1,zfl q.2]:=by
    have:=zkl (fun d:PyData=>d) zfl ds ps
    rwa [List.map_id'] at this
   walk_at "d"
   rw [ez]
   refine cmp2 (S0:=[]) (fun q:PyData × Part=>.bool (inP q.2 q.1)) rfl (ds.zip ps) (by simp; omega) ?_ ?_
   ·intro x mx u v acc R' hk
    obtain ⟨d,p⟩:=x
    rw [zjH]
    walk_at "d"
    refine zdM ?_
    cases d with
    | int k =>
     simp only [zbt]
     walk_at "d"
     have e0:inP p (.int k) = decide (p.2.1 <= k/\k <= p.2.2):=rfl
     have hk':=hk (some (.d (.int k))) (some (.d (.tuple [.str p.1,.int p.2.1,.int p.2.2])))
     rw [e0] at hk'
     split
     ·rename_i h1
      simpa [h1] using hk'
     ·rename_i h1
      simpa [h1] using hk'
    | none=>(simp only [zbt]; walk_at "d"; exact hk _ _)
    | bool b=>(simp only [zbt]; walk_at "d"; exact hk _ _)
    | str b=>(simp only [zbt]; walk_at "d"; exact hk _ _)
    | list b=>(simp only [zbt]; walk_at "d"; exact hk _ _)
    | dict b=>(simp only [zbt]; walk_at "d"; exact hk _ _)
    | tuple b=>(simp only [zbt]; walk_at "d"; exact hk _ _)
   ·walk_at "d"
    exact ⟨_,by rw [List.map_map]; rfl,q⟩
  ·rw [if_pos (by omega)]
   rw [zeX,decide_eq_false h] at q
   exact q
 | none=>(walk_at "d"; (refine seq1 ?_; walk_at "d"); exact q)
 | bool b=>(walk_at "d"; (refine seq1 ?_; walk_at "d"); exact q)
 | int b=>(walk_at "d"; (refine seq1 ?_; walk_at "d"); exact q)
 | str b=>(walk_at "d"; (refine seq1 ?_; walk_at "d"); exact q)
 | list b=>(walk_at "d"; (refine seq1 ?_; walk_at "d"); exact q)
 | dict b=>(walk_at "d"; (refine seq1 ?_; walk_at "d"); exact q)
theorem zjY:∀ {ps:List Part} {ds:List PyData},(ds.length = ps.length/\((ds.zip ps).map fun q=>inP q.2 q.1).all id = true) ↔ ∃ one:List Int,ds = one.map PyData.int/\InBox ps one
 | [],[]=>by
  constructor
  ·intro _
   exact ⟨[],rfl,zgu.mpr rfl⟩
  ·intro _
   exact ⟨rfl,rfl⟩
 | [],d :: ds=>by
  constructor
  ·intro h
   cases h.1
  ·rintro ⟨one,e,h⟩
   rw [zgu.mp h] at e
   cases e
 | p :: ps,[]=>by
  constructor
  ·intro h
   cases h.1
  ·rintro ⟨one,e,h⟩
   obtain ⟨x,t,rfl,_⟩:=zd2.mp h
   cases e
 | p :: ps,d :: ds=>by
  have ih:=zjY (ps:=ps) (ds:=ds)
  constructor
  ·rintro ⟨h1,h2⟩
   rw [List.zip_cons_cons,List.map_cons,List.all_cons,Bool.and_eq_true] at h2
   obtain ⟨h2,h3⟩:=h2
   obtain ⟨one,e,hb⟩:=ih.mp ⟨by simpa using h1,h3⟩
   cases d with
   | int k =>
    have h2':decide (p.2.1 <= k/\k <= p.2.2) = true:=h2
    have:=of_decide_eq_true h2'
    exact ⟨k :: one,by rw [e]; rfl,zd2.mpr ⟨k,one,rfl,this.1,this.2,hb⟩⟩
   | _=>cases h2
  ·rintro ⟨one,e,h⟩
   obtain ⟨x,t,rfl,h1,h2,h3⟩:=zd2.mp h
   rw [List.map_cons] at e
   injection e with e1 e2
   have:=ih.mpr ⟨t,e2,h3⟩
   refine ⟨by simpa using this.1,?_⟩
   rw [List.zip_cons_cons,List.map_cons,List.all_cons,this.2,Bool.and_true,e1]
   exact decide_eq_true ⟨h1,h2⟩
theorem zl1 {ps:List Part} {d:PyData}:zkJ ps d = true ↔ ∃ one,d = zb2 one/\InBox ps one:=by
 constructor
 ·intro h
  cases d with
  | tuple ds =>
   rw [zeX,Bool.and_eq_true,decide_eq_true_eq] at h
   obtain ⟨one,e,hb⟩:=zjY.mp h
   exact ⟨one,by rw [e]; rfl,hb⟩
  | _=>cases h
 ·rintro ⟨one,rfl,hb⟩
  have h:=zjY.mpr ⟨one,rfl,hb⟩
  show zkJ ps (.tuple (one.map PyData.int)) = true
  rw [zeX,Bool.and_eq_true,decide_eq_true_eq]
  exact h
end
section
variable {R:RX} {S:Sto}
def wR:List Row->List Int->Int
 | r :: rs,x :: xs=>r.2.2 * x + wR rs xs
 | _,_=>0
def inR:List Row->List Int->Prop
 | [],[]=>True
 | r :: rs,x :: xs=>r.1 <= x/\x < r.1 + r.2.1/\inR rs xs
 | _,_=>False
def bef:List Row->List Int->(Int->Int)->Int
 | r :: rs,x :: xs,f=>rsum r.1 (x - r.1).toNat (fun v=>fw rs fun w=>f (w + r.2.2 * v)) + bef rs xs (fun w=>f (w + r.2.2 * x))
 | _,_,_=>0
theorem zeB {f:Int->Int} (hf:∀ w,0 <= f w) (rs:List Row):0 <= fw rs f:=by
 have:=zhS rs (f:=fun w=>0 * f w) (g:=f) fun w=>by have:=hf w; omega
 rw [zob] at this
 omega
theorem zjv {a:Int} {n:Nat} {f:Int->Int} (hf:∀ x,0 <= f x):0 <= rsum a n f:=by
 have:=zfR (a:=a) (n:=n) (f:=fun _=>0) (g:=f) fun x _ _=>hf x
 rw [zbl] at this
 omega
theorem zng {a:Int} {f:Int->Int} (hf:∀ x,0 <= f x) {n m:Nat} (h:n <= m):rsum a n f <= rsum a m f:=by
 induction h with
 | refl=>exact Int.le_refl _
 | step _ ih=>rw [zaE]; have:=hf (a + (‹Nat›:Nat)); omega
theorem zfd:∀ (rs:List Row) (xs:List Int) (f:Int->Int),(∀ w,0 <= f w)->0 <= bef rs xs f
 | [],xs,f,_=>by cases xs <;> exact Int.le_refl _
 | r :: rs,[],f,_=>Int.le_refl _
 | r :: rs,x :: xs,f,hf=>by
  unfold bef
  have h1:=zjv (a:=r.1) (n:=(x - r.1).toNat) (f:=fun v=>fw rs fun w=>f (w + r.2.2 * v)) fun v=>zeB (fun w=>hf _) rs
  have h2:=zfd rs xs (fun w=>f (w + r.2.2 * x)) fun w=>hf _
  omega
theorem zmy:∀ (rs:List Row) (xs:List Int) (f:Int->Int),(∀ w,0 <= f w)->inR rs xs->bef rs xs f + f (wR rs xs) <= fw rs f
 | [],[],f,_,_=>by show 0 + f 0 <= f 0; omega
 | [],_ :: _,f,_,h=>h.elim
 | r :: rs,[],f,_,h=>h.elim
 | r :: rs,x :: xs,f,hf,⟨h1,h2,h3⟩=>by
  have ih:=zmy rs xs (fun w=>f (w + r.2.2 * x)) (fun w=>hf _) h3
  show rsum r.1 (x - r.1).toNat (fun v=>fw rs fun w=>f (w + r.2.2 * v)) + bef rs xs (fun w=>f (w + r.2.2 * x)) + f (r.2.2 * x + wR rs xs) <= rsum r.1 r.2.1 fun v=>fw rs fun w=>f (w + r.2.2 * v)
  have hs:=zaE r.1 (x - r.1).toNat fun v=>fw rs fun w=>f (w + r.2.2 * v)
  rw [show r.1 + ((x - r.1).toNat:Int) = x by omega] at hs
  have hl:=zng (a:=r.1) (f:=fun v=>fw rs fun w=>f (w + r.2.2 * v)) (fun v=>zeB (fun w=>hf _) rs) (show (x - r.1).toNat + 1 <= r.2.1 by omega)
  have e:f (r.2.2 * x + wR rs xs) = f (wR rs xs + r.2.2 * x):=by rw [Int.add_comm]
  rw [e]
  omega
theorem zks:∀ (rs:List Row) (xs ys:List Int) (f:Int->Int),(∀ w,0 <= f w)->inR rs xs->inR rs ys->HT.lexLt xs ys = true->bef rs xs f + f (wR rs xs) <= bef rs ys f
 | [],[],[],f,_,_,_,h=>by cases h
 | [],_ :: _,_,f,_,h,_,_=>h.elim
 | [],[],_ :: _,f,_,_,h,_=>h.elim
 | r :: rs,[],_,f,_,h,_,_=>h.elim
 | r :: rs,_ :: _,[],f,_,_,h,_=>h.elim
 | r :: rs,x :: xs,y :: ys,f,hf,hx,hy,h=>by
  obtain ⟨x1,x2,x3⟩:=hx
  obtain ⟨y1,y2,y3⟩:=hy
  have e:f (r.2.2 * x + wR rs xs) = f (wR rs xs + r.2.2 * x):=by rw [Int.add_comm]
  unfold bef wR
  rw [e]
  rw [HT.lexLt_cons] at h
  split at h
  ·rename_i exy
   subst exy
   have ih:=zks rs xs ys (fun w=>f (w + r.2.2 * x)) (fun w=>hf _) x3 y3 h
   omega
  ·rename_i exy
   have hlt:=of_decide_eq_true h
   have hb:=zmy rs xs (fun w=>f (w + r.2.2 * x)) (fun w=>hf _) x3
   have hs:=zaE r.1 (x - r.1).toNat fun v=>fw rs fun w=>f (w + r.2.2 * v)
   rw [show r.1 + ((x - r.1).toNat:Int) = x by omega] at hs
   have hl:=zng (a:=r.1) (f:=fun v=>fw rs fun w=>f (w + r.2.2 * v)) (fun v=>zeB (fun w=>hf _) rs) (show (x - r.1).toNat + 1 <= (y - r.1).toNat by omega)
   have hn:=zfd rs ys (fun w=>f (w + r.2.2 * y)) fun w=>hf _
   omega
theorem zgv:∀ {a b:List Int},a ≠ b->HT.lexLt a b = true\/HT.lexLt b a = true
 | [],[],h=>absurd rfl h
 | [],_ :: _,_=>.inl rfl
 | _ :: _,[],_=>.inr rfl
 | x :: xs,y :: ys,h=>by
  rw [HT.lexLt_cons,HT.lexLt_cons]
  by_cases e:x = y
  ·subst e
   rw [if_pos rfl,if_pos rfl]
   exact zgv fun z=>h (by rw [z])
  ·rw [if_neg e,if_neg (Ne.symm e)]
   by_cases hl:x < y
   ·exact .inl (decide_eq_true hl)
   ·exact .inr (decide_eq_true (by omega))
theorem zri {rs:List Row} {xs ys:List Int} {f:Int->Int} (hf:∀ w,0 <= f w) (hx:inR rs xs) (hy:inR rs ys) (fx:0 < f (wR rs xs)) (fy:0 < f (wR rs ys)) (h:bef rs xs f = bef rs ys f):xs = ys:=by
 by_cases e:xs = ys
 ·exact e
 ·exfalso
  rcases zgv e with l | l
  ·have:=zks rs xs ys f hf hx hy l
   omega
  ·have:=zks rs ys xs f hf hy hx l
   omega
theorem zjs:∀ (rs:List Row) (b:List Int) (v:Int) (r:Row),rs[b.length]? = some r->wR rs (b ++ [v]) = wR rs b + r.2.2 * v
 | [],b,v,r,h=>by simp at h
 | x :: rs,[],v,r,h=>by
  have:x = r:=by simpa using h
  subst this
  show x.2.2 * v + wR rs [] = 0 + x.2.2 * v
  have:wR rs [] = 0:=by cases rs <;> rfl
  omega
 | x :: rs,y :: b,v,r,h=>by
  have ih:=zjs rs b v r (by simpa using h)
  show x.2.2 * y + wR rs (b ++ [v]) = x.2.2 * y + wR rs b + r.2.2 * v
  omega
theorem zko:∀ (rs:List Row) (b:List Int) (v:Int) (r:Row) (f:Int->Int),rs[b.length]? = some r->bef rs (b ++ [v]) f = bef rs b f + rsum r.1 (v - r.1).toNat (fun u=>fw (rs.drop (b.length + 1)) fun w=>f (w + r.2.2 * u + wR rs b))
 | [],b,v,r,f,h=>by simp at h
 | x :: rs,[],v,r,f,h=>by
  have:x = r:=by simpa using h
  subst this
  have e1:bef rs [] (fun w=>f (w + x.2.2 * v)) = 0:=by cases rs <;> rfl
  show rsum x.1 (v - x.1).toNat (fun u=>fw rs fun w=>f (w + x.2.2 * u)) + bef rs [] (fun w=>f (w + x.2.2 * v)) = 0 + rsum x.1 (v - x.1).toNat (fun u=>fw rs fun w=>f (w + x.2.2 * u + 0))
  rw [e1]
  simp only [Int.add_zero,Int.zero_add]
 | x :: rs,y :: b,v,r,f,h=>by
  have ih:=zko rs b v r (fun w=>f (w + x.2.2 * y)) (by simpa using h)
  show _ + bef rs (b ++ [v]) (fun w=>f (w + x.2.2 * y)) = _ + bef rs b (fun w=>f (w + x.2.2 * y)) + rsum r.1 (v - r.1).toNat (fun u=>fw (rs.drop (b.length + 1)) fun w=>f (w + r.2.2 * u + (x.2.2 * y + wR rs b)))
  rw [ih,Int.add_assoc]
  congr 2
  refine zbI fun u _ _=>?_
  congr 1
  funext w
  congr 1
  omega
def zmw:List Row->List (List Int)
 | []=>[[]]
 | r :: rs=>((List.range r.2.1).map fun k:Nat=>r.1 + k).flatMap fun x=>(zmw rs).map (x :: ·)
theorem zf3 {α:Type} (f:α->List Int):∀ l:List α,(l.flatMap f).sum = (l.map fun x=>(f x).sum).sum
 | []=>rfl
 | a :: l=>by rw [List.flatMap_cons,List.sum_append,zf3 f l,List.map_cons,List.sum_cons]
theorem zp5:∀ (rs:List Row) (f:Int->Int),fw rs f = ((zmw rs).map fun xs=>f (wR rs xs)).sum
 | [],f=>by simp [fw,zmw,wR]
 | r :: rs,f=>by
  unfold fw zmw rsum
  rw [List.map_flatMap,zf3,List.map_map]
  congr 1
  refine List.map_congr_left fun k _=>?_
  simp only [Function.comp,List.map_map]
  rw [zp5 rs]
  congr 1
  refine List.map_congr_left fun xs _=>?_
  show f (wR rs xs + r.2.2 * (r.1 + k)) = f (r.2.2 * (r.1 + k) + wR rs xs)
  rw [Int.add_comm]
theorem zhW:∀ {rs:List Row} {xs:List Int},xs ∈ zmw rs ↔ inR rs xs
 | [],xs=>by
  unfold zmw
  cases xs with
  | nil=>simp [inR]
  | cons x xs=>simp [inR]
 | r :: rs,[]=>by
  unfold zmw
  simp [inR]
 | r :: rs,x :: xs=>by
  unfold zmw
  rw [List.mem_flatMap]
  show _ ↔ r.1 <= x/\x < r.1 + r.2.1/\inR rs xs
  constructor
  ·rintro ⟨y,my,m⟩
   obtain ⟨k,mk,rfl⟩:=List.mem_map.mp my
   obtain ⟨t,mt,e⟩:=List.mem_map.mp m
   injection e with e1 e2
   subst e1 e2
   have:=List.mem_range.mp mk
   exact ⟨by omega,by omega,zhW.mp mt⟩
  ·rintro ⟨h1,h2,h3⟩
   exact ⟨x,List.mem_map.mpr ⟨(x - r.1).toNat,List.mem_range.mpr (by omega),by omega⟩,List.mem_map.mpr ⟨xs,zhW.mpr h3,rfl⟩⟩
theorem znB:∀ (ps:List Part) (rs:List Row),rs.map (fun r=>(r.1,r.2.1)) = ps.map (fun p=>(p.2.1,(p.2.2 - p.2.1 + 1).toNat))->zmw rs = zfm ps
 | [],[],_=>rfl
 | [],_ :: _,h=>by cases h
 | _ :: _,[],h=>by cases h
 | p :: ps,r :: rs,h=>by
  rw [List.map_cons,List.map_cons] at h
  injection h with h1 h2
  injection h1 with h3 h4
  unfold zmw zfm zoz rng
  rw [znB ps rs h2,h3,h4]
theorem zlb (ps:List Part) (ts:List Term):zmw (zu ps ts) = zfm ps:=by
 refine znB ps _ ?_
 apply List.ext_getElem
 ·simp [zbO]
 ·intro i h1 h2
  have hi:i < ps.length:=by simpa using h2
  simp [zu,zdp,zbG,cnt,plo,phi,part,hi]
theorem zgc {ps:List Part} {ts:List Term} {ms:List Int}:inR (zu ps ts) ms ↔ InBox ps ms:=by rw [<- zhW,zlb,zde]
def wB (ts:List Term) (b:List Int):Int:=((ts.filter fun t:Term=>decide (t.1 < b.length)).map fun t:Term=>t.2 * b.getD t.1 0).sum
theorem zn7 (t:Term) (ts:List Term) (b:List Int):wB (t :: ts) b = (if t.1 < b.length then t.2 * b.getD t.1 0 else 0) + wB ts b:=by
 unfold wB
 by_cases h:t.1 < b.length
 ·rw [List.filter_cons_of_pos (by simpa using h),List.map_cons,List.sum_cons,if_pos h]
 ·rw [List.filter_cons_of_neg (by simpa using h),if_neg h,Int.zero_add]
theorem zod (b:List Int) (v:Int):∀ ts:List Term,wB ts (b ++ [v]) = wB ts b + zcA ts b.length * v
 | []=>by
  have:zcA [] b.length = 0:=rfl
  rw [this]
  simp [wB]
 | t :: ts=>by
  rw [zn7,zn7,zod b v ts,zfT,Int.add_mul]
  have e:(if t.1 < (b ++ [v]).length then t.2 * (b ++ [v]).getD t.1 0 else 0) = (if t.1 < b.length then t.2 * b.getD t.1 0 else 0) + (if t.1 = b.length then t.2 else 0) * v:=by
   rw [List.length_append,List.length_singleton]
   by_cases h1:t.1 < b.length
   ·rw [if_pos (by omega),if_pos h1,if_neg (by omega),Int.zero_mul,Int.add_zero]
    congr 1
    simp [List.getD_eq_getElem?_getD,List.getElem?_append_left h1]
   ·by_cases h2:t.1 = b.length
    ·rw [if_pos (by omega),if_neg h1,if_pos h2,Int.zero_add]
     congr 1
     rw [h2]
     simp [List.getD_eq_getElem?_getD]
    ·rw [if_neg (by omega),if_neg h1,if_neg h2]
     simp
  omega
theorem zjZ {ps:List Part} {ts:List Term} {k:Nat} (h:k < ps.length):(zu ps ts)[k]? = some (zbG ps ts k):=by
 rw [List.getElem?_eq_getElem (by rw [zbO]; exact h)]
 simp [zu,zdp]
theorem zoC {α:Type} {P:List α->Prop} (h0:P []) (h1:∀ l a,P l->P (l ++ [a])) (l:List α):P l:=by
 have:∀ l:List α,P l.reverse:=by
  intro l
  induction l with
  | nil=>exact h0
  | cons a l ih=>rw [List.reverse_cons]; exact h1 _ _ ih
 rw [<- List.reverse_reverse l]
 exact this _
theorem zsT {ps:List Part} {ts:List Term} (b:List Int):b.length <= ps.length->wR (zu ps ts) b = wB ts b:=by
 refine zoC (P:=fun b=>b.length <= ps.length->wR (zu ps ts) b = wB ts b) (fun _=>?_) (fun b v ih h=>?_) b
 ·have:wR (zu ps ts) [] = 0:=by cases zu ps ts <;> rfl
  rw [this]
  unfold wB
  rw [List.filter_eq_nil_iff.mpr (fun t m=>by simp)]
  rfl
 ·rw [List.length_append,List.length_singleton] at h
  rw [zjs _ b v _ (zjZ (by omega)),zod,ih (by omega)]
  rfl
theorem zo9 {n:Nat} {ts:List Term} {one:List Int} (h:∀ t ∈ ts,t.1 < n) (hl:one.length = n):worth ts one = wB ts one:=by
 unfold worth wB
 rw [List.filter_eq_self.mpr fun t m=>by simpa [hl] using h t m]
theorem zd1 {ps:List Part} {ts:List Term} {one:List Int} (ht:Tms ps.length ts) (hl:one.length = ps.length):wR (zu ps ts) one = worth ts one:=by
 rw [zsT one (by omega),zo9 (fun t m=>(ht.ok t m).1) hl]
theorem zbU {ps:List Part} {g:Gap} {b:List Int} (h8:ps.length <= 8) (ht:Tms ps.length g.ts) (hl:b.length <= ps.length) (q:R (.d (.int (wR (zu ps g.ts) b))) []):zau [.d (zd6 g),.d (zb2 b)] [] R:=by
 have l1:=ht.len
 unfold zau
 rw [zcs,zkO,zb2]
 walk_at "d"
 refine cmf2 (S0:=[]) (fun t:Term=>PyData.int (t.2 * b.getD t.1 0)) (fun t=>decide (t.1 < b.length)) rfl g.ts (by omega) ?_ ?_
 ·intro t m u v acc R' hk
  have h3:=(ht.ok t m).2.2
  rw [zj3]
  walk_at "d"
  have e:decide ((t.1:Int) < (b.length:Int)) = decide (t.1 < b.length):=by rw [decide_eq_decide]; omega
  rw [e]
  refine hk _ _ fun hp T hT=>?_
  have hb:t.1 < b.length:=by simpa using hp
  walk_at "d"
  refine ⟨_,zb1 (zgk hb),?_⟩
  walk_at "d"
  exact ⟨zcE (by omega) (by omega),hT⟩
 refine ⟨[],_,rfl,rfl,?_⟩
 walk_at "d"
 refine ⟨(g.ts.filter fun t:Term=>decide (t.1 < b.length)).map fun t:Term=>t.2 * b.getD t.1 0,by rw [List.map_map]; rfl,?_⟩
 rw [zsT b hl] at q
 exact q
def ahd (ps:List Part) (g:Gap) (b:List Int) (u:Int):Int:=fw ((zu ps g.ts).drop (b.length + 1)) (inG g (wR (zu ps g.ts) b + zcA g.ts b.length * u))
theorem zjB (g:Gap) (a w:Int):inG g a w = inG g 0 (w + a):=by
 unfold inG
 congr 2
 ·rw [show 0 + (w + a) = a + w by omega]
 ·rw [show 0 + (w + a) = a + w by omega]
theorem zq4 {α:Type} {ds:List α} {k:Nat} (h:k <= ds.length):zeb ds none (some (k:Int)) = ds.take k:=by
 have e1:HT.sIx ds.length ds.length (some (k:Int)) = k:=by rw [HT.sIx_nat]; omega
 have e2:HT.sIx ds.length 0 none = 0:=rfl
 unfold zeb
 rw [e1,e2]
 simp
theorem zoM {ps:List Part} {g:Gap} (ho:Ord ps) (ht:Tms ps.length g.ts) (hr:zaD ps g.ts - zZ ps g.ts < 400) {k:Nat} (hk:k < ps.length) (hm:zcA g.ts k ≠ 0):phi ps k - plo ps k < 400:=by
 have h1:=zet (zu ps g.ts) k
 have h2:=zfJ ho ht
 rw [h2.1,h2.2,zc2 hk] at h1
 have h3:=zhb ((zu ps g.ts).drop (k + 1))
 have h4:zgN (zbG ps g.ts k :: (zu ps g.ts).drop (k + 1)) = rHi (zbG ps g.ts k) + zgN ((zu ps g.ts).drop (k + 1)):=by simp [zgN]
 have h5:zgO (zbG ps g.ts k :: (zu ps g.ts).drop (k + 1)) = rLo (zbG ps g.ts k) + zgO ((zu ps g.ts).drop (k + 1)):=by simp [zgO]
 have o:plo ps k <= phi ps k:=ho _ (zbx hk)
 have h6:phi ps k - plo ps k <= rHi (zbG ps g.ts k) - rLo (zbG ps g.ts k):=by
  unfold rHi rLo zbG cnt
  simp only
  have e:plo ps k + ((phi ps k - plo ps k + 1).toNat:Int) - 1 = phi ps k:=by omega
  rw [e]
  have e2:zcA g.ts k * phi ps k = zcA g.ts k * plo ps k + zcA g.ts k * (phi ps k - plo ps k):=by rw [<- Int.mul_add]; congr 1; omega
  rw [e2]
  generalize phi ps k - plo ps k = d at *
  have hd:0 <= d:=by omega
  rcases Int.lt_or_gt_of_ne hm with h | h
  ·have:=Int.mul_le_mul_of_nonneg_right (show zcA g.ts k <= -1 by omega) hd
   omega
  ·have:=Int.mul_le_mul_of_nonneg_right (show 1 <= zcA g.ts k by omega) hd
   omega
 omega
theorem zcV {ps:List Part} {g:Gap} {t:Tal} {k:Nat} {w:Int} (ho:Ord ps) (ht:Tms ps.length g.ts) (hr:zaD ps g.ts - zZ ps g.ts < 400) (gd:Gd ps g.ts k t) (q:R (.d (.int (fw ((zu ps g.ts).drop k) (inG g w)))) []):zam [.d (zeH t),.d (zd6 g),.d (.int w)] [] R:=by
 refine zg3 (by have:=gd.len ho ht hr; omega) ?_
 rw [gd.fw]
 exact q
theorem zqa {ps:List Part} {g:Gap} {k:Nat} {w:Int} (ho:Ord ps) (hb:Bnd ps) (h8:ps.length <= 8):0 <= fw ((zu ps g.ts).drop k) (inG g w)/\fw ((zu ps g.ts).drop k) (inG g w) < 2 ^ 1700:=by
 have h1:=zeB (fun x=>(zgz g w x).1) ((zu ps g.ts).drop k)
 have h2:=zhS ((zu ps g.ts).drop k) (f:=inG g w) (g:=fun _=>1) fun x=>(zgz g w x).2
 have h3:=zqE (ts:=g.ts) ho hb h8 k
 exact ⟨h1,by omega⟩
theorem zs7 {ts:List Term} {n:Nat} (ht:Tms n ts) (k:Nat):(zcA ts k = 0/\lkA (zbc (tmT ts)) (Sum.inl (k:Int)) = none)\/(zcA ts k ≠ 0/\lkA (zbc (tmT ts)) (Sum.inl (k:Int)) = some (.int (zcA ts k))):=by
 by_cases hk:(k:Int) ∈ kys (tmT ts)
 ·refine .inr ⟨?_,zvi hk (zey ht.srt)⟩
  rw [zhX] at hk
  obtain ⟨t,mt,e⟩:=List.mem_map.mp hk
  have:=zkp (zey ht.srt) (p:=((t.1:Int),t.2)) (List.mem_map.mpr ⟨t,mt,rfl⟩)
  unfold zcA
  rw [<- e,this]
  exact (ht.ok t mt).2.1
 ·refine .inl ⟨zcg hk,?_⟩
  unfold lkA
  rw [Option.map_eq_none_iff,List.find?_eq_none]
  intro x m e
  obtain ⟨p,mp,rfl⟩:=List.mem_map.mp m
  have:p.1 = (k:Int):=by simpa using e
  exact hk (this ▸ zhB mp)
theorem zoX {E:DEnds} {δ:XE} {S:Sto} {i j:Nat} {L:List PyData} (h:δ[i]? = some (some (.d (.tuple L)))) (q:∀ n:Int,n = (L.length:Int) - 1->E.nx (δ.set j (some (.d (.int n)))) S):zag (dOp (dI0 fun i j=>i - j) (dCB zbR (ze (zn i) zv)) (dC (.int 1))) (zm j) E δ S:=⟨_,h,L.length,rfl,q _ rfl⟩
theorem zeJ {ps:List Part} {g:Gap} {b:List Int} {v:Int} {t:Tal} (ho:Ord ps) (hb:Bnd ps) (h8:ps.length <= 8) (ht:Tms ps.length g.ts) (hr:zaD ps g.ts - zZ ps g.ts < 400) (hl:b.length < ps.length) (gd:Gd ps g.ts (b.length + 1) t) (v1:plo ps b.length <= v) (v2:v <= phi ps b.length)
  (q:R (.d (.int (rsum (plo ps b.length) (v - plo ps b.length).toNat (ahd ps g b)))) []):zaK [.d (zcw ps),.d (zd6 g),.d (zb2 (b ++ [v])),.d (zeH t)] [] R:=by
 have l1:=ht.len
 have bp:=hb _ (zbx hl)
 have eb:(part ps b.length).2.1 = plo ps b.length:=rfl
 have eb2:(part ps b.length).2.2 = phi ps b.length:=rfl
 rw [eb,eb2] at bp
 have es:zb2 (b ++ [v]) = .tuple ((b ++ [v]).map PyData.int):=rfl
 have ev:atI ((b ++ [v]).map PyData.int) (b.length:Int) = some (.int v):=zb1 (by rw [List.getElem?_concat_length])
 have hcl:zeb ((b ++ [v]).map PyData.int) none (some (b.length:Int)) = b.map PyData.int:=by
  rw [zq4 (by simp)]
  rw [List.map_append,List.take_left' (by simp)]
 have hLl:((b ++ [v]).map PyData.int).length = b.length + 1:=by simp
 have hnw:¬ (HT.sIx ((b ++ [v]).map PyData.int).length 0 none = 0/\HT.sIx ((b ++ [v]).map PyData.int).length ((b ++ [v]).map PyData.int).length (some (b.length:Int)) = ((b ++ [v]).map PyData.int).length):=by
  rw [hLl,HT.sIx_nat]
  omega
 unfold zaK
 rw [es,zcw,zcs,zkO]
 generalize (b ++ [v]).map PyData.int = L at ev hcl hLl hnw ⊢
 walk_at "d"
 refine seq1 (zoX rfl fun n en=>?_)
 obtain rfl:n = (b.length:Int):=by omega
 walk_at "d"
 (refine seq1 ?_; walk_at "d")
 refine ⟨_,zb1 (zep hl),?_⟩
 rw [zjH,eb]
 walk_at "d"
 refine seq1 ?_
 walk_at "d"
 refine ⟨zbc (tmT g.ts),by unfold zbc tmT; rw [List.map_map,List.map_map]; rfl,by simp [zbc,tmT]; omega,?_⟩
 rw [zeM (zgy (zey ht.srt))]
 (refine seq1 ?_; walk_at "d")
 refine ⟨hnw,?_⟩
 rw [hcl]
 refine zbU (ps:=ps) (g:=g) (b:=b) h8 ht (by omega) ?_
 walk_at "d"
 refine seq1 ?_
 walk_at "d"
 rcases zs7 ht b.length with ⟨h0,hn⟩ | ⟨h0,hn⟩
 ·refine ⟨.k (zbc (tmT g.ts)),none,.inr ⟨_,rfl,rfl⟩,?_,?_⟩
  ·show some (lkA (zbc (tmT g.ts)) (Sum.inl (b.length:Int))) = _
   rw [hn]
  walk_at "d"
  refine ⟨_,ev,?_⟩
  walk_at "d"
  refine zcV (g:=g) ho ht hr gd ?_
  walk_at "d"
  have hbd:=zqa (g:=g) (k:=b.length + 1) (w:=wR (zu ps g.ts) b) ho hb h8
  refine ⟨zrF 200 1700 (by omega) (by omega),?_⟩
  have ea:ahd ps g b = fun _=>fw ((zu ps g.ts).drop (b.length + 1)) (inG g (wR (zu ps g.ts) b)):=by
   funext u
   unfold ahd
   rw [h0,Int.zero_mul,Int.add_zero]
  rw [ea,zbl,Int.toNat_of_nonneg (by omega)] at q
  exact q
 ·refine ⟨.k (zbc (tmT g.ts)),some (.int (zcA g.ts b.length)),.inr ⟨_,rfl,rfl⟩,?_,?_⟩
  ·show some (lkA (zbc (tmT g.ts)) (Sum.inl (b.length:Int))) = _
   rw [hn]
  have hw:=zoM ho ht hr hl h0
  have ht3:-3 <= zcA g.ts b.length/\zcA g.ts b.length <= 3:=by
   rcases zhy ht b.length with z | ⟨u,mu,_,e⟩
   ·exact absurd z h0
   ·rw [e]; exact (ht.ok u mu).2.2
  walk_at "d"
  refine ⟨_,ev,?_⟩
  walk_at "d"
  refine cmp1 (S0:=[]) (fun k:Nat=>PyData.int (ahd ps g b (plo ps b.length + k))) rfl (List.range (v - plo ps b.length).toNat) (by rw [List.length_range]; omega) ?_ ?_
  ·intro k mk u acc R' hk
   walk_at "d"
   refine ⟨.k (zbc (tmT g.ts)),_,.inr ⟨_,rfl,rfl⟩,congrArg some hn,?_⟩
   walk_at "d"
   refine ⟨zcE (by omega) (by omega),?_⟩
   walk_at "d"
   refine zcV (g:=g) ho ht hr gd ?_
   walk_at "d"
   exact hk _
  refine ⟨[],_,rfl,rfl,?_⟩
  walk_at "d"
  refine ⟨(List.range (v - plo ps b.length).toNat).map fun k:Nat=>ahd ps g b (plo ps b.length + k),by rw [List.map_map]; rfl,?_⟩
  exact q
theorem zsY {n:Nat} {ts:List Term} (ht:Tms n ts) (k:Nat):-3 <= zcA ts k/\zcA ts k <= 3:=by
 rcases zhy ht k with z | ⟨u,mu,_,e⟩
 ·rw [z]; decide
 ·rw [e]; exact (ht.ok u mu).2.2
theorem ziW {ps:List Part} {g:Gap} {b:List Int} {left:Int} {t:Tal} (ho:Ord ps) (hb:Bnd ps) (h8:ps.length <= 8) (ht:Tms ps.length g.ts) (hr:zaD ps g.ts - zZ ps g.ts < 400) (hl:b.length < ps.length) (gd:Gd ps g.ts (b.length + 1) t) (l0:0 <= left) (l1:left < rsum (plo ps b.length) (cnt (plo ps b.length) (phi ps b.length)) (ahd ps g b))
  (q:∀ v,plo ps b.length <= v->v <= phi ps b.length->rsum (plo ps b.length) (v - plo ps b.length).toNat (ahd ps g b) <= left->left < rsum (plo ps b.length) ((v - plo ps b.length).toNat + 1) (ahd ps g b)->R (.d (.int v)) []):zbH [.d (zcw ps),.d (zd6 g),.d (zb2 b),.d (zeH t),.d (.int left)] [] R:=by
 have hl2:=ht.len
 have o:plo ps b.length <= phi ps b.length:=ho _ (zbx hl)
 have eb:(part ps b.length).2.1 = plo ps b.length:=rfl
 have eb2:(part ps b.length).2.2 = phi ps b.length:=rfl
 have ec:(phi ps b.length + 1 - plo ps b.length).toNat = cnt (plo ps b.length) (phi ps b.length):=by unfold cnt; congr 1; omega
 have hcn:((cnt (plo ps b.length) (phi ps b.length):Nat):Int) = phi ps b.length - plo ps b.length + 1:=by unfold cnt; omega
 unfold zbH
 rw [zcw,zcs,zkO,zb2]
 walk_at "d"
 (refine seq1 ?_; walk_at "d")
 (refine seq1 ?_; walk_at "d")
 refine ⟨_,zb1 (zep hl),?_⟩
 walk_at "d"
 refine zdY ?_
 rw [eb,eb2]
 walk_at "d"
 refine seq1 ?_
 walk_at "d"
 refine ⟨zbc (tmT g.ts),by unfold zbc tmT; rw [List.map_map,List.map_map]; rfl,by simp [zbc,tmT]; omega,?_⟩
 rw [zeM (zgy (zey ht.srt))]
 (refine seq1 ?_; walk_at "d")
 refine zbU (ps:=ps) (g:=g) (b:=b) h8 ht (by omega) ?_
 walk_at "d"
 refine seq1 ?_
 walk_at "d"
 have ht3:=zsY ht b.length
 rcases zs7 ht b.length with ⟨h0,hn⟩ | ⟨h0,hn⟩
 ·refine ⟨.k (zbc (tmT g.ts)),none,.inr ⟨_,rfl,rfl⟩,?_,?_⟩
  ·show some (lkA (zbc (tmT g.ts)) (Sum.inl (b.length:Int))) = _
   rw [hn]
  unfold spD
  walk_at "d"
  refine zcV (g:=g) ho ht hr gd ?_
  walk_at "d"
  have hbd:=zqa (g:=g) (k:=b.length + 1) (w:=wR (zu ps g.ts) b) ho hb h8
  have ea:ahd ps g b = fun _=>fw ((zu ps g.ts).drop (b.length + 1)) (inG g (wR (zu ps g.ts) b)):=by
   funext u
   unfold ahd
   rw [h0,Int.zero_mul,Int.add_zero]
  rw [ea] at l1 q
  generalize fw ((zu ps g.ts).drop (b.length + 1)) (inG g (wR (zu ps g.ts) b)) = c at *
  rw [zbl] at l1
  have hc:0 < c:=by
   rcases Int.lt_or_eq_of_le hbd.1 with h | h
   ·exact h
   ·rw [<- h,Int.mul_zero] at l1
    omega
  have d0:=Int.ediv_nonneg l0 (Int.le_of_lt hc)
  have d1:left / c < cnt (plo ps b.length) (phi ps b.length):=Int.ediv_lt_of_lt_mul hc l1
  have d2:=Int.emod_add_mul_ediv left c
  have d3:=Int.emod_nonneg left (show c ≠ 0 by omega)
  have d4:=Int.emod_lt_of_pos left hc
  refine .inl ⟨⟨hc,?_⟩,?_⟩
  ·have:=zcP hc hbd.2
   omega
  ·refine q _ (by omega) (by omega) ?_ ?_
   ·rw [zbl,show ((plo ps b.length + left / c - plo ps b.length).toNat:Int) = left / c by omega,Int.mul_comm]
    omega
   ·rw [zbl,Int.natCast_add,show ((plo ps b.length + left / c - plo ps b.length).toNat:Int) = left / c by omega,Int.add_mul,Int.mul_comm]
    omega
 ·refine ⟨.k (zbc (tmT g.ts)),some (.int (zcA g.ts b.length)),.inr ⟨_,rfl,rfl⟩,?_,?_⟩
  ·show some (lkA (zbc (tmT g.ts)) (Sum.inl (b.length:Int))) = _
   rw [hn]
  unfold spD
  walk_at "d"
  rw [ec]
  refine zaW (fun i δ S=>∃ (u9 u10:Option XV),rsum (plo ps b.length) i (ahd ps g b) <= left/\S = []/\δ = [some (.d (.tuple (ps.map zfl))),some (.d (.tuple [.tuple (g.ts.map tmD),.int g.lo,.int g.hi])),some (.d (.tuple (b.map PyData.int))),some (.d (zeH t)),some (.d (.int (left - rsum (plo ps b.length) i (ahd ps g b)))),some (.d (.int b.length)),some (.d (.tuple [.int (plo ps b.length),.int (phi ps b.length)])),some (.d (.dict (DD.pairs (.k (zbc (tmT g.ts)))))),some (.d (.int (wR (zu ps g.ts) b))),u9,u10]) ⟨_,_,by rw [zeW]; exact l0,rfl,by rw [zeW,Int.sub_zero]⟩ ?_ ?_
  ·rintro i d _ _ N hi ⟨u9,u10,hs,rfl,rfl⟩ hN
   obtain ⟨hi',rfl⟩:=zco hi
   walk_at "d"
   refine seq1 ?_
   walk_at "d"
   refine ⟨.k (zbc (tmT g.ts)),_,.inr ⟨_,rfl,rfl⟩,congrArg some hn,?_⟩
   walk_at "d"
   refine ⟨zcE (by omega) (by omega),?_⟩
   walk_at "d"
   refine zcV (g:=g) ho ht hr gd ?_
   walk_at "d"
   have ea:fw ((zu ps g.ts).drop (b.length + 1)) (inG g (wR (zu ps g.ts) b + zcA g.ts b.length * (plo ps b.length + i))) = ahd ps g b (plo ps b.length + i):=rfl
   rw [ea]
   have hsc:=zaE (plo ps b.length) i (ahd ps g b)
   refine seq1 ?_
   walk_at "d"
   by_cases hlt:left - rsum (plo ps b.length) i (ahd ps g b) < ahd ps g b (plo ps b.length + i)
   ·rw [if_pos hlt]
    refine q _ (by omega) (by omega) ?_ ?_
    ·rw [show (plo ps b.length + (i:Int) - plo ps b.length).toNat = i by omega]
     exact hs
    ·rw [show (plo ps b.length + (i:Int) - plo ps b.length).toNat = i by omega,hsc]
     omega
   ·rw [if_neg hlt]
    walk_at "d"
    have e5:left - rsum (plo ps b.length) i (ahd ps g b) - ahd ps g b (plo ps b.length + i) = left - rsum (plo ps b.length) (i + 1) (ahd ps g b):=by rw [hsc]; omega
    rw [e5]
    exact hN _ _ ⟨_,_,by rw [hsc]; omega,rfl,rfl⟩
  ·rintro _ _ ⟨u9,u10,hs,rfl,rfl⟩
   rw [zah] at hs
   omega
theorem zmu {ps:List Part} {g:Gap} {b:List Int} {v:Int} (hl:b.length < ps.length):bef (zu ps g.ts) (b ++ [v]) (inG g 0) = bef (zu ps g.ts) b (inG g 0) + rsum (plo ps b.length) (v - plo ps b.length).toNat (ahd ps g b):=by
 rw [zko _ b v _ _ (zjZ hl)]
 congr 1
 show rsum (plo ps b.length) (v - plo ps b.length).toNat _ = _
 refine zbI fun u _ _=>?_
 unfold ahd
 congr 1
 funext w
 show inG g 0 (w + zcA g.ts b.length * u + wR (zu ps g.ts) b) = _
 rw [zjB g (wR (zu ps g.ts) b + zcA g.ts b.length * u) w]
 congr 1
 omega
def nbr (ps:List Part) (g:Gap) (one:List Int):Int:=bef (zu ps g.ts) one (inG g 0)
theorem znK {ps:List Part} {g:Gap} {one:List Int} (hl:one.length = ps.length):∀ n,n <= ps.length->((List.range n).map fun k:Nat=>rsum (plo ps k) (one.getD k 0 - plo ps k).toNat (ahd ps g (one.take k))).sum = nbr ps g (one.take n)
 | 0,_=>by
  unfold nbr
  rw [List.take_zero]
  cases zu ps g.ts <;> rfl
 | n + 1,h=>by
  have hn:n < one.length:=by omega
  have et:one.take (n + 1) = one.take n ++ [one.getD n 0]:=zjV (zgk hn)
  have el:(one.take n).length = n:=by rw [List.length_take]; omega
  rw [List.range_succ,List.map_append,List.sum_append,znK hl n (by omega),et]
  unfold nbr
  rw [zmu (by rw [el]; omega),el]
  simp
theorem zhP {ps:List Part} {g:Gap} {one:List Int} {T:List Tal} (ho:Ord ps) (hb:Bnd ps) (h8:ps.length <= 8) (ht:Tms ps.length g.ts) (hr:zaD ps g.ts - zZ ps g.ts < 400) (hT:T.length = ps.length + 1) (hG:∀ k t,T[k]? = some t->Gd ps g.ts k t) (hbx:InBox ps one) (q:R (.d (.int (nbr ps g one))) []) :
  ∃ n:Nat,zox [] (.d (zcw ps)) = some n/\zff 0 (zm 0) zaJ (zaf 4 zaK (ze (zn 1) (ze (zn 2) (ze (dSl ztz (zn 3) zb7 (zfz (dOp zaX (zn 0) (dC (.int 1))))) (ze (dOp dIx (zn 4) (dOp zaX (zn 0) (dC (.int 1)))) zv))))) (fun S2=>∃ S0 acc,S2 = S0 ++ [acc]/\List.length S0 = 0/\∃ ns:List Int,acc = ns.map PyData.int/\R (.d (.int ns.sum)) []) (zhE 0 (n:Int).toNat) [none,some (.d (zcw ps)),some (.d (zd6 g)),some (.d (zb2 one)),some (.d (.list (T.map zeH)))] [[]]:=by
 have hl:=hbx.len
 have ed:zcw ps = .tuple (ps.map zfl):=rfl
 refine ⟨ps.length,by rw [ed,zkb,List.length_map],?_⟩
 refine cmp1 (S0:=[]) (fun k:Nat=>PyData.int (rsum (plo ps k) (one.getD k 0 - plo ps k).toNat (ahd ps g (one.take k)))) rfl (List.range ps.length) (by rw [List.length_range]; omega) ?_ ?_
 ·intro k mk u acc R' hk
  have hkl:=List.mem_range.mp mk
  have hko:k < one.length:=by omega
  have e0:(0:Int) + (k:Int) + 1 = ((k + 1:Nat):Int):=by omega
  have es:zb2 one = .tuple (one.map PyData.int):=rfl
  have et:one.take (k + 1) = one.take k ++ [one.getD k 0]:=zjV (zgk hko)
  have eln:(one.take k).length = k:=by rw [List.length_take]; omega
  have eT:=List.getElem?_eq_getElem (l:=T) (i:=k + 1) (by omega)
  have gd:=hG (k + 1) _ eT
  rw [es]
  walk_at "d"
  rw [e0]
  refine ⟨_,zb1 eT,?_⟩
  walk_at "d"
  rw [zq4 (by simp; omega),<- List.map_take,et]
  refine zeJ (ps:=ps) (g:=g) (b:=one.take k) (v:=one.getD k 0) ho hb h8 ht hr (by rw [eln]; omega) (by rw [eln]; exact gd) (by rw [eln]; exact (hbx.ok k hkl).1) (by rw [eln]; exact (hbx.ok k hkl).2) ?_
  walk_at "d"
  rw [eln]
  exact hk _
 refine ⟨[],_,rfl,rfl,?_⟩
 refine ⟨(List.range ps.length).map fun k:Nat=>rsum (plo ps k) (one.getD k 0 - plo ps k).toNat (ahd ps g (one.take k)),by rw [List.map_map]; rfl,?_⟩
 rw [znK hl ps.length (Nat.le_refl _),List.take_of_length_le (by omega)]
 exact q
theorem zhI {EX:EXD} {ps:List Part} {g:Gap} (ho:Ord ps) (hb:Bnd ps) (h8:ps.length <= 8) (ht:Tms ps.length g.ts) (hr:zaD ps g.ts - zZ ps g.ts < 400)
  (q:∀ T:List Tal,T.length = ps.length + 1->(∀ k t,T[k]? = some t->Gd ps g.ts k t)->R (.d (.list (T.map zeH))) []):zcD [.d (zcw ps),.d (zd6 g)] [] R EX:=by
 unfold zcD
 rw [zcs,zcw]
 walk_at "d"
 (refine seq1 ?_; walk_at "d")
 refine zka (ps:=ps) (g:=g) (ht.tm3 h8) ?_
 walk_at "d"
 refine ze4 ?_
 walk_at "d"
 refine seq1 ?_
 walk_at "d"
 rw [if_neg (by omega)]
 refine seq1 ?_
 unfold zkO
 walk_at "d"
 refine ⟨zbc (tmT g.ts),by unfold zbc tmT; rw [List.map_map,List.map_map]; rfl,by have:=ht.len; simp [zbc,tmT]; omega,?_⟩
 rw [zeM (zgy (zey ht.srt))]
 (refine seq1 ?_; walk_at "d")
 refine cut (fun δ S=>∃ (L:List Tal) (u5:Option XV),L.length = ps.length + 1/\(∀ j t,L[j]? = some t->Gd ps g.ts (ps.length - j) t)/\S = [L.map zeH]/\δ = [some (.d (.tuple (ps.map zfl))),some (.d (.tuple [.tuple (g.ts.map tmD),.int g.lo,.int g.hi])),some (.d (.int (zaD ps g.ts - zZ ps g.ts + 1))),some (.d (.dict (DD.pairs (.k (zbc (tmT g.ts)))))),some (.l 0),u5]) (fun N hN=>?_) ?_
 ·walk_at "d"
  refine ⟨_,_,⟨rfl,rfl⟩,⟨by omega,by omega⟩,by decide,?_⟩
  have en:((ps.length:Int) - 1 - -1).toNat = ps.length:=by omega
  rw [en]
  have er:zgO ([]:List Row) = 0/\zgN ([]:List Row) = 0:=⟨rfl,rfl⟩
  refine zaW (fun i δ S=>∃ (L:List Tal) (u5:Option XV),L.length = i + 1/\(∀ j t,L[j]? = some t->Gd ps g.ts (ps.length - j) t)/\S = [L.map zeH]/\δ = [some (.d (.tuple (ps.map zfl))),some (.d (.tuple [.tuple (g.ts.map tmD),.int g.lo,.int g.hi])),some (.d (.int (zaD ps g.ts - zZ ps g.ts + 1))),some (.d (.dict (DD.pairs (.k (zbc (tmT g.ts)))))),some (.l 0),u5]) ⟨[[(0,1)]],_,rfl,fun j t e=>?_,rfl,rfl⟩ ?_ ?_
  ·cases j with
   | succ j=>cases e
   | zero =>
    cases e
    have ed:(zu ps g.ts).drop (ps.length - 0) = []:=List.drop_of_length_le (by rw [zbO]; omega)
    refine ⟨by rw [ed]; exact Tl.one,fun f=>?_⟩
    rw [ed]
    show 1 * f 0 + 0 = f 0
    omega
  ·rintro i d _ _ N hii ⟨L,u5,hl,hL,rfl,rfl⟩ hN
   obtain ⟨hi',rfl⟩:=zeD hii
   have hk:ps.length - 1 - i < ps.length:=by omega
   have ek:((ps.length:Int) - 1 - i) = ((ps.length - 1 - i:Nat):Int):=by omega
   rw [ek]
   have hli:i < L.length:=by omega
   have el:=List.getElem?_eq_getElem hli
   have gd:=hL i _ el
   have e1:ps.length - i = ps.length - 1 - i + 1:=by omega
   rw [e1] at gd
   generalize L[i] = t at el gd
   generalize hkk:ps.length - 1 - i = k at *
   have edr:=zc2 (ts:=g.ts) hk
   walk_at "d"
   refine ⟨zeH t,?_,?_⟩
   ·obtain ⟨r,er⟩:=List.getLast?_eq_some_iff.mp (show (L.map zeH).getLast? = some (zeH t) by
     rw [List.getLast?_eq_getElem?,List.length_map,hl,Nat.add_sub_cancel,List.getElem?_map,el]
     rfl)
    rw [er]
    exact zk0 _ _
   ·walk_at "d"
    refine ⟨_,zb1 (zep hk),?_⟩
    walk_at "d"
    refine zdY ?_
    walk_at "d"
    refine ⟨.k (zbc (tmT g.ts)),.inr ⟨_,rfl,rfl⟩,?_⟩
    walk_at "d"
    refine ⟨lkA (zbc (tmT g.ts)) (Sum.inl (k:Int)),rfl,?_⟩
    rw [ziE (zey ht.srt)]
    walk_at "d"
    have hbd:zcA g.ts k = 0\/∃ t ∈ g.ts,t.1 = k/\zcA g.ts k = t.2:=zhy ht k
    have hcons:zgO ((zu ps g.ts).drop k) = rLo (zbG ps g.ts k) + zgO ((zu ps g.ts).drop (k + 1))/\zgN ((zu ps g.ts).drop k) = rHi (zbG ps g.ts k) + zgN ((zu ps g.ts).drop (k + 1)):=by
     rw [edr]
     unfold zgO zgN
     simp
    have hdr:=zet (zu ps g.ts) k
    have hen:=zfJ ho ht
    rw [hen.1,hen.2] at hdr
    refine zfu (t:=t) (a:=plo ps k) (b:=phi ps k) (m:=zcA g.ts k) gd.tl (ho _ (zbx hk)) (by have:=gd.len ho ht hr; omega) (fun _=>⟨gd.val ho hb h8,by have:=hb _ (zbx hk); unfold phi plo; omega⟩) (fun h0=>?_) (fun h0=>?_) fun t' ht' hs'=>?_
    ·rcases hbd with h | ⟨u,mu,_,e⟩
     ·exact absurd h h0
     ·rw [e]
      exact (ht.ok u mu).2.2
    ·show _ + rHi (zbG ps g.ts k) - (_ + rLo (zbG ps g.ts k)) < 900
     omega
    ·walk_at "d"
     refine ⟨by first | omega | (simp; omega),hN _ _ ⟨L ++ [t'],_,by simp [hl],fun j u ej=>?_,by simp,rfl⟩⟩
     by_cases hj:j < L.length
     ·rw [List.getElem?_append_left hj] at ej
      exact hL j u ej
     ·have hj2:j = L.length:=by
       have:=(List.getElem?_eq_some_iff.mp ej).1
       simp at this
       omega
      subst hj2
      rw [List.getElem?_concat_length] at ej
      cases ej
      have e4:ps.length - L.length = k:=by omega
      rw [e4]
      refine ⟨?_,fun f=>?_⟩
      ·rw [hcons.1,hcons.2,Int.add_comm (rLo _),Int.add_comm (rHi _)]
       exact ht'
      ·rw [hs' f,edr]
       show _ = rsum (plo ps k) (cnt (plo ps k) (phi ps k)) fun x=>fw ((zu ps g.ts).drop (k + 1)) fun w=>f (w + zcA g.ts k * x)
       exact zbI fun x _ _=>gd.fw _
  ·rintro _ _ ⟨L,u5,hl,hL,rfl,rfl⟩
   refine hN _ _ ⟨L,u5,?_,hL,rfl,rfl⟩
   simpa [zjI] using hl
 rintro _ _ ⟨L,u5,hl,hL,rfl,rfl⟩
 refine seq1 ?_
 walk_at "d"
 refine .inl ?_
 rw [<- List.map_reverse]
 refine q L.reverse (by simpa using hl) fun k t ek=>?_
 have hk:k < L.length:=by simpa using (List.getElem?_eq_some_iff.mp ek).1
 rw [List.getElem?_reverse hk] at ek
 have:=hL _ t ek
 rwa [show ps.length - (L.length - 1 - k) = k by omega] at this
theorem ziv {ps:List Part} {g:Gap} {one:List Int} (ho:Ord ps) (hb:Bnd ps) (h8:ps.length <= 8) (ht:Tms ps.length g.ts) (hr:zaD ps g.ts - zZ ps g.ts < 400) (hbx:InBox ps one) (hk:zaF g one = true) (q:R (.d (.int (nbr ps g one))) []):zc5 [.d (zcw ps),.d (zd6 g),.d (zb2 one)] [] R:=by
 unfold zc5
 walk_at "d"
 (refine seq1 ?_; walk_at "d")
 refine zeL ho hb h8 ht hr fun T hT hG=>?_
 walk_at "d"
 refine seq1 ?_
 walk_at "d"
 refine zmK (by omega) ?_
 rw [zl1.mpr ⟨one,rfl,hbx⟩]
 walk_at "d"
 refine zoI (by rw [hbx.len]; exact ht.tm3 h8) ?_
 rw [hk]
 walk_at "d"
 refine zhP ho hb h8 ht hr hT hG hbx ?_
 walk_at "d"
 exact q
theorem ztP {ps:List Part} {g:Gap} {b:List Int} (hl:b.length < ps.length):fw ((zu ps g.ts).drop b.length) (inG g (wR (zu ps g.ts) b)) = rsum (plo ps b.length) (cnt (plo ps b.length) (phi ps b.length)) (ahd ps g b):=by
 rw [zc2 hl]
 show (rsum (plo ps b.length) (cnt (plo ps b.length) (phi ps b.length)) fun x=>fw ((zu ps g.ts).drop (b.length + 1)) fun w=>inG g (wR (zu ps g.ts) b) (w + zcA g.ts b.length * x)) = _
 refine zbI fun u _ _=>?_
 unfold ahd
 congr 1
 funext w
 rw [zjB g (wR (zu ps g.ts) b),zjB g (wR (zu ps g.ts) b + _)]
 congr 1
 omega
def zv0 (ps:List Part):DEnds->XE->Sto->Prop:=(zgA (zaz (ze (dCB zbR (ze (zn 0) zv)) zv)) (zm 6) (zW (zag (zaf 5 zbH (ze (zn 0) (ze (zn 1) (ze (zn 4) (ze (dOp dIx (zn 3) (dOp zaX (zn 6) (dC (.int 1)))) (ze (zn 5) zv)))))) (zm 7)) (zW (zag (dOp zaX (zn 4) (zef (ze (zn 7) zv))) (zm 4)) (zag (dOp (dI0 fun i j=>i - j) (zn 5) (zaf 4 zaK (ze (zn 0) (ze (zn 1) (ze (zn 4) (ze (dOp dIx (zn 3) (dOp zaX (zn 6) (dC (.int 1)))) zv)))))) (zm 5)))))
theorem zf6 {E:DEnds} {ps:List Part} {g:Gap} {n:Int} {T:List Tal} {u6 u7:Option XV} (ho:Ord ps) (hb:Bnd ps) (h8:ps.length <= 8) (ht:Tms ps.length g.ts) (hr:zaD ps g.ts - zZ ps g.ts < 400) (hT:T.length = ps.length + 1) (hG:∀ k t,T[k]? = some t->Gd ps g.ts k t) (n0:0 <= n) (n1:n < zcJ ps g)
  (q:∀ one u5 u6 u7,InBox ps one->zaF g one = true->nbr ps g one = n->E.nx [some (.d (zcw ps)),some (.d (zd6 g)),some (.d (.int n)),some (.d (.list (T.map zeH))),some (.d (zb2 one)),u5,u6,u7] []) :
  zv0 ps E [some (.d (zcw ps)),some (.d (zd6 g)),some (.d (.int n)),some (.d (.list (T.map zeH))),some (.d (.tuple [])),some (.d (.int n)),u6,u7] []:=by
 have ed:zcw ps = .tuple (ps.map zfl):=rfl
 have en:∀ S':Sto,zox S' (.d (zcw ps)) = some ps.length:=fun S'=>by rw [ed,zkb,List.length_map]
 unfold zv0
 walk_at "d"
 refine ⟨ps.length,en _,?_⟩
 refine zaW (fun i δ S=>∃ (b:List Int) (u6 u7:Option XV),b.length = i/\(∀ k,k < i->plo ps k <= b.getD k 0/\b.getD k 0 <= phi ps k)/\0 <= n - nbr ps g b/\n - nbr ps g b < fw ((zu ps g.ts).drop i) (inG g (wR (zu ps g.ts) b))/\S = []/\δ = [some (.d (zcw ps)),some (.d (zd6 g)),some (.d (.int n)),some (.d (.list (T.map zeH))),some (.d (zb2 b)),some (.d (.int (n - nbr ps g b))),u6,u7]) ⟨[],u6,u7,rfl,fun k h=>by omega,?_,?_,rfl,?_⟩ ?_ ?_
 ·have:nbr ps g [] = 0:=by unfold nbr; cases zu ps g.ts <;> rfl
  omega
 ·have e1:nbr ps g [] = 0:=by unfold nbr; cases zu ps g.ts <;> rfl
  have e2:wR (zu ps g.ts) [] = 0:=by cases zu ps g.ts <;> rfl
  rw [e1,e2,List.drop_zero]
  unfold zcJ at n1
  omega
 ·have e1:nbr ps g [] = 0:=by unfold nbr; cases zu ps g.ts <;> rfl
  rw [e1,Int.sub_zero]
  rfl
 ·rintro i d _ _ N hii ⟨b,u6,u7,hbl,hbx,h0,h1,rfl,rfl⟩ hN
  obtain ⟨hi',rfl⟩:=zco hii
  have hi2:i < ps.length:=by omega
  subst hbl
  have eT:=List.getElem?_eq_getElem (l:=T) (i:=b.length + 1) (by omega)
  have gd:=hG _ _ eT
  have e0:(0:Int) + (b.length:Int) + 1 = ((b.length + 1:Nat):Int):=by omega
  rw [ztP hi2] at h1
  walk_at "d"
  refine seq1 ?_
  walk_at "d"
  rw [e0]
  refine ⟨_,zb1 eT,?_⟩
  walk_at "d"
  refine ziW (g:=g) (b:=b) ho hb h8 ht hr hi2 gd h0 h1 fun v v1 v2 v3 v4=>?_
  have es:zb2 b = .tuple (b.map PyData.int):=rfl
  rw [es]
  walk_at "d"
  refine seq1 ?_
  walk_at "d"
  refine ⟨by omega,?_⟩
  walk_at "d"
  have es2:PyData.tuple (b.map PyData.int ++ [.int v]) = zb2 (b ++ [v]):=by unfold zb2; rw [List.map_append]; rfl
  rw [es2,e0]
  refine ⟨_,zb1 eT,?_⟩
  walk_at "d"
  refine zeJ (g:=g) (b:=b) (v:=v) ho hb h8 ht hr hi2 gd v1 v2 ?_
  walk_at "d"
  have ea:=zmu (g:=g) (v:=v) hi2
  have ea2:nbr ps g (b ++ [v]) = nbr ps g b + rsum (plo ps b.length) (v - plo ps b.length).toNat (ahd ps g b):=ea
  have hsc:=zaE (plo ps b.length) (v - plo ps b.length).toNat (ahd ps g b)
  rw [show plo ps b.length + ((v - plo ps b.length).toNat:Int) = v by omega] at hsc
  have e7:n - nbr ps g b - rsum (plo ps b.length) (v - plo ps b.length).toNat (ahd ps g b) = n - nbr ps g (b ++ [v]):=by rw [ea2]; omega
  rw [e7]
  have ew:wR (zu ps g.ts) (b ++ [v]) = wR (zu ps g.ts) b + zcA g.ts b.length * v:=zjs _ b v _ (zjZ hi2)
  refine hN _ _ ⟨b ++ [v],_,_,by simp,fun k hk=>?_,by omega,?_,rfl,rfl⟩
  ·by_cases hkb:k < b.length
   ·have:=hbx k hkb
    rw [List.getD_eq_getElem?_getD,List.getElem?_append_left hkb,<- List.getD_eq_getElem?_getD]
    exact this
   ·have:k = b.length:=by omega
    subst this
    rw [List.getD_eq_getElem?_getD,List.getElem?_concat_length]
    exact ⟨v1,v2⟩
  ·rw [ew]
   show _ < ahd ps g b v
   omega
 ·rintro _ _ ⟨b,u6,u7,hbl,hbx,h0,h1,rfl,rfl⟩
  rw [zah] at hbl h1
  have hbl2:b.length = ps.length:=by omega
  have hbox:InBox ps b:=⟨hbl2,fun k hk=>hbx k (by rw [zah]; omega)⟩
  have ed2:(zu ps g.ts).drop ((ps.length:Int)).toNat = []:=List.drop_of_length_le (by rw [zbO]; omega)
  rw [ed2,zd1 ht hbl2] at h1
  have h1':n - nbr ps g b < inG g (worth g.ts b) 0:=h1
  have hkp:zaF g b = true/\inG g (worth g.ts b) 0 = 1:=by
   unfold inG at h1' ⊢
   unfold zaF
   split at h1'
   ·rename_i hin
    rw [if_pos hin]
    simp only [Int.add_zero] at hin
    exact ⟨by simp [hin.1,hin.2],rfl⟩
   ·omega
  rw [hkp.2] at h1'
  exact q b _ _ _ hbox hkp.1 (by omega)
theorem zs3 {ps:List Part} {g:Gap} {n:Int} (ho:Ord ps) (hb:Bnd ps) (h8:ps.length <= 8) (ht:Tms ps.length g.ts) (hr:zaD ps g.ts - zZ ps g.ts < 400) (n0:0 <= n) (n1:n < zcJ ps g) (q:∀ one,InBox ps one->zaF g one = true->nbr ps g one = n->R (.d (zb2 one)) []):zpq [.d (zcw ps),.d (zd6 g),.d (.int n)] [] R:=by
 unfold zpq
 walk_at "d"
 (refine seq1 ?_; walk_at "d")
 refine zeL ho hb h8 ht hr fun T hT hG=>?_
 have eT:=List.getElem?_eq_getElem (l:=T) (i:=0) (by omega)
 have gd:=hG _ _ eT
 walk_at "d"
 refine seq1 ?_
 walk_at "d"
 refine zdM ?_
 simp only [zbt]
 walk_at "d"
 rw [if_pos n0]
 refine ⟨_,zct (j:=0) (by rw [List.getElem?_map,eT]; rfl),?_⟩
 walk_at "d"
 refine zcV ho ht hr gd ?_
 rw [List.drop_zero]
 unfold zcJ at n1
 walk_at "d"
 rw [if_neg (by omega)]
 (refine seq1 ?_; walk_at "d")
 (refine seq1 ?_; walk_at "d")
 refine cut (fun δ S=>∃ one u5 u6 u7,InBox ps one/\zaF g one = true/\nbr ps g one = n/\S = []/\δ = [some (.d (zcw ps)),some (.d (zd6 g)),some (.d (.int n)),some (.d (.list (T.map zeH))),some (.d (zb2 one)),u5,u6,u7]) (fun N hN=>?_) ?_
 ·exact zf6 ho hb h8 ht hr hT hG n0 n1 fun one u5 u6 u7 h1 h2 h3=>hN _ _ ⟨one,u5,u6,u7,h1,h2,h3,rfl,rfl⟩
 ·rintro _ _ ⟨one,u5,u6,u7,h1,h2,h3,rfl,rfl⟩
  walk_at "d"
  exact q one h1 h2 h3
def zvb (ps:List Part) (g:Gap):PyData->Bool
 | .int n=>decide (0 <= n/\n < zcJ ps g)
 | _=>false
theorem ztL {EX:EXD} {ps:List Part} {g:Gap} {d:PyData} (ho:Ord ps) (hb:Bnd ps) (h8:ps.length <= 8) (ht:Tms ps.length g.ts) (hr:zaD ps g.ts - zZ ps g.ts < 400) (q1:∀ n one,d = .int n->InBox ps one->zaF g one = true->nbr ps g one = n->R (.d (zb2 one)) []) (q2:zvb ps g d = false->EX 61 []):zoJ [.d (zcw ps),.d (zd6 g),.d d] [] R EX:=by
 unfold zoJ
 walk_at "d"
 (refine seq1 ?_; walk_at "d")
 refine zhI ho hb h8 ht hr fun T hT hG=>?_
 have eT:=List.getElem?_eq_getElem (l:=T) (i:=0) (by omega)
 have gd:=hG _ _ eT
 walk_at "d"
 refine seq1 ?_
 walk_at "d"
 refine zdM ?_
 cases d with
 | int n =>
  simp only [zbt]
  walk_at "d"
  by_cases n0:0 <= n
  ·rw [if_pos n0]
   refine ⟨_,zct (j:=0) (by rw [List.getElem?_map,eT]; rfl),?_⟩
   walk_at "d"
   refine zcV ho ht hr gd ?_
   rw [List.drop_zero]
   have ek:fw (zu ps g.ts) (inG g 0) = zcJ ps g:=rfl
   rw [ek]
   walk_at "d"
   by_cases n1:n < zcJ ps g
   ·rw [if_neg (by omega)]
    (refine seq1 ?_; walk_at "d")
    (refine seq1 ?_; walk_at "d")
    refine cut (fun δ S=>∃ one u5 u6 u7,InBox ps one/\zaF g one = true/\nbr ps g one = n/\S = []/\δ = [some (.d (zcw ps)),some (.d (zd6 g)),some (.d (.int n)),some (.d (.list (T.map zeH))),some (.d (zb2 one)),u5,u6,u7]) (fun N hN=>?_) ?_
    ·exact zf6 ho hb h8 ht hr hT hG n0 n1 fun one u5 u6 u7 h1 h2 h3=>hN _ _ ⟨one,u5,u6,u7,h1,h2,h3,rfl,rfl⟩
    ·rintro _ _ ⟨one,u5,u6,u7,h1,h2,h3,rfl,rfl⟩
     walk_at "d"
     exact q1 n one rfl h1 h2 h3
   ·rw [if_pos (by omega)]
    walk_at "d"
    exact q2 (decide_eq_false (by omega))
  ·rw [if_neg n0]
   walk_at "d"
   exact q2 (decide_eq_false (by omega))
 | none=>(simp only [zbt]; walk_at "d"; exact q2 rfl)
 | bool b=>(simp only [zbt]; walk_at "d"; exact q2 rfl)
 | str b=>(simp only [zbt]; walk_at "d"; exact q2 rfl)
 | list b=>(simp only [zbt]; walk_at "d"; exact q2 rfl)
 | dict b=>(simp only [zbt]; walk_at "d"; exact q2 rfl)
 | tuple b=>(simp only [zbt]; walk_at "d"; exact q2 rfl)
end
section
variable {R:RX} {S:Sto}
theorem Drw.bnd {ps:List Part} (h:Drw ps):Bnd ps:=fun p m=>by
 have:=h.all p m
 have h1:=this.lo
 have h2:=this.hi
 have e1:(10:Int) ^ 58 < 2 ^ 195:=by decide +kernel
 have e2:(10:Int) ^ 59 < 2 ^ 197:=by decide +kernel
 have e3:(2:Int) ^ 195 + 2 ^ 197 + 1 < 2 ^ 200:=by decide +kernel
 omega
end
section
variable {R:RX} {S:Sto} {EX:EXD}
theorem ziF {g:Gap} {ns:List Int} (h3:Tm3 ns.length g.ts) (q:R (.d (.bool (zaF g ns))) []):zcY [.d (zd6 g),.d (zb2 ns)] [] R:=by
 unfold zcY
 have eg:zd6 g = .tuple [zkO g.ts,.int g.lo,.int g.hi]:=rfl
 have k1:∀ (S:Sto) (R':RX),R' (.d (.int g.lo)) S->dIx (.d (zd6 g)) (.d (.int 1)) S R':=fun S R' h=>by rw [eg]; walk_at "d"; exact h
 have k2:∀ (S:Sto) (R':RX),R' (.d (.int g.hi)) S->dIx (.d (zd6 g)) (.d (.int 2)) S R':=fun S R' h=>by rw [eg]; walk_at "d"; exact h
 walk_at "d"
 refine k1 _ _ ?_
 walk_at "d"
 refine ziz h3 ?_
 walk_at "d"
 by_cases h1:g.lo <= worth g.ts ns
 ·rw [if_pos h1]
  refine k2 _ _ ?_
  walk_at "d"
  unfold zaF at q
  simpa [h1] using q
 ·rw [if_neg h1]
  walk_at "d"
  unfold zaF at q
  simpa [h1] using q
theorem zl6 {ps:List Part} {g:Gap} {one:List Int} (ht:Tms ps.length g.ts) (hbx:InBox ps one) (hk:zaF g one = true):0 <= nbr ps g one/\nbr ps g one < zcJ ps g:=by
 have h1:=zfd (zu ps g.ts) one (inG g 0) fun w=>(zgz g 0 w).1
 have h2:=zmy (zu ps g.ts) one (inG g 0) (fun w=>(zgz g 0 w).1) (zgc.mpr hbx)
 rw [zd1 ht hbx.len] at h2
 have h3:inG g 0 (worth g.ts one) = 1:=by
  unfold zaF at hk
  have:=of_decide_eq_true hk
  unfold inG
  rw [if_pos (by omega)]
 rw [h3] at h2
 unfold nbr zcJ
 omega
theorem cmp1d {n:Nat} {S0:Sto} {g:DG} {te:DE} {fin:Sto->Prop} {caps:XE} (f:PyData->PyData) (hn:S0.length = n) (l:List PyData) {u:Option XV} (hl:l.length <= 1000)
  (el:∀ x ∈ l,∀ (u:Option XV) acc (R:XE->RX),(∀ u',R (u' :: caps) (.d (f x)) (S0 ++ [acc]))->g (.d x) (u :: caps) (S0 ++ [acc]) fun τ1 S1=>te τ1 S1 (R τ1)) (hf:fin (S0 ++ [l.map f])):zff n g zaJ te fin l (u :: caps) (S0 ++ [[]]):=by
 have:=cmp1 (h:=fun d:PyData=>d) (g:=g) (te:=te) (fin:=fin) (caps:=caps) (u:=u) f hn l hl el hf
 rwa [List.map_id'] at this
end
section
variable {R:RX} {S:Sto}
theorem zlT {ps:List Part} (ho:Ord ps) (h100:ps.length <= 100) (hs:zcX ps <= 300) (q:R (.d (.list ((zfm ps).map zb2))) []):zgK [.d (zcw ps)] [] R:=zfA ho h100 hs q
end
section
variable {R:RX} {S:Sto} {EX:EXD}
def kpt (ps:List Part) (g:Gap):List (List Int):=(zfm ps).filter (zaF g)
theorem zeS {g:Gap} {one:List Int}:inG g 0 (worth g.ts one) = if zaF g one = true then 1 else 0:=by
 unfold inG zaF
 simp only [Int.zero_add,decide_eq_true_eq]
theorem zn5 {ps:List Part} {g:Gap} (ht:Tms ps.length g.ts):((kpt ps g).length:Int) = zcJ ps g:=by
 unfold zcJ
 rw [zp5,zlb]
 have e:(zfm ps).map (fun xs=>inG g 0 (wR (zu ps g.ts) xs)) = (zfm ps).map fun xs=>if zaF g xs = true then (1:Int) else 0:=List.map_congr_left fun xs m=>by
  rw [zd1 ht (zde.mp m).len]
  exact zeS
 rw [e]
 unfold kpt
 induction zfm ps with
 | nil=>rfl
 | cons x l ih =>
  rw [List.map_cons,List.sum_cons,<- ih]
  cases h:zaF g x with
  | true=>rw [List.filter_cons_of_pos h,if_pos rfl,List.length_cons]; omega
  | false=>rw [List.filter_cons_of_neg (by rw [h]; decide),if_neg (by decide)]; omega
theorem zgm {ps:List Part} {g:Gap} {one:List Int}:one ∈ kpt ps g ↔ InBox ps one/\zaF g one = true:=by
 unfold kpt
 rw [List.mem_filter,zde]
theorem zlF (ps:List Part) (g:Gap):(kpt ps g).Pairwise fun a b=>HT.lexLt a b = true:=(zgl ps).filter _
theorem zsy {ps:List Part} {g:Gap} {a b:List Int} (ht:Tms ps.length g.ts) (ha:a ∈ kpt ps g) (hb:b ∈ kpt ps g) (h:HT.lexLt a b = true):nbr ps g a + 1 <= nbr ps g b:=by
 obtain ⟨a1,a2⟩:=zgm.mp ha
 obtain ⟨b1,b2⟩:=zgm.mp hb
 have:=zks (zu ps g.ts) a b (inG g 0) (fun w=>(zgz g 0 w).1) (zgc.mpr a1) (zgc.mpr b1) h
 rw [zd1 ht a1.len,zeS,if_pos a2] at this
 exact this
theorem zsg {l:List Int} {m:Int} (hp:l.Pairwise fun a b=>a + 1 <= b) (h0:∀ x ∈ l,0 <= x) (h1:∀ x ∈ l,x < m) (hm:m = l.length):∀ (i:Nat) (x:Int),l[i]? = some x->x = i:=by
 have lo:∀ (l:List Int) (c:Int),(l.Pairwise fun a b=>a + 1 <= b)->(∀ x ∈ l,c <= x)->∀ (i:Nat) (x:Int),l[i]? = some x->c + i <= x:=by
  intro l
  induction l with
  | nil=>intro c _ _ i x h; simp at h
  | cons y l ih =>
   intro c hp h0 i x h
   rw [List.pairwise_cons] at hp
   cases i with
   | zero =>
    have:y = x:=by simpa using h
    subst this
    have:=h0 y List.mem_cons_self
    simpa using this
   | succ i =>
    have:=ih (c + 1) hp.2 (fun z mz=>by have h2:=hp.1 z mz; have h3:=h0 y List.mem_cons_self; omega) i x (by simpa using h)
    omega
 have hi:∀ (l:List Int) (c:Int),(l.Pairwise fun a b=>a + 1 <= b)->(∀ x ∈ l,x < c)->∀ (i:Nat) (x:Int),l[i]? = some x->x + (l.length - i) <= c:=by
  intro l
  induction l with
  | nil=>intro c _ _ i x h; simp at h
  | cons y l ih =>
   intro c hp h0 i x h
   rw [List.pairwise_cons] at hp
   cases i with
   | zero =>
    have:y = x:=by simpa using h
    subst this
    cases l with
    | nil =>
     have:=h0 y List.mem_cons_self
     simp
     omega
    | cons z l =>
     have h2:=ih c hp.2 (fun w mw=>h0 w (List.mem_cons_of_mem _ mw)) 0 z rfl
     have h3:=hp.1 z List.mem_cons_self
     simp only [List.length_cons] at h2 ⊢
     omega
   | succ i =>
    have:=ih c hp.2 (fun z mz=>h0 z (List.mem_cons_of_mem _ mz)) i x (by simpa using h)
    simp only [List.length_cons]
    omega
 intro i x h
 have a:=lo l 0 hp h0 i x h
 have b:=hi l m hp h1 i x h
 have:=(List.getElem?_eq_some_iff.mp h).1
 omega
theorem zr9 {ps:List Part} {g:Gap} (ht:Tms ps.length g.ts) {i:Nat} {one:List Int} (h:(kpt ps g)[i]? = some one):nbr ps g one = i:=by
 refine zsg (l:=(kpt ps g).map (nbr ps g)) (m:=zcJ ps g) ?_ (fun x m=>?_) (fun x m=>?_) (by rw [List.length_map]; exact (zn5 ht).symm) i _ (by rw [List.getElem?_map,h]; rfl)
 ·rw [List.pairwise_map]
  exact List.Pairwise.imp_of_mem (fun ma mb hab=>zsy ht ma mb hab) (zlF ps g)
 ·obtain ⟨a,ma,rfl⟩:=List.mem_map.mp m
  obtain ⟨a1,a2⟩:=zgm.mp ma
  exact (zl6 ht a1 a2).1
 ·obtain ⟨a,ma,rfl⟩:=List.mem_map.mp m
  obtain ⟨a1,a2⟩:=zgm.mp ma
  exact (zl6 ht a1 a2).2
theorem zrD {ps:List Part} {g:Gap} {a b:List Int} (ht:Tms ps.length g.ts) (a1:InBox ps a) (a2:zaF g a = true) (b1:InBox ps b) (b2:zaF g b = true) (h:nbr ps g a = nbr ps g b):a = b :=
 zri (fun w=>(zgz g 0 w).1) (zgc.mpr a1) (zgc.mpr b1) (by rw [zd1 ht a1.len,zeS,if_pos a2]; decide) (by rw [zd1 ht b1.len,zeS,if_pos b2]; decide) h
theorem ze6 {ps:List Part} {g:Gap} {d:PyData} (ho:Ord ps) (hb:Bnd ps) (h8:ps.length <= 8) (ht:Tms ps.length g.ts) (hr:zaD ps g.ts - zZ ps g.ts < 400) (hn:zvb ps g d = false) (q:R (.d (.bool true)) []):zbf [.d (zcw ps),.d (zd6 g),.d d] [] R:=by
 unfold zbf
 walk_at "d"
 refine seq1 ?_
 walk_at "d"
 refine ztL ho hb h8 ht hr (fun n one e h1 h2 h3=>?_) fun _=>?_
 ·exfalso
  subst e
  have:=zl6 ht h1 h2
  unfold zvb at hn
  have:=of_decide_eq_false hn
  omega
 ·refine ⟨by decide,?_⟩
  walk_at "d"
  refine ⟨61,[],rfl,zjO (by decide) ?_⟩
  walk_at "d"
  exact ⟨by decide +kernel,by decide +kernel,q⟩
theorem zdj {ps:List Part} {g:Gap} {a b:Int} {r:List Int} (ho:Ord ps) (hb:Bnd ps) (h8:ps.length <= 8) (hs:zcX ps <= 300) (ht:Tms ps.length g.ts) (hr:zaD ps g.ts - zZ ps g.ts < 400) (a0:0 <= a) (a1:a < 10 ^ 6) (b0:0 <= b) (hrl:r.length <= 10) (q:R (.d (.bool true)) []):za0 [.d (zcw ps),.d (zd6 g),.d (.list ((a :: b :: r).map PyData.int))] [] R:=by
 unfold za0
 walk_at "d"
 (refine seq1 ?_; walk_at "d")
 refine zlT ho (by omega) hs ?_
 have bl:(zfm ps).length <= 300:=by rw [zlf ps]; exact hs
 walk_at "d"
 refine cmf1 (S0:=[]) zb2 (zaF g) rfl (zfm ps) (by omega) ?_ ?_
 ·intro one m u acc R' hk
  walk_at "d"
  refine ziF (by rw [(zde.mp m).len]; exact ht.tm3 h8) ?_
  walk_at "d"
  refine hk _ fun _ T hT=>?_
  walk_at "d"
  exact hT
 refine ⟨[],_,rfl,rfl,?_⟩
 have ek:(zfm ps).filter (zaF g) = kpt ps g:=rfl
 rw [ek]
 have hkl:(kpt ps g).length <= 300:=by
  have:=List.length_filter_le (zaF g) (zfm ps)
  rw [ek] at this
  omega
 have hlen:=zn5 ht
 (refine seq1 ?_; walk_at "d")
 rw [hlen]
 have hk0:=zr8 ps g
 have hk3:zcJ ps g <= 300:=by omega
 have hki:∀ i:Int,0 <= i->i < zcJ ps g->∃ one,atI ((kpt ps g).map zb2) i = some (zb2 one)/\InBox ps one/\zaF g one = true/\nbr ps g one = i:=fun i i0 i1=>by
  obtain ⟨k,rfl⟩:=Int.eq_ofNat_of_zero_le i0
  have hk:k < (kpt ps g).length:=by omega
  have e:=List.getElem?_eq_getElem hk
  obtain ⟨m1,m2⟩:=zgm.mp (List.mem_of_getElem? e)
  exact ⟨_,zb1 e,m1,m2,zr9 ht e⟩
 generalize hK:zcJ ps g = K at hk0 hk3 hki
 refine seq1 ?_
 walk_at "d"
 refine .inl ⟨⟨by decide,by decide +kernel⟩,?_⟩
 walk_at "d"
 have hM:0 < (if K > 1 then K else 1):=by split <;> omega
 refine cmp1 (S0:=[]) (h:=PyData.int) (fun x=>PyData.int (x % (if K > 1 then K else 1))) rfl (a :: b :: r) (by simp; omega) ?_ ?_
 ·intro x m u acc R' hk
  walk_at "d"
  exact ⟨hM,hk _⟩
 refine ⟨[],_,rfl,rfl,by simp; omega,?_⟩
 have hit:∀ d ∈ (PyData.int 0 :: PyData.int (K - 1) :: PyData.int (K / 2) :: (a :: b :: r).map fun x=>PyData.int (x % (if K > 1 then K else 1))),∃ n:Int,d = .int n/\(0 < K->0 <= n/\n < K):=fun d m=>by
  rcases List.mem_cons.mp m with rfl | m
  ·exact ⟨0,rfl,fun h=>⟨by omega,h⟩⟩
  rcases List.mem_cons.mp m with rfl | m
  ·exact ⟨_,rfl,fun h=>by omega⟩
  rcases List.mem_cons.mp m with rfl | m
  ·exact ⟨_,rfl,fun h=>by omega⟩
  obtain ⟨x,_,rfl⟩:=List.mem_map.mp m
  refine ⟨_,rfl,fun h=>?_⟩
  have h1:=Int.emod_nonneg x (show (if K > 1 then K else 1) ≠ 0 by omega)
  have h2:=Int.emod_lt_of_pos x hM
  split at h2 <;> rename_i hk1
  ·rw [if_pos hk1] at h1 ⊢
   omega
  ·rw [if_neg hk1] at h1 ⊢
   omega
 generalize (PyData.int 0 :: PyData.int (K - 1) :: PyData.int (K / 2) :: (a :: b :: r).map fun x=>PyData.int (x % (if K > 1 then K else 1))) = its at hit
 refine zaW (fun i δ S=>∃ (u5 u6:Option XV),S = []/\δ = [some (.d (zcw ps)),some (.d (zd6 g)),some (.d (.list (.int a :: .int b :: r.map PyData.int))),some (.d (.list ((kpt ps g).map zb2))),some (.d (.int K)),u5,u6,none]) ⟨_,_,rfl,rfl⟩ ?_ ?_
 ·rintro i d _ _ N hi ⟨u5,u6,rfl,rfl⟩ hN
  obtain ⟨n,rfl,hn⟩:=hit d (List.mem_of_getElem? hi)
  walk_at "d"
  by_cases hK0:0 < K
  ·obtain ⟨n0,n1⟩:=hn hK0
   obtain ⟨one,eo,o1,o2,o3⟩:=hki n n0 n1
   rw [if_pos hK0]
   refine seq1 ?_
   walk_at "d"
   refine ⟨_,eo,?_⟩
   walk_at "d"
   refine ziv ho hb h8 ht hr o1 o2 ?_
   rw [o3]
   walk_at "d"
   refine zs3 ho hb h8 ht hr n0 (by rw [hK]; exact n1) fun one' p1 p2 p3=>?_
   have e1:one' = one:=zrD ht p1 p2 o1 o2 (by rw [p3,o3])
   rw [e1]
   walk_at "d"
   refine ⟨_,eo,?_⟩
   walk_at "d"
   refine zf1 (a:=one) (b:=one) (d:=zb2 one) rfl (by rw [o1.len]; omega) ?_
   walk_at "d"
   refine zfk ?_
   simp only [zbt]
   walk_at "d"
   exact hN _ _ ⟨_,_,rfl,rfl⟩
  ·rw [if_neg hK0]
   walk_at "d"
   exact hN _ _ ⟨_,_,rfl,rfl⟩
 ·rintro _ _ ⟨u5,u6,rfl,rfl⟩
  refine seq1 ?_
  walk_at "d"
  (refine seq1 ?_; walk_at "d")
  refine ⟨⟨by decide,by decide,by omega⟩,?_⟩
  have a3:0 <= a ^ 3:=Int.pow_nonneg a0
  refine cmp1d (S0:=[]) (fun _=>PyData.bool true) rfl _ (Nat.le_of_ble_eq_true rfl) ?_ ?_
  ·intro d md u acc R' hk
   walk_at "d"
   refine ze6 ho hb h8 ht hr ?_ ?_
   ·simp only [List.mem_cons,List.not_mem_nil,or_false] at md
    rcases md with rfl | rfl | rfl | rfl | rfl | rfl | rfl | rfl | rfl | rfl | rfl
    ·show decide (0 <= K/\K < zcJ ps g) = false
     exact decide_eq_false (by omega)
    ·show decide (0 <= (-1:Int)/\(-1:Int) < zcJ ps g) = false
     exact decide_eq_false (by omega)
    ·show decide (0 <= K + 1 + a ^ 3/\K + 1 + a ^ 3 < zcJ ps g) = false
     exact decide_eq_false (by omega)
    ·show decide (0 <= -2 - b/\-2 - b < zcJ ps g) = false
     exact decide_eq_false (by omega)
    all_goals rfl
   ·walk_at "d"
    exact hk _
  ·walk_at "d"
   refine ⟨List.replicate 11 true,rfl,?_⟩
   exact q
theorem zju (a:Addr) (n:Int):zry (zwx a 8) ((some (.o (.ref a)) :: List.replicate 8 none).set 1 (some (.d (.int n)))) []:=by
 unfold zry
 walk_at "d"
 (refine seq1 ?_; walk_at "d")
 refine zlp fun p hp=>?_
 walk_at "d"
 (refine seq1 ?_; walk_at "d")
 refine zl0 hp (by decide) (by decide) fun ps p1 hd hs hp1=>?_
 walk_at "d"
 (refine seq1 ?_; walk_at "d")
 refine zlB hp1 hd fun g p2 hg hp2=>?_
 have l8:=hd.l8
 have ht:=hg.ts
 have eg:zd6 g = .tuple [zkO g.ts,.int g.lo,.int g.hi]:=rfl
 have k0:∀ (S:Sto) (R':RX),R' (.d (zkO g.ts)) S->dIx (.d (zd6 g)) (.d (.int 0)) S R':=fun S R' h=>by rw [eg]; walk_at "d"; exact h
 walk_at "d"
 (refine seq1 ?_; walk_at "d")
 refine zvl (α:=Int) (fun x=>0 <= x/\x < 10 ^ 6) PyData.int (fun τ=>∃ u,τ = [u,some (.l 0)]) _ [] p2 _ ⟨_,rfl⟩ hp2 (by rw [zah]; simp) ?_ ?_
 ·rintro d md _ p acc R' ⟨u,rfl⟩ hp hk
  walk_at "d"
  refine ⟨⟨by decide,by decide,by decide⟩,?_⟩
  refine zM hp (by decide) (by decide +kernel) fun r p' r0 r1 hp'=>?_
  walk_at "d"
  exact hk _ _ p' ⟨_,rfl⟩ hp' ⟨by omega,by simpa using r1⟩
 ·intro ws p3 hp3 hw hl
  rw [zah] at hl
  have hl4:ws.length = 4:=by simpa using hl
  rw [List.nil_append]
  walk_at "d"
  refine seq1 ?_
  walk_at "d"
  refine k0 _ _ ?_
  walk_at "d"
  refine zf2 (ts:=g.ts) (t:=zkO g.ts) rfl (ht.tm3 l8) ?_
  unfold spD
  walk_at "d"
  refine zaW (fun i δ S=>∃ (u8:Option XV),S = [p3]/\δ = [some (.o (.ref a)),some (.d (.int n)),some (.l 0),some (.d (zcw ps)),some (.d (zd6 g)),some (.d (.list (ws.map PyData.int))),some (.d (.int (zZ ps g.ts))),some (.d (.int (zaD ps g.ts))),u8]) ⟨_,rfl,rfl⟩ ?_ ?_
  ·rintro i d _ _ N hi ⟨u8,rfl,rfl⟩ hN
   walk_at "d"
   by_cases hr:zaD ps g.ts - zZ ps g.ts < 400
   ·rw [if_pos hr]
    obtain ⟨x,y,r,rfl⟩:∃ x y r,ws = x :: y :: r:=by
     match ws,hl4 with
     | x :: y :: r,_=>exact ⟨x,y,r,rfl⟩
    have hx:=hw x List.mem_cons_self
    have hy:=hw y (List.mem_cons_of_mem _ List.mem_cons_self)
    refine zdj hd.ord hd.bnd l8 hs ht hr hx.1 hx.2 hy.1 (by simp at hl4; omega) ?_
    walk_at "d"
    exact hN _ _ ⟨_,rfl,rfl⟩
   ·rw [if_neg hr]
    walk_at "d"
    exact hN _ _ ⟨_,rfl,rfl⟩
  ·rintro _ _ ⟨u8,rfl,rfl⟩
   walk_at "d"
theorem zll (a:Addr):zjw (zv9 a 8) (some (.o (.ref a)) :: List.replicate 8 none) []:=by
 unfold zjw
 walk_at "d"
 have hb:Bnd [(("a":Str),(0:Int),(0:Int))]:=fun p m=>by rw [List.mem_singleton.mp m]; decide
 have ho:Ord [(("a":Str),(0:Int),(0:Int))]:=fun p m=>by rw [List.mem_singleton.mp m]; decide
 have ht:Tms 1 [((0:Nat),(1:Int))]:=⟨by simp,by simp,fun t m=>by rw [List.mem_singleton.mp m]; decide,by simp⟩
 refine zdj (ps:=[("a",0,0)]) (g:=⟨[(0,1)],0,0⟩) (a:=0) (b:=0) (r:=[]) ho hb (by decide) (by decide) ht (by decide) (by decide) (by decide) (by decide) (by decide) ?_
 walk_at "d"
end
end My
namespace My
open PySem L2
def top (i : Nat) : Stmt := PySem.Challenge.pw_gaugewright_k29_sets_counted.main.body.getD i (.Pass ⟨0, 0, 0, 0⟩)
abbrev s_law_cell_at:Stmt:=top 38
theorem zgT:FnScope ["script","k"] ["script","k"] (zp s_law_cell_at):=fsc (by decide +kernel)
abbrev s_law_all:Stmt:=top 49
theorem zbo:FnScope ["drawing","found","name","low","high","rows","ahead"] ["drawing"] (zp s_law_all):=fsc (by decide +kernel)
abbrev s_law_worth:Stmt:=top 50
theorem zbX:FnScope ["gap","one","total","part","times"] ["gap","one"] (zp s_law_worth):=fsc (by decide +kernel)
abbrev s_law_keeps:Stmt:=top 51
theorem zi0:FnScope ["gap","one"] ["gap","one"] (zp s_law_keeps):=fsc (by decide +kernel)
abbrev s_size_of:Stmt:=top 17
theorem zlK:FnScope ["one"] ["one"] (zp s_size_of):=fsc (by decide +kernel)
abbrev s_plus:Stmt:=top 15
theorem zrp:FnScope ["one","other"] ["one","other"] (zp s_plus):=fsc (by decide +kernel)
abbrev s_multiplied:Stmt:=top 16
theorem zeO:FnScope ["one","by","ends"] ["one","by"] (zp s_multiplied):=fsc (by decide +kernel)
abbrev s_span_of:Stmt:=top 19
theorem zlI:FnScope ["part"] ["part"] (zp s_span_of):=fsc (by decide +kernel)
abbrev s_reach_of_terms:Stmt:=top 26
theorem zaH:FnScope ["drawing","terms","ends","part","times"] ["drawing","terms"] (zp s_reach_of_terms):=fsc (by decide +kernel)
abbrev s_reach:Stmt:=top 25
theorem zpi:FnScope ["drawing","gap"] ["drawing","gap"] (zp s_reach):=fsc (by decide +kernel)
abbrev s_with_part:Stmt:=top 35
theorem zbn:FnScope ["tally","span","times","longer","number","worth","many","total"] ["tally","span","times"] (zp s_with_part):=fsc (by decide +kernel)
abbrev s_tallies_of:Stmt:=top 34
theorem zal:FnScope ["drawing","gap","many","times","tallies","part"] ["drawing","gap"] (zp s_tallies_of):=fsc (by decide +kernel)
abbrev s_is_whole:Stmt:=top 13
theorem zjU:FnScope ["thing"] ["thing"] (zp s_is_whole):=fsc (by decide +kernel)
abbrev s_is_set:Stmt:=top 20
theorem zoc:FnScope ["drawing","thing"] ["drawing","thing"] (zp s_is_set):=fsc (by decide +kernel)
abbrev s_worth_of:Stmt:=top 22
theorem zjA:FnScope ["gap","one"] ["gap","one"] (zp s_worth_of):=fsc (by decide +kernel)
abbrev s_keeps:Stmt:=top 23
theorem zo4:FnScope ["gap","one"] ["gap","one"] (zp s_keeps):=fsc (by decide +kernel)
abbrev s_worth_of_beginning:Stmt:=top 33
theorem zdQ:FnScope ["gap","beginning"] ["gap","beginning"] (zp s_worth_of_beginning):=fsc (by decide +kernel)
abbrev s_kept_behind:Stmt:=top 36
theorem zgV:FnScope ["tally","gap","worth"] ["tally","gap","worth"] (zp s_kept_behind):=fsc (by decide +kernel)
abbrev s_kept_ahead:Stmt:=top 32
theorem zbu:FnScope ["drawing","gap","beginning","tally","part","low","times","worth"] ["drawing","gap","beginning","tally"] (zp s_kept_ahead):=fsc (by decide +kernel)
abbrev s_number_of:Stmt:=top 31
theorem zft:FnScope ["drawing","gap","thing","tallies"] ["drawing","gap","thing"] (zp s_number_of):=fsc (by decide +kernel)
abbrev s_number_at:Stmt:=top 30
theorem zaL:FnScope ["drawing","gap","beginning","tally","left","part","span","times","worth","number","many"] ["drawing","gap","beginning","tally","left"] (zp s_number_at):=fsc (by decide +kernel)
abbrev s_nth:Stmt:=top 29
theorem zb8:FnScope ["drawing","gap","number","tallies","one","left","part","found"] ["drawing","gap","number"] (zp s_nth):=fsc (by decide +kernel)
abbrev s_law_kind:Stmt:=top 53
theorem zcn:FnScope ["e","marks","words"] ["e"] (zp s_law_kind):=fsc (by decide +kernel)
abbrev s_law_refused:Stmt:=top 54
theorem zd7:FnScope ["drawing","gap","thing","e"] ["drawing","gap","thing"] (zp s_law_refused):=fsc (by decide +kernel)
abbrev s_law_whole:Stmt:=top 42
theorem ziN:FnScope ["found"] ["found"] (zp s_law_whole):=fsc (by decide +kernel)
abbrev s_law_tuple:Stmt:=top 52
theorem ziA:FnScope ["found","due"] ["found","due"] (zp s_law_tuple):=fsc (by decide +kernel)
abbrev s_law_right:Stmt:=top 55
theorem zbm:FnScope ["drawing","gap","some","sets","many","number","told","odd"] ["drawing","gap","some"] (zp s_law_right):=fsc (by decide +kernel)
abbrev s_law_pen:Stmt:=top 40
theorem zhd:FnScope ["cell","left"] ["cell"] (zp s_law_pen):=fsc (by decide +kernel)
abbrev s_law_next:Stmt:=top 39
theorem zgD:FnScope ["seed"] ["seed"] (zp s_law_next):=fsc (by decide +kernel)
abbrev s_law_draw:Stmt:=top 41
theorem zfZ:FnScope ["pen","many","found"] ["pen","many"] (zp s_law_draw):=fsc (by decide +kernel)
abbrev s_law_names:Stmt:=top 44
theorem zav:FnScope ["pen","letters","way","first","names","word","at"] ["pen"] (zp s_law_names):=fsc (by decide +kernel)
abbrev s_law_number:Stmt:=top 43
theorem zeE:FnScope ["pen","way"] ["pen"] (zp s_law_number):=fsc (by decide +kernel)
abbrev s_law_few:Stmt:=top 45
theorem zbL:FnScope ["pen","most","names","wides","drawing","k","low"] ["pen","most"] (zp s_law_few):=fsc (by decide +kernel)
abbrev s_law_terms:Stmt:=top 47
theorem zbV:FnScope ["pen","drawing","some","terms","part"] ["pen","drawing"] (zp s_law_terms):=fsc (by decide +kernel)
abbrev s_law_ends:Stmt:=top 46
theorem zaZ:FnScope ["drawing","terms","least","most","part","times","ends"] ["drawing","terms"] (zp s_law_ends):=fsc (by decide +kernel)
abbrev s_law_gap:Stmt:=top 48
theorem zbK:FnScope ["pen","drawing","terms","least","most","wide","low","high"] ["pen","drawing"] (zp s_law_gap):=fsc (by decide +kernel)
abbrev s_law:Stmt:=top 56
theorem zeR:FnScope ["script","cell","pen","drawing","gap","some","least","most","turn"] ["script"] (zp s_law):=fsc (by decide +kernel)
abbrev s_I_TooGreat:Stmt:=zr5 (top 11) 0
theorem zia:FnScope ["self","many","most"] ["self","many","most"] (zp s_I_TooGreat):=fsc (by decide +kernel)
structure Txt (mg:Str->Option Value):Prop where
 n_range:mg "range" = none
 n_len:mg "len" = none
 n_max:mg "max" = none
 n_min:mg "min" = none
 n_dict:mg "dict" = none
 n_isinstance:mg "isinstance" = none
 n_bool:mg "bool" = none
 n_int:mg "int" = none
 n_tuple:mg "tuple" = none
 n_all:mg "all" = none
 n_zip:mg "zip" = none
 n_sum:mg "sum" = none
 n_ValueError:mg "ValueError" = none
 g_MOST_WORTHS:∃ t,mg "MOST_WORTHS" = some (.int 400 t)
structure Dds (K:W.Frag) (mg:Str->Option Value):Prop where
 d_law_cell_at:Dd K mg "_law_cell_at" s_law_cell_at ["script","k"]
 d_law_all:Dd K mg "_law_all" s_law_all ["drawing"]
 d_law_worth:Dd K mg "_law_worth" s_law_worth ["gap","one"]
 d_law_keeps:Dd K mg "_law_keeps" s_law_keeps ["gap","one"]
 d_size_of:Dd K mg "size_of" s_size_of ["one"]
 d_plus:Dd K mg "plus" s_plus ["one","other"]
 d_multiplied:Dd K mg "multiplied" s_multiplied ["one","by"]
 d_span_of:Dd K mg "span_of" s_span_of ["part"]
 d_reach_of_terms:Dd K mg "reach_of_terms" s_reach_of_terms ["drawing","terms"]
 d_reach:Dd K mg "reach" s_reach ["drawing","gap"]
 d_with_part:Dd K mg "with_part" s_with_part ["tally","span","times"]
 d_tallies_of:Dd K mg "tallies_of" s_tallies_of ["drawing","gap"]
 d_is_whole:Dd K mg "is_whole" s_is_whole ["thing"]
 d_is_set:Dd K mg "is_set" s_is_set ["drawing","thing"]
 d_worth_of:Dd K mg "worth_of" s_worth_of ["gap","one"]
 d_keeps:Dd K mg "keeps" s_keeps ["gap","one"]
 d_worth_of_beginning:Dd K mg "worth_of_beginning" s_worth_of_beginning ["gap","beginning"]
 d_kept_behind:Dd K mg "kept_behind" s_kept_behind ["tally","gap","worth"]
 d_kept_ahead:Dd K mg "kept_ahead" s_kept_ahead ["drawing","gap","beginning","tally"]
 d_number_of:Dd K mg "number_of" s_number_of ["drawing","gap","thing"]
 d_number_at:Dd K mg "number_at" s_number_at ["drawing","gap","beginning","tally","left"]
 d_nth:Dd K mg "nth" s_nth ["drawing","gap","number"]
 d_law_kind:Dd K mg "_law_kind" s_law_kind ["e"]
 d_law_refused:Dd K mg "_law_refused" s_law_refused ["drawing","gap","thing"]
 d_law_whole:Dd K mg "_law_whole" s_law_whole ["found"]
 d_law_tuple:Dd K mg "_law_tuple" s_law_tuple ["found","due"]
 d_law_right:Dd K mg "_law_right" s_law_right ["drawing","gap","some"]
 d_law_pen:Dd K mg "_law_pen" s_law_pen ["cell"]
 d_law_next:Dd K mg "_law_next" s_law_next ["seed"]
 d_law_draw:Dd K mg "_law_draw" s_law_draw ["pen","many"]
 d_law_names:Dd K mg "_law_names" s_law_names ["pen"]
 d_law_number:Dd K mg "_law_number" s_law_number ["pen"]
 d_law_few:Dd K mg "_law_few" s_law_few ["pen","most"]
 d_law_terms:Dd K mg "_law_terms" s_law_terms ["pen","drawing"]
 d_law_ends:Dd K mg "_law_ends" s_law_ends ["drawing","terms"]
 d_law_gap:Dd K mg "_law_gap" s_law_gap ["pen","drawing"]
structure Exx (K:W.Frag) (mg:Str->Option Value):Prop where
 ex:Exs K
 m_GaugeError:mg "GaugeError" = some (.ref 24)
 m_NoSpan:mg "NoSpan" = some (.ref 37)
 m_NoPart:mg "NoPart" = some (.ref 49)
 m_NoSet:mg "NoSet" = some (.ref 61)
 m_NoRow:mg "NoRow" = some (.ref 73)
 m_Unlike:mg "Unlike" = some (.ref 85)
 m_NoDrawing:mg "NoDrawing" = some (.ref 104)
 m_NoGap:mg "NoGap" = some (.ref 123)
 m_NoOffer:mg "NoOffer" = some (.ref 142)
 m_NoText:mg "NoText" = some (.ref 161)
 m_TooGreat:mg "TooGreat" = some (.ref 180)
 c_GaugeError:ExCls K 24 none
 c_NoSpan:ExCls K 37 none
 c_NoPart:ExCls K 49 none
 c_NoSet:ExCls K 61 none
 c_NoRow:ExCls K 73 none
 c_Unlike:ExCls K 85 none
 r_TooGreat:XI K 180 ["many","most"] "TooGreat.__init__" s_I_TooGreat
section
variable {P:Program} {w:World} {K:W.Frag} {mg:Str->Option Value} {base:Heap}
abbrev ze9 (P:Program) (w:World) (K:W.Frag) (mg:Str->Option Value) (base:Heap):Prop:=Df P w K mg base "_law_all" ["drawing"] 1 (spN ["drawing"] zgK)
abbrev zdD (P:Program) (w:World) (K:W.Frag) (mg:Str->Option Value) (base:Heap):Prop:=Df P w K mg base "_law_worth" ["gap","one"] 1 (spN ["gap","one"] zeg)
abbrev zdS (P:Program) (w:World) (K:W.Frag) (mg:Str->Option Value) (base:Heap):Prop:=Df P w K mg base "_law_keeps" ["gap","one"] 2 (spN ["gap","one"] zcY)
abbrev zcO (P:Program) (w:World) (K:W.Frag) (mg:Str->Option Value) (base:Heap):Prop:=Df P w K mg base "size_of" ["one"] 1 (spN ["one"] zcR)
abbrev zjN (P:Program) (w:World) (K:W.Frag) (mg:Str->Option Value) (base:Heap):Prop:=Df P w K mg base "plus" ["one","other"] 1 (spN ["one","other"] zk8)
abbrev zdd (P:Program) (w:World) (K:W.Frag) (mg:Str->Option Value) (base:Heap):Prop:=Df P w K mg base "multiplied" ["one","by"] 1 (spN ["one","by"] zcG)
abbrev zcc (P:Program) (w:World) (K:W.Frag) (mg:Str->Option Value) (base:Heap):Prop:=Df P w K mg base "span_of" ["part"] 1 (spN ["part"] zcv)
abbrev zbN (P:Program) (w:World) (K:W.Frag) (mg:Str->Option Value) (base:Heap):Prop:=Df P w K mg base "reach_of_terms" ["drawing","terms"] 2 (spN ["drawing","terms"] zbi)
abbrev zfK (P:Program) (w:World) (K:W.Frag) (mg:Str->Option Value) (base:Heap):Prop:=Df P w K mg base "reach" ["drawing","gap"] 3 (spN ["drawing","gap"] zgI)
abbrev zcF (P:Program) (w:World) (K:W.Frag) (mg:Str->Option Value) (base:Heap):Prop:=Df P w K mg base "with_part" ["tally","span","times"] 2 (spN ["tally","span","times"] zch)
abbrev zdh (P:Program) (w:World) (K:W.Frag) (mg:Str->Option Value) (base:Heap):Prop:=DfX P w K mg base "tallies_of" ["drawing","gap"] 4 (spX ["drawing","gap"] zcD)
abbrev zca (P:Program) (w:World) (K:W.Frag) (mg:Str->Option Value) (base:Heap):Prop:=Df P w K mg base "tallies_of" ["drawing","gap"] 4 (spN ["drawing","gap"] zbQ)
abbrev zcl (P:Program) (w:World) (K:W.Frag) (mg:Str->Option Value) (base:Heap):Prop:=Df P w K mg base "is_whole" ["thing"] 1 (spN ["thing"] zcd)
abbrev zgF (P:Program) (w:World) (K:W.Frag) (mg:Str->Option Value) (base:Heap):Prop:=Df P w K mg base "is_set" ["drawing","thing"] 2 (spN ["drawing","thing"] zfI)
abbrev zen (P:Program) (w:World) (K:W.Frag) (mg:Str->Option Value) (base:Heap):Prop:=Df P w K mg base "worth_of" ["gap","one"] 1 (spN ["gap","one"] zd5)
abbrev zh3 (P:Program) (w:World) (K:W.Frag) (mg:Str->Option Value) (base:Heap):Prop:=Df P w K mg base "keeps" ["gap","one"] 2 (spN ["gap","one"] zhY)
abbrev zaB (P:Program) (w:World) (K:W.Frag) (mg:Str->Option Value) (base:Heap):Prop:=Df P w K mg base "worth_of_beginning" ["gap","beginning"] 1 (spN ["gap","beginning"] zau)
abbrev zaR (P:Program) (w:World) (K:W.Frag) (mg:Str->Option Value) (base:Heap):Prop:=Df P w K mg base "kept_behind" ["tally","gap","worth"] 1 (spN ["tally","gap","worth"] zam)
abbrev zbD (P:Program) (w:World) (K:W.Frag) (mg:Str->Option Value) (base:Heap):Prop:=Df P w K mg base "kept_ahead" ["drawing","gap","beginning","tally"] 2 (spN ["drawing","gap","beginning","tally"] zaK)
abbrev zdu (P:Program) (w:World) (K:W.Frag) (mg:Str->Option Value) (base:Heap):Prop:=Df P w K mg base "number_of" ["drawing","gap","thing"] 5 (spN ["drawing","gap","thing"] zc5)
abbrev zcH (P:Program) (w:World) (K:W.Frag) (mg:Str->Option Value) (base:Heap):Prop:=Df P w K mg base "number_at" ["drawing","gap","beginning","tally","left"] 2 (spN ["drawing","gap","beginning","tally","left"] zbH)
abbrev znx (P:Program) (w:World) (K:W.Frag) (mg:Str->Option Value) (base:Heap):Prop:=DfX P w K mg base "nth" ["drawing","gap","number"] 5 (spX ["drawing","gap","number"] zoJ)
abbrev zmh (P:Program) (w:World) (K:W.Frag) (mg:Str->Option Value) (base:Heap):Prop:=Df P w K mg base "nth" ["drawing","gap","number"] 5 (spN ["drawing","gap","number"] zpq)
abbrev zes (P:Program) (w:World) (K:W.Frag) (mg:Str->Option Value) (base:Heap):Prop:=DfN P w K mg base "_law_kind" ["e"] 1 (spN ["e"] zdV)
abbrev zcI (P:Program) (w:World) (K:W.Frag) (mg:Str->Option Value) (base:Heap):Prop:=Df P w K mg base "_law_refused" ["drawing","gap","thing"] 6 (spN ["drawing","gap","thing"] zbf)
abbrev zcC (P:Program) (w:World) (K:W.Frag) (mg:Str->Option Value) (base:Heap):Prop:=Df P w K mg base "_law_whole" ["found"] 1 (spN ["found"] zbJ)
abbrev zdK (P:Program) (w:World) (K:W.Frag) (mg:Str->Option Value) (base:Heap):Prop:=Df P w K mg base "_law_tuple" ["found","due"] 2 (spN ["found","due"] zfM)
abbrev zfw (P:Program) (w:World) (K:W.Frag) (mg:Str->Option Value) (base:Heap):Prop:=Df P w K mg base "_law_right" ["drawing","gap","some"] 7 (spN ["drawing","gap","some"] za0)
abbrev zhk (P:Program) (w:World) (K:W.Frag) (mg:Str->Option Value) (base:Heap):Prop:=Df P w K mg base "_law_pen" ["cell"] 1 (spN ["cell"] zgd)
abbrev zeh (P:Program) (w:World) (K:W.Frag) (mg:Str->Option Value) (base:Heap):Prop:=Df P w K mg base "_law_next" ["seed"] 1 (spN ["seed"] zcS)
abbrev zbk (P:Program) (w:World) (K:W.Frag) (mg:Str->Option Value) (base:Heap):Prop:=Df P w K mg base "_law_draw" ["pen","many"] 2 (spN ["pen","many"] zy)
abbrev zdT (P:Program) (w:World) (K:W.Frag) (mg:Str->Option Value) (base:Heap):Prop:=Df P w K mg base "_law_names" ["pen"] 3 (spN ["pen"] zc9)
abbrev zdc (P:Program) (w:World) (K:W.Frag) (mg:Str->Option Value) (base:Heap):Prop:=Df P w K mg base "_law_number" ["pen"] 3 (spN ["pen"] zcB)
abbrev zhh (P:Program) (w:World) (K:W.Frag) (mg:Str->Option Value) (base:Heap):Prop:=Df P w K mg base "_law_few" ["pen","most"] 4 (spN ["pen","most"] zf5)
abbrev zdx (P:Program) (w:World) (K:W.Frag) (mg:Str->Option Value) (base:Heap):Prop:=Df P w K mg base "_law_terms" ["pen","drawing"] 3 (spN ["pen","drawing"] zc0)
abbrev zel (P:Program) (w:World) (K:W.Frag) (mg:Str->Option Value) (base:Heap):Prop:=Df P w K mg base "_law_ends" ["drawing","terms"] 1 (spN ["drawing","terms"] zdW)
abbrev zht (P:Program) (w:World) (K:W.Frag) (mg:Str->Option Value) (base:Heap):Prop:=Df P w K mg base "_law_gap" ["pen","drawing"] 4 (spN ["pen","drawing"] zeG)
theorem zdg (T:Txt mg) (dd:Dds K mg):Df P w K mg base "_law_cell_at" ["script","k"] 1 (sp2 (zrV K)):=by
 refine Df.of2 dd.d_law_cell_at zgT (fun v u=>[some v,some u]) (fun _ _=>rfl) fun f cdv A outer s H v u Q E hr h=>?_
 obtain ⟨a,ns,i,rfl,rfl,hS,h0,q⟩:=h
 refine ⟨_,(zj (zbS (zaw ziL (pv 1) (zw zmF (by rfl) T.n_len zbw (zc (pv 0) zg)) (nomark _)) (zr (zP (zQ zmI (pv 0) (pv 1) (fun _ _=>rfl)))) zaq) (zr (zP zh))),?_⟩
 simp only [zjr,zu4,zok,tOp,zoG,tCB,zl2,zsu,zvp,tC,zrv,zmS,List.getElem?_cons_zero,List.getElem?_cons_succ]
 refine ⟨a,_,rfl,.inl hS,?_⟩
 simp only [zmS,zvA,decide_eq_true_eq]
 refine ite2 (fun hi=>?_) (fun _=>q 0)
 obtain ⟨n,e⟩:=zrN h0 hi
 exact ⟨a,_,i,_,rfl,rfl,hS,e,q n⟩
theorem zlN {f:Addr} {fd:FuncData} (F:Fun K "__init__" "TooGreat.__init__" s_I_TooGreat f fd):FnOk P w K mg base CX0 1 f fd ["self","many","most"] (spI K ["many","most"]):=F.ok zia zrq fun cdv A outer s H vs Q E hr h=>⟨_,(zj (zn9 (pv 0) (pv 1) rfl) (zr (zn9 (pv 0) (pv 2) rfl))),init2 (by decide) h⟩
theorem zdF (T:Txt mg) (dd:Dds K mg) (xx:Exx K mg):ze9 P w K mg base:=by
 exact Df.dN dd.d_law_all zbo 6 rfl fun f cdv A outer s H E hr=>⟨_,_,(zj (zC (i:=1) zbo.nd rfl (Or.inl rfl) (zaG (zc (zaY zg) zg))) (zj (zb0 PassesOwn.never rfl (zdk (pv 0)) (zdn (n:=3) rfl (zac (zH (i:=2) zbo.nd rfl (Or.inl rfl)) (zac (zH (i:=3) zbo.nd rfl (Or.inr rfl)) (zac (zH (i:=4) zbo.nd rfl (Or.inl rfl)) zb5)))) (zj (zC (i:=5) zbo.nd rfl (Or.inl rfl) (zaG zg)) (zj (zb0 PassesOwn.never rfl (zdk (pv 1)) (zH (i:=6) zbo.nd rfl (Or.inr rfl)) (zr (zdN (ziu PySem.F.plainAttrs_list PySem.F.slot_list_extend PySem.F.type_list_extend zmZ (pv 5) (zc (zb4 (fun _ _ h=>h) rfl (zar rfl rfl rfl rfl (N:=["k","ahead","low"]) (caps:=[none,some 6,some 3]) (by show zbz ["drawing","found","name","low","high","rows","ahead"] (zp s_law_all).names _ _ _ = true; decide +kernel)) (zaA rfl T.n_range (zc (zF zJ (zF zbF (pv 4) (pv 3)) zh) zg)) (fun _ _ _ _=>(zH (i:=0) (by show List.Nodup (["k","ahead","low"]:List Str); decide) rfl (Or.inl rfl))) (fun _ _ _ _=>zbA) (fun _ _ _ _=>(zF zJ (pv 1) (zaY (zc (zF zJ (pv 2) (pv 0)) zg))))) zg))))) (zr (zC (i:=1) zbo.nd rfl (Or.inl rfl) (pv 5)))))) (zr (zP (pv 1))))),(zt (zx (zaP (za (za6 zf) zf)) zo) (zt (zcz (zdi zd) (zdm (zaa zo (zaa zo (zaa zo zb6)))) (zuk (zt (zum (zt (zx (zdL zf) zo) (zcz (zdi zd) zo (zdI (zm8 znc zd (za (zbj (zbg (za (zq zY (zq zcN zd zd) zi) zf)) zo zbB (zq zY zd (za6 (za (zq zY zd zd) zf)))) zf)))))) (zx zd zo)))) (zS zd))),fun xs S R q=>q⟩
theorem zcq (T:Txt mg) (dd:Dds K mg) (xx:Exx K mg):zdD P w K mg base:=by
 exact Df.dN dd.d_law_worth zbX 3 rfl fun f cdv A outer s H E hr=>⟨_,_,(zj (zC (i:=2) zbX.nd rfl (Or.inl rfl) zh) (zj (zb0 PassesOwn.never rfl (zdk (zQ zD (pv 0) zh (fun _ _=>rfl))) (zdn (n:=2) rfl (zac (zH (i:=3) zbX.nd rfl (Or.inl rfl)) (zac (zH (i:=4) zbX.nd rfl (Or.inl rfl)) zb5))) (zr (zC (i:=2) zbX.nd rfl (Or.inl rfl) (zF zJ (pv 2) (zF zax (pv 4) (zQ zD (pv 1) (pv 3) (fun _ _=>rfl))))))) (zr (zP (pv 2))))),(zt (zx zi zo) (zt (zcz (zdi (zq zR zd zi)) (zdm (zaa zo (zaa zo zb6))) (zx (zq zY zd (zq za9 zd (zq zR zd zd))) zo)) (zS zd))),fun xs S R q=>q⟩
theorem zcf (T:Txt mg) (dd:Dds K mg) (xx:Exx K mg) (zcq:zdD P w K mg base):zdS P w K mg base:=by
 exact Df.dN dd.d_law_keeps zi0 0 rfl fun f cdv A outer s H E hr=>⟨_,_,(zr (zP (zhC zg0 zg0 (zQ zD (pv 0) zh (fun _ _=>rfl)) (zA zcq hr (by decide) (zc (pv 0) (zc (pv 1) zg))) (zQ zD (pv 0) zh (fun _ _=>rfl))))),(zS (zd0 zcy zcy (zq zR zd zi) (zG (za zd (za zd zf))) (zq zR zd zi))),fun xs S R q=>q⟩
theorem za2 (T:Txt mg) (dd:Dds K mg) (xx:Exx K mg):zcO P w K mg base:=by
 exact Df.dN dd.d_size_of zlK 0 rfl fun f cdv A outer s H E hr=>⟨_,_,(zr (zP (zF zJ (zF zbF (zQ zD (pv 0) zh (fun _ _=>rfl)) (zQ zD (pv 0) zh (fun _ _=>rfl))) zh))),(zS (zq zY (zq zcN (zq zR zd zi) (zq zR zd zi)) zi)),fun xs S R q=>q⟩
theorem zjg (T:Txt mg) (dd:Dds K mg) (xx:Exx K mg):zjN P w K mg base:=by
 exact Df.dN dd.d_plus zrp 0 rfl fun f cdv A outer s H E hr=>⟨_,_,(zr (zP (zaY (zc (zF zJ (zQ zD (pv 0) zh (fun _ _=>rfl)) (zQ zD (pv 1) zh (fun _ _=>rfl))) (zc (zF zJ (zQ zD (pv 0) zh (fun _ _=>rfl)) (zQ zD (pv 1) zh (fun _ _=>rfl))) zg))))),(zS (za6 (za (zq zY (zq zR zd zi) (zq zR zd zi)) (za (zq zY (zq zR zd zi) (zq zR zd zi)) zf)))),fun xs S R q=>q⟩
theorem zbT (T:Txt mg) (dd:Dds K mg) (xx:Exx K mg):zdd P w K mg base:=by
 exact Df.dN dd.d_multiplied zeO 1 rfl fun f cdv A outer s H E hr=>⟨_,_,(zj (zC (i:=2) zeO.nd rfl (Or.inl rfl) (zaY (zc (zF zax (zQ zD (pv 0) zh (fun _ _=>rfl)) (pv 1)) (zc (zF zax (zQ zD (pv 0) zh (fun _ _=>rfl)) (pv 1)) zg)))) (zr (zP (zaY (zc (zw (zjj rfl hr.units) (by rfl) T.n_min zqw (zc (pv 2) zg)) (zc (zw (zi6 rfl) (by rfl) T.n_max zj6 (zc (pv 2) zg)) zg)))))),(zt (zx (za6 (za (zq za9 (zq zR zd zi) zd) (za (zq za9 (zq zR zd zi) zd) zf))) zo) (zS (za6 (za (zas zm6 (za zd zf)) (za (zas zqk (za zd zf)) zf))))),fun xs S R q=>q⟩
theorem zaC (T:Txt mg) (dd:Dds K mg) (xx:Exx K mg):zcc P w K mg base:=by
 exact Df.dN dd.d_span_of zlI 0 rfl fun f cdv A outer s H E hr=>⟨_,_,(zr (zP (zaY (zc (zQ zD (pv 0) zh (fun _ _=>rfl)) (zc (zQ zD (pv 0) zh (fun _ _=>rfl)) zg))))),(zS (za6 (za (zq zR zd zi) (za (zq zR zd zi) zf)))),fun xs S R q=>q⟩
theorem zaQ (T:Txt mg) (dd:Dds K mg) (xx:Exx K mg) (zjg:zjN P w K mg base) (zbT:zdd P w K mg base) (zaC:zcc P w K mg base):zbN P w K mg base:=by
 exact Df.dN dd.d_reach_of_terms zaH 3 rfl fun f cdv A outer s H E hr=>⟨_,_,(zj (zC (i:=2) zaH.nd rfl (Or.inl rfl) (zaY (zc zh (zc zh zg)))) (zj (zb0 PassesOwn.never rfl (zdk (pv 1)) (zdn (n:=2) rfl (zac (zH (i:=3) zaH.nd rfl (Or.inl rfl)) (zac (zH (i:=4) zaH.nd rfl (Or.inl rfl)) zb5))) (zr (zC (i:=2) zaH.nd rfl (Or.inl rfl) (zA zjg hr (by decide) (zc (pv 2) (zc (zA zbT hr (by decide) (zc (zA zaC hr (by decide) (zc (zQ zD (pv 0) (pv 3) (fun _ _=>rfl)) zg)) (zc (pv 4) zg))) zg)))))) (zr (zP (pv 2))))),(zt (zx (za6 (za zi (za zi zf))) zo) (zt (zcz (zdi zd) (zdm (zaa zo (zaa zo zb6))) (zx (zG (za zd (za (zG (za (zG (za (zq zR zd zd) zf)) (za zd zf))) zf))) zo)) (zS zd))),fun xs S R q=>q⟩
theorem zdG (T:Txt mg) (dd:Dds K mg) (xx:Exx K mg) (zaQ:zbN P w K mg base):zfK P w K mg base:=by
 exact Df.dN dd.d_reach zpi 0 rfl fun f cdv A outer s H E hr=>⟨_,_,(zr (zP (zA zaQ hr (by decide) (zc (pv 0) (zc (zQ zD (pv 1) zh (fun _ _=>rfl)) zg))))),(zS (zG (za zd (za (zq zR zd zi) zf)))),fun xs S R q=>q⟩
theorem za1 (T:Txt mg) (dd:Dds K mg) (xx:Exx K mg) (za2:zcO P w K mg base):zcF P w K mg base:=by
 exact Df.dN dd.d_with_part zbn 5 rfl fun f cdv A outer s H E hr=>⟨_,_,(zj (zbS (zaw (zeV hr.units) (pv 2) zh (nomark _)) (zr (zP (zjl (zbE (zfB rfl) (by rfl) T.n_dict zgJ (zc (zb4 (fun _ _ h=>h) rfl (zar rfl rfl rfl rfl (N:=["worth","many","span"]) (caps:=[none,none,some 1]) (by show zbz ["tally","span","times","longer","number","worth","many","total"] (zp s_with_part).names _ _ _ = true; decide +kernel)) (zh8 (pv 0) rfl rfl) (fun _ _ _ _=>(zdn (n:=2) rfl (zac (zH (i:=0) (by show List.Nodup (["worth","many","span"]:List Str); decide) rfl (Or.inl rfl)) (zac (zH (i:=1) (by show List.Nodup (["worth","many","span"]:List Str); decide) rfl (Or.inl rfl)) zb5)))) (fun _ _ _ _=>zbA) (fun _ _ _ _=>(zaY (zc (pv 0) (zc (zF zax (pv 1) (zA za2 hr (by decide) (zc (pv 2) zg))) zg))))) zg))))) zaq) (zj (zC (i:=3) zbn.nd rfl (Or.inl rfl) zkP) (zj (zvm (i:=3) (zb0 PassesOwn.never rfl (zfc rfl T.n_range (zc (zQ zD (pv 1) zh (fun _ _=>rfl)) (zc (zF zJ (zQ zD (pv 1) zh (fun _ _=>rfl)) zh) zg))) (zH (i:=4) zbn.nd rfl (Or.inl rfl)) (zr (zb0 PassesOwn.never rfl (zh8 (pv 0) rfl rfl) (zdn (n:=2) rfl (zac (zH (i:=5) zbn.nd rfl (Or.inl rfl)) (zac (zH (i:=6) zbn.nd rfl (Or.inl rfl)) zb5))) (zj (zC (i:=7) zbn.nd rfl (Or.inl rfl) (zF zJ (pv 5) (zF zax (pv 2) (pv 4)))) (zr (zrt (zlq hr) (pv 3) (pv 7) (zF zJ (zh9 (zlq hr) (pv 3) (pv 7) zh ⟨rfl,rfl,rfl,rfl⟩) (pv 6)) rfl))))))) (zr (zP (pv 3)))))),(zt (zck (zf4 (zq zex zd zi)) (zS (zmG (za (zbj (zhO zd) (zdm (zaa zo (zaa zo zb6))) zbB (za6 (za zd (za (zq za9 zd (zG (za zd zf))) zf)))) zf))) zat) (zrr (zsk (zsj (zqd (fun M=>zoq (zh2 (za (zq zR zd zi) (za (zq zY (zq zR zd zi) zi) zf)))) zo (zqd (fun M=>zoq (zhO zd)) (zdm (zaa zo (zaa zo zb6))) (ztS (zsc (zx (zq zY zd (zq za9 zd zd)) zo)) (zue (fun M=>(zaO zd)) (fun M=>(zvD zY (zhA (zaO zd) (zaO zd) (zaO zi)) (zaO zd))))))))) (zS zd))),fun xs S R q=>q⟩
theorem zbY (T:Txt mg) (dd:Dds K mg) (xx:Exx K mg) (za2:zcO P w K mg base) (zdG:zfK P w K mg base) (za1:zcF P w K mg base) (zaC:zcc P w K mg base):zdh P w K mg base:=by
 exact DfX.dN dd.d_tallies_of zal 4 rfl fun f cdv A outer s H E EX hr=>⟨_,_,(zj (zuc (zC (i:=2) zal.nd rfl (Or.inl rfl) (zA za2 hr (by decide) (zc (zA zdG hr (by decide) (zc (pv 0) (zc (pv 1) zg))) zg)))) (zj (zbS (PT.nox (zaw zpo (pv 2) (zh7 rfl T.g_MOST_WORTHS) (nomark _))) (zr (zoo xx.r_TooGreat (fun _ _ F=>zlN F) zps hr (by decide) xx.m_TooGreat (by decide) (zc (pv 2) (zc (zh7 rfl T.g_MOST_WORTHS) zg)))) zaq) (PSs.nox (zj (zC (i:=3) zal.nd rfl (Or.inl rfl) (zjl (zbE (zbC rfl) (by rfl) T.n_dict zgJ (zc (zQ zD (pv 1) zh (fun _ _=>rfl)) zg)))) (zj (zC (i:=4) zal.nd rfl (Or.inl rfl) (zaG (zc (zjl (znV (zk4 zh zh zor) rfl rfl (by simp) (by decide))) zg))) (zj (zb0 PassesOwn.never rfl (ziq rfl T.n_range (zc (zF zbF (zw zai (by rfl) T.n_len zbw (zc (pv 0) zg)) zh) (zc (zdf zby zh) (zc (zdf zby zh) zg)))) (zH (i:=5) zal.nd rfl (Or.inl rfl)) (zr (zdN (ziu PySem.F.plainAttrs_list PySem.F.slot_list_append PySem.F.type_list_append zdJ (pv 4) (zc (zA za1 hr (by decide) (zc (zQ zD (pv 4) (zdf zby zh) (fun _ _=>rfl)) (zc (zA zaC hr (by decide) (zc (zQ zD (pv 0) (pv 5) (fun _ _=>rfl)) zg)) (zc (zh9 (zlq hr) (pv 3) (pv 5) zh ⟨rfl,rfl,rfl,rfl⟩) zg)))) zg))))) (zj (zdN (znR PySem.F.plainAttrs_list PySem.F.slot_list_reverse PySem.F.type_list_reverse zfi (pv 4))) (zr (zP (pv 4)))))))))),(zk9 (ze8 (zx (zG (za (zG (za zd (za zd zf))) zf)) zo)) (zk9 (zp4 (zoh (zf4 (zq zcy zd zi))) (zoi xx.r_TooGreat.i xx.r_TooGreat.na (za zd (za zi zf))) (ze8 zat)) (ze8 (zt (zx (zfH (za (zq zR zd zi) zf)) zo) (zt (zx (zdL (za zkI zf)) zo) (zt (zcz (zmt (za (zq zcN (zas zaS (za zd zf)) zi) (za (zdb zhT zi) (za (zdb zhT zi) zf)))) zo (zdI (zm8 zeY zd (za (zG (za (zq zR zd (zdb zhT zi)) (za (zG (za (zq zR zd zd) zf)) (za (zph (zhA (zaO zd) (zaO zd) (zaO zi))) zf)))) zf)))) (zt (zdI (znt ze2 zd)) (zS zd)))))))),fun xs S R q=>q⟩
theorem zaM (T:Txt mg) (dd:Dds K mg) (xx:Exx K mg) (za2:zcO P w K mg base) (zdG:zfK P w K mg base) (za1:zcF P w K mg base) (zaC:zcc P w K mg base):zca P w K mg base:=by
 exact Df.dN dd.d_tallies_of zal 4 rfl fun f cdv A outer s H E hr=>⟨_,_,(zj (zC (i:=2) zal.nd rfl (Or.inl rfl) (zA za2 hr (by decide) (zc (zA zdG hr (by decide) (zc (pv 0) (zc (pv 1) zg))) zg))) (zj (zbS (zaw zpo (pv 2) (zh7 rfl T.g_MOST_WORTHS) (nomark _)) (zr zhL) zaq) (zj (zC (i:=3) zal.nd rfl (Or.inl rfl) (zjl (zbE (zbC rfl) (by rfl) T.n_dict zgJ (zc (zQ zD (pv 1) zh (fun _ _=>rfl)) zg)))) (zj (zC (i:=4) zal.nd rfl (Or.inl rfl) (zaG (zc (zjl (znV (zk4 zh zh zor) rfl rfl (by simp) (by decide))) zg))) (zj (zb0 PassesOwn.never rfl (ziq rfl T.n_range (zc (zF zbF (zw zai (by rfl) T.n_len zbw (zc (pv 0) zg)) zh) (zc (zdf zby zh) (zc (zdf zby zh) zg)))) (zH (i:=5) zal.nd rfl (Or.inl rfl)) (zr (zdN (ziu PySem.F.plainAttrs_list PySem.F.slot_list_append PySem.F.type_list_append zdJ (pv 4) (zc (zA za1 hr (by decide) (zc (zQ zD (pv 4) (zdf zby zh) (fun _ _=>rfl)) (zc (zA zaC hr (by decide) (zc (zQ zD (pv 0) (pv 5) (fun _ _=>rfl)) zg)) (zc (zh9 (zlq hr) (pv 3) (pv 5) zh ⟨rfl,rfl,rfl,rfl⟩) zg)))) zg))))) (zj (zdN (znR PySem.F.plainAttrs_list PySem.F.slot_list_reverse PySem.F.type_list_reverse zfi (pv 4))) (zr (zP (pv 4))))))))),(zt (zx (zG (za (zG (za zd (za zd zf))) zf)) zo) (zt (zck (zf4 (zq zcy zd zi)) zhJ zat) (zt (zx (zfH (za (zq zR zd zi) zf)) zo) (zt (zx (zdL (za zkI zf)) zo) (zt (zcz (zmt (za (zq zcN (zas zaS (za zd zf)) zi) (za (zdb zhT zi) (za (zdb zhT zi) zf)))) zo (zdI (zm8 zeY zd (za (zG (za (zq zR zd (zdb zhT zi)) (za (zG (za (zq zR zd zd) zf)) (za (zph (zhA (zaO zd) (zaO zd) (zaO zi))) zf)))) zf)))) (zt (zdI (znt ze2 zd)) (zS zd))))))),fun xs S R q=>q⟩
theorem zaI (T:Txt mg) (dd:Dds K mg) (xx:Exx K mg):zcl P w K mg base:=by
 exact Df.dN dd.d_is_whole zjU 0 rfl fun f cdv A outer s H E hr=>⟨_,_,(zr (zP (zk1 (zw zdZ (by rfl) T.n_isinstance zK (zc (pv 0) (zc (zee rfl T.n_int zmQ (v:=.ty "int") rfl) zg))) (zkU (zp8 (zw zdZ (by rfl) T.n_isinstance zK (zc (pv 0) (zc (zee rfl T.n_bool zm4 (v:=.ty "bool") rfl) zg)))))))),(zS (zkG (zas zhv (za zd (za ziP zf))) (zqv (zas zhv (za zd (za ziP zf)))))),fun xs S R q=>q⟩
theorem zeQ (T:Txt mg) (dd:Dds K mg) (xx:Exx K mg) (zaI:zcl P w K mg base):zgF P w K mg base:=by
 exact Df.dN dd.d_is_set zoc 0 rfl fun f cdv A outer s H E hr=>⟨_,_,(zj (zbS (PW.pt (zio (zcW (zbe (zw zdZ (by rfl) T.n_isinstance zK (zc (pv 1) (zc (zee rfl T.n_tuple zeC (v:=.ty "tuple") rfl) zg))) (fun _=>rfl))) (zfO (zaw (zkk hr.units) (zw zai (by rfl) T.n_len zbw (zc (pv 1) zg)) (zw zai (by rfl) T.n_len zbw (zc (pv 0) zg)) (nomark _))))) (zr (zP zgs)) zaq) (zr (zP (zw (zfY rfl) (by rfl) T.n_all znD (zc (zb4 (fun _ _ h=>h) rfl (zar (L:=0) rfl rfl rfl rfl (N:=["number","part"]) (caps:=[none,none]) (by show zbz ["drawing","thing"] (zp s_is_set).names _ _ _ = true; decide +kernel)) (zrO rfl T.n_zip (zc (pv 1) (zc (pv 0) zg))) (fun _ _ _ _=>(zdn (n:=2) rfl (zac (zH (i:=0) (by show List.Nodup (["number","part"]:List Str); decide) rfl (Or.inl rfl)) (zac (zH (i:=1) (by show List.Nodup (["number","part"]:List Str); decide) rfl (Or.inl rfl)) zb5)))) (fun _ _ _ _=>zbA) (fun _ _ _ _=>(zk1 (zA zaI hr (by decide) (zc (pv 0) zg)) (zkU (zhC zg0 zg0 (zQ zD (pv 1) zh (fun _ _=>rfl)) (pv 0) (zQ zD (pv 1) zh (fun _ _=>rfl))))))) zg))))),(zt (zck (zjk (zcT (zdl (zas zhv (za zd (za ziP zf))))) (zf4 (zq zk3 (zas zaS (za zd zf)) (zas zaS (za zd zf))))) (zS zgQ) zat) (zS (zas znZ (za (zbj (zrh (za zd (za zd zf))) (zdm (zaa zo (zaa zo zb6))) zbB (zkG (zG (za zd zf)) (zd0 zcy zcy (zq zR zd zi) zd (zq zR zd zi)))) zf)))),fun xs S R q=>q⟩
theorem zcU (T:Txt mg) (dd:Dds K mg) (xx:Exx K mg):zen P w K mg base:=by
 exact Df.dN dd.d_worth_of zjA 0 rfl fun f cdv A outer s H E hr=>⟨_,_,(zr (zP (zw (zdC rfl) (by rfl) T.n_sum zit (zc (zb4 (fun _ _ h=>h) rfl (zar rfl rfl rfl rfl (N:=["part","times","one"]) (caps:=[none,none,some 1]) (by show zbz ["gap","one"] (zp s_worth_of).names _ _ _ = true; decide +kernel)) (zdk (zQ zD (pv 0) zh (fun _ _=>rfl))) (fun _ _ _ _=>(zdn (n:=2) rfl (zac (zH (i:=0) (by show List.Nodup (["part","times","one"]:List Str); decide) rfl (Or.inl rfl)) (zac (zH (i:=1) (by show List.Nodup (["part","times","one"]:List Str); decide) rfl (Or.inl rfl)) zb5)))) (fun _ _ _ _=>zbA) (fun _ _ _ _=>(zF zax (pv 1) (zQ zD (pv 2) (pv 0) (fun _ _=>rfl))))) zg)))),(zS (zas zir (za (zbj (zdi (zq zR zd zi)) (zdm (zaa zo (zaa zo zb6))) zbB (zq za9 zd (zq zR zd zd))) zf))),fun xs S R q=>q⟩
theorem zgf (T:Txt mg) (dd:Dds K mg) (xx:Exx K mg) (zcU:zen P w K mg base):zh3 P w K mg base:=by
 exact Df.dN dd.d_keeps zo4 0 rfl fun f cdv A outer s H E hr=>⟨_,_,(zr (zP (zhC zg0 zg0 (zQ zD (pv 0) zh (fun _ _=>rfl)) (zA zcU hr (by decide) (zc (pv 0) (zc (pv 1) zg))) (zQ zD (pv 0) zh (fun _ _=>rfl))))),(zS (zd0 zcy zcy (zq zR zd zi) (zG (za zd (za zd zf))) (zq zR zd zi))),fun xs S R q=>q⟩
theorem zU (T:Txt mg) (dd:Dds K mg) (xx:Exx K mg):zaB P w K mg base:=by
 exact Df.dN dd.d_worth_of_beginning zdQ 0 rfl fun f cdv A outer s H E hr=>⟨_,_,(zr (zP (zw (zdC rfl) (by rfl) T.n_sum zit (zc (zb4 (fun _ _ h=>h) rfl (zar rfl rfl rfl rfl (N:=["part","times","beginning"]) (caps:=[none,none,some 1]) (by show zbz ["gap","beginning"] (zp s_worth_of_beginning).names _ _ _ = true; decide +kernel)) (zdk (zQ zD (pv 0) zh (fun _ _=>rfl))) (fun _ _ _ _=>(zdn (n:=2) rfl (zac (zH (i:=0) (by show List.Nodup (["part","times","beginning"]:List Str); decide) rfl (Or.inl rfl)) (zac (zH (i:=1) (by show List.Nodup (["part","times","beginning"]:List Str); decide) rfl (Or.inl rfl)) zb5)))) (fun _ _ _ _=>(zjD (zaw ziL (pv 0) (zw zai (by rfl) T.n_len zbw (zc (pv 2) zg)) (nomark _)))) (fun _ _ _ _=>(zF zax (pv 1) (zQ zD (pv 2) (pv 0) (fun _ _=>rfl))))) zg)))),(zS (zas zir (za (zbj (zdi (zq zR zd zi)) (zdm (zaa zo (zaa zo zb6))) (zf4 (zq zcy zd (zas zaS (za zd zf)))) (zq za9 zd (zq zR zd zd))) zf))),fun xs S R q=>q⟩
theorem zL (T:Txt mg) (dd:Dds K mg) (xx:Exx K mg):zaR P w K mg base:=by
 exact Df.dN dd.d_kept_behind zgV 0 rfl fun f cdv A outer s H E hr=>⟨_,_,(zr (zP (zw (zdC rfl) (by rfl) T.n_sum zit (zc (zb4 (fun _ _ h=>h) rfl (zar rfl rfl rfl rfl (N:=["more","many","gap","worth"]) (caps:=[none,none,some 1,some 2]) (by show zbz ["tally","gap","worth"] (zp s_kept_behind).names _ _ _ = true; decide +kernel)) (zh8 (pv 0) rfl rfl) (fun _ _ _ _=>(zdn (n:=2) rfl (zac (zH (i:=0) (by show List.Nodup (["more","many","gap","worth"]:List Str); decide) rfl (Or.inl rfl)) (zac (zH (i:=1) (by show List.Nodup (["more","many","gap","worth"]:List Str); decide) rfl (Or.inl rfl)) zb5)))) (fun _ _ _ _=>(zjD (zh1 zg0 zg0 (zQ zD (pv 2) zh (fun _ _=>rfl)) (zF zJ (pv 3) (pv 0)) (zQ zD (pv 2) zh (fun _ _=>rfl))))) (fun _ _ _ _=>(pv 1))) zg)))),(zS (zas zir (za (zbj (zhO zd) (zdm (zaa zo (zaa zo zb6))) (zf4 (zd0 zcy zcy (zq zR zd zi) (zq zY zd zd) (zq zR zd zi))) zd) zf))),fun xs S R q=>q⟩
theorem zao (T:Txt mg) (dd:Dds K mg) (xx:Exx K mg) (zU:zaB P w K mg base) (zL:zaR P w K mg base):zbD P w K mg base:=by
 exact Df.dN dd.d_kept_ahead zbu 4 rfl fun f cdv A outer s H E hr=>⟨_,_,(zj (zC (i:=4) zbu.nd rfl (Or.inr rfl) (zF zbF (zw zai (by rfl) T.n_len zbw (zc (pv 2) zg)) zh)) (zj (zC (i:=5) zbu.nd rfl (Or.inl rfl) (zQ zD (zQ zD (pv 0) (pv 4) (fun _ _=>rfl)) zh (fun _ _=>rfl))) (zj (zC (i:=6) zbu.nd rfl (Or.inr rfl) (zjl (zbE (zbC rfl) (by rfl) T.n_dict zgJ (zc (zQ zD (pv 1) zh (fun _ _=>rfl)) zg)))) (zj (zC (i:=7) zbu.nd rfl (Or.inr rfl) (zA zU hr (by decide) (zc (pv 1) (zc (zd3 zkN (pv 2) zgx (zed (pv 4))) zg)))) (zj (zbS (zaw (zi3 hr.units) (pv 4) (pv 6) (by rfl)) (zr (zP (zF zax (zF zbF (zQ zD (pv 2) (pv 4) (fun _ _=>rfl)) (pv 5)) (zA zL hr (by decide) (zc (pv 3) (zc (pv 1) (zc (pv 7) zg))))))) zaq) (zr (zP (zw (zdC rfl) (by rfl) T.n_sum zit (zc (zb4 (fun _ _ h=>h) rfl (zar rfl rfl rfl rfl (N:=["number","tally","gap","worth","times","part"]) (caps:=[none,some 3,some 1,some 7,some 6,some 4]) (by show zbz ["drawing","gap","beginning","tally","part","low","times","worth"] (zp s_kept_ahead).names _ _ _ = true; decide +kernel)) (zfc rfl T.n_range (zc (pv 5) (zc (zQ zD (pv 2) (pv 4) (fun _ _=>rfl)) zg))) (fun _ _ _ _=>(zH (i:=0) (by show List.Nodup (["number","tally","gap","worth","times","part"]:List Str); decide) rfl (Or.inl rfl))) (fun _ _ _ _=>zbA) (fun _ _ _ _=>(zA zL hr (by decide) (zc (pv 1) (zc (pv 2) (zc (zF zJ (pv 3) (zF zax (zmH (zlq hr) (pv 4) (pv 5) (fun _ _=>rfl)) (pv 0))) zg)))))) zg))))))))),(zt (zx (zq zcN (zas zaS (za zd zf)) zi) zo) (zt (zx (zq zR (zq zR zd zd) zi) zo) (zt (zx (zfH (za (zq zR zd zi) zf)) zo) (zt (zx (zG (za zd (za (zne zku zd zga (zgM zd)) zf))) zo) (zt (zck (zt1 (zwe (zpR zqS (zaO zd) (zaO zd)))) (zS (zq za9 (zq zcN (zq zR zd zd) zd) (zG (za zd (za zd (za zd zf)))))) zat) (zS (zas zir (za (zbj (zh2 (za zd (za (zq zR zd zd) zf))) zo zbB (zG (za zd (za zd (za (zq zY zd (zq za9 (zph (zom (zaO zd) (zaO zd))) zd)) zf))))) zf)))))))),fun xs S R q=>q⟩
theorem zcj (T:Txt mg) (dd:Dds K mg) (xx:Exx K mg) (zaM:zca P w K mg base) (zgf:zh3 P w K mg base) (zeQ:zgF P w K mg base) (zao:zbD P w K mg base):zdu P w K mg base:=by
 exact Df.dN dd.d_number_of zft 1 rfl fun f cdv A outer s H E hr=>⟨_,_,(zj (zC (i:=3) zft.nd rfl (Or.inr rfl) (zA zaM hr (by decide) (zc (pv 0) (zc (pv 1) zg)))) (zj (zbS (PW.pt (zio (zcW (zbe (zA zeQ hr (by decide) (zc (pv 0) (zc (pv 2) zg))) (fun _=>rfl))) (zfO (zcW (zbe (zA zgf hr (by decide) (zc (pv 1) (zc (pv 2) zg))) (fun _=>rfl)))))) (zr zhL) zaq) (zr (zP (zw (zdC rfl) (by rfl) T.n_sum zit (zc (zb4 (fun _ _ h=>h) rfl (zar rfl rfl rfl rfl (N:=["part","drawing","gap","thing","tallies"]) (caps:=[none,some 0,some 1,some 2,some 3]) (by show zbz ["drawing","gap","thing","tallies"] (zp s_number_of).names _ _ _ = true; decide +kernel)) (zaA rfl T.n_range (zc (zw zai (by rfl) T.n_len zbw (zc (pv 0) zg)) zg)) (fun _ _ _ _=>(zH (i:=0) (by show List.Nodup (["part","drawing","gap","thing","tallies"]:List Str); decide) rfl (Or.inl rfl))) (fun _ _ _ _=>zbA) (fun _ _ _ _=>(zA zao hr (by decide) (zc (pv 1) (zc (pv 2) (zc (zd3 zrk (pv 3) zgx (zed (zF zJ (pv 0) zh))) (zc (zQ zD (pv 4) (zF zJ (pv 0) zh) (fun _ _=>rfl)) zg))))))) zg)))))),(zt (zx (zG (za zd (za zd zf))) zo) (zt (zck (zjk (zcT (zdl (zG (za zd (za zd zf))))) (zcT (zdl (zG (za zd (za zd zf)))))) zhJ zat) (zS (zas zir (za (zbj (zbg (za (zas zaS (za zd zf)) zf)) zo zbB (zG (za zd (za zd (za (zne zrC zd zga (zgM (zq zY zd zi))) (za (zq zR zd (zq zY zd zi)) zf)))))) zf))))),fun xs S R q=>q⟩
theorem za8 (T:Txt mg) (dd:Dds K mg) (xx:Exx K mg) (zaC:zcc P w K mg base) (zU:zaB P w K mg base) (zL:zaR P w K mg base):zcH P w K mg base:=by
 exact Df.dN dd.d_number_at zaL 6 rfl fun f cdv A outer s H E hr=>⟨_,_,(zj (zC (i:=5) zaL.nd rfl (Or.inl rfl) (zw zai (by rfl) T.n_len zbw (zc (pv 2) zg))) (zj (zC (i:=6) zaL.nd rfl (Or.inl rfl) (zA zaC hr (by decide) (zc (zQ zD (pv 0) (pv 5) (fun _ _=>rfl)) zg))) (zj (zC (i:=7) zaL.nd rfl (Or.inl rfl) (zjl (zbE (zbC rfl) (by rfl) T.n_dict zgJ (zc (zQ zD (pv 1) zh (fun _ _=>rfl)) zg)))) (zj (zC (i:=8) zaL.nd rfl (Or.inl rfl) (zA zU hr (by decide) (zc (pv 1) (zc (pv 2) zg)))) (zj (zbS (zaw (zi3 hr.units) (pv 5) (pv 7) (by rfl)) (zr (zP (zF zJ (zQ zD (pv 6) zh (fun _ _=>rfl)) (zF zgt (pv 4) (zA zL hr (by decide) (zc (pv 3) (zc (pv 1) (zc (pv 8) zg)))))))) zaq) (zr (zb0 PassesOwn.never rfl (zfc rfl T.n_range (zc (zQ zD (pv 6) zh (fun _ _=>rfl)) (zc (zF zJ (zQ zD (pv 6) zh (fun _ _=>rfl)) zh) zg))) (zH (i:=9) zaL.nd rfl (Or.inl rfl)) (zj (zC (i:=10) zaL.nd rfl (Or.inl rfl) (zA zL hr (by decide) (zc (pv 3) (zc (pv 1) (zc (zF zJ (pv 8) (zF zax (zmH (zlq hr) (pv 7) (pv 5) (fun _ _=>rfl)) (pv 9))) zg))))) (zj (zbS (zaw ziL (pv 4) (pv 10) (nomark _)) (zr (zP (pv 9))) zaq) (zr (zC (i:=4) zaL.nd rfl (Or.inl rfl) (zF zbF (pv 4) (pv 10))))))))))))),(zt (zx (zas zaS (za zd zf)) zo) (zt (zx (zG (za (zq zR zd zd) zf)) zo) (zt (zx (zfH (za (zq zR zd zi) zf)) zo) (zt (zx (zG (za zd (za zd zf))) zo) (zt (zck (zt1 (zwe (zpR zqS (zaO zd) (zaO zd)))) (zS (zq zY (zq zR zd zi) (zq zjX zd (zG (za zd (za zd (za zd zf))))))) zat) (zcz (zh2 (za (zq zR zd zi) (za (zq zY (zq zR zd zi) zi) zf))) zo (zt (zx (zG (za zd (za zd (za (zq zY zd (zq za9 (zph (zom (zaO zd) (zaO zd))) zd)) zf)))) zo) (zt (zck (zf4 (zq zcy zd zd)) (zS zd) zat) (zx (zq zcN zd zd) zo))))))))),fun xs S R q=>q⟩
theorem zmX (T:Txt mg) (dd:Dds K mg) (xx:Exx K mg) (zL:zaR P w K mg base) (zaI:zcl P w K mg base) (za8:zcH P w K mg base) (zao:zbD P w K mg base) (zbY:zdh P w K mg base):znx P w K mg base:=by
 exact DfX.dN dd.d_nth zb8 5 rfl fun f cdv A outer s H E EX hr=>⟨_,_,(zj (zC (i:=3) zb8.nd rfl (Or.inl rfl) (ztj zbY pass1 hr (by decide) (zc (PE.nox (pv 0)) (zc (PE.nox (pv 1)) zg)))) (zj (zbS (PT.nox (PW.pt (zio (zcW (zbe (zA zaI hr (by decide) (zc (pv 2) zg)) (fun _=>rfl))) (zfO (zcW (zh1 zg0 ziL zh (pv 2) (zA zL hr (by decide) (zc (zQ zD (pv 3) zh (fun _ _=>rfl)) (zc (pv 1) (zc zh zg)))))))))) (zr (zl7 rfl raises1 rfl xx.m_NoSet xx.c_NoSet)) zaq) (PSs.nox (zj (zC (i:=4) zb8.nd rfl (Or.inl rfl) (zaY zg)) (zj (zC (i:=5) zb8.nd rfl (Or.inl rfl) (pv 2)) (zj (zb0 PassesOwn.never rfl (zaA rfl T.n_range (zc (zw zai (by rfl) T.n_len zbw (zc (pv 0) zg)) zg)) (zH (i:=6) zb8.nd rfl (Or.inl rfl)) (zj (zC (i:=7) zb8.nd rfl (Or.inl rfl) (zA za8 hr (by decide) (zc (pv 0) (zc (pv 1) (zc (pv 4) (zc (zQ zD (pv 3) (zF zJ (pv 6) zh) (fun _ _=>rfl)) (zc (pv 5) zg))))))) (zj (zC (i:=4) zb8.nd rfl (Or.inl rfl) (zF zJ (pv 4) (zaY (zc (pv 7) zg)))) (zr (zC (i:=5) zb8.nd rfl (Or.inl rfl) (zF zbF (pv 5) (zA zao hr (by decide) (zc (pv 0) (zc (pv 1) (zc (pv 4) (zc (zQ zD (pv 3) (zF zJ (pv 6) zh) (fun _ _=>rfl)) zg))))))))))) (zr (zP (pv 4))))))))),(zk9 (zuY (zoS (zrK (za zd (za zd zf)))) zo) (zk9 (zp4 (zoh (zjk (zcT (zdl (zG (za zd zf)))) (zcT (zf4 (zd0 zcy zcy zi zd (zG (za (zq zR zd zi) (za zd (za zi zf))))))))) zm1 (ze8 zat)) (ze8 (zt (zx (za6 zf) zo) (zt (zx zd zo) (zt (zcz (zbg (za (zas zaS (za zd zf)) zf)) zo (zt (zx (zG (za zd (za zd (za zd (za (zq zR zd (zq zY zd zi)) (za zd zf)))))) zo) (zt (zx (zq zY zd (za6 (za zd zf))) zo) (zx (zq zcN zd (zG (za zd (za zd (za zd (za (zq zR zd (zq zY zd zi)) zf)))))) zo)))) (zS zd))))))),fun xs S R q=>q⟩
theorem znv (T:Txt mg) (dd:Dds K mg) (xx:Exx K mg) (zaM:zca P w K mg base) (zL:zaR P w K mg base) (zaI:zcl P w K mg base) (za8:zcH P w K mg base) (zao:zbD P w K mg base):zmh P w K mg base:=by
 exact Df.dN dd.d_nth zb8 5 rfl fun f cdv A outer s H E hr=>⟨_,_,(zj (zC (i:=3) zb8.nd rfl (Or.inl rfl) (zA zaM hr (by decide) (zc (pv 0) (zc (pv 1) zg)))) (zj (zbS (PW.pt (zio (zcW (zbe (zA zaI hr (by decide) (zc (pv 2) zg)) (fun _=>rfl))) (zfO (zcW (zh1 zg0 ziL zh (pv 2) (zA zL hr (by decide) (zc (zQ zD (pv 3) zh (fun _ _=>rfl)) (zc (pv 1) (zc zh zg))))))))) (zr zhL) zaq) (zj (zC (i:=4) zb8.nd rfl (Or.inl rfl) (zaY zg)) (zj (zC (i:=5) zb8.nd rfl (Or.inl rfl) (pv 2)) (zj (zb0 PassesOwn.never rfl (zaA rfl T.n_range (zc (zw zai (by rfl) T.n_len zbw (zc (pv 0) zg)) zg)) (zH (i:=6) zb8.nd rfl (Or.inl rfl)) (zj (zC (i:=7) zb8.nd rfl (Or.inl rfl) (zA za8 hr (by decide) (zc (pv 0) (zc (pv 1) (zc (pv 4) (zc (zQ zD (pv 3) (zF zJ (pv 6) zh) (fun _ _=>rfl)) (zc (pv 5) zg))))))) (zj (zC (i:=4) zb8.nd rfl (Or.inl rfl) (zF zJ (pv 4) (zaY (zc (pv 7) zg)))) (zr (zC (i:=5) zb8.nd rfl (Or.inl rfl) (zF zbF (pv 5) (zA zao hr (by decide) (zc (pv 0) (zc (pv 1) (zc (pv 4) (zc (zQ zD (pv 3) (zF zJ (pv 6) zh) (fun _ _=>rfl)) zg))))))))))) (zr (zP (pv 4)))))))),(zt (zx (zG (za zd (za zd zf))) zo) (zt (zck (zjk (zcT (zdl (zG (za zd zf)))) (zcT (zf4 (zd0 zcy zcy zi zd (zG (za (zq zR zd zi) (za zd (za zi zf)))))))) zhJ zat) (zt (zx (za6 zf) zo) (zt (zx zd zo) (zt (zcz (zbg (za (zas zaS (za zd zf)) zf)) zo (zt (zx (zG (za zd (za zd (za zd (za (zq zR zd (zq zY zd zi)) (za zd zf)))))) zo) (zt (zx (zq zY zd (za6 (za zd zf))) zo) (zx (zq zcN zd (zG (za zd (za zd (za zd (za (zq zR zd (zq zY zd zi)) zf)))))) zo)))) (zS zd)))))),fun xs S R q=>q⟩
theorem zcM (T:Txt mg) (dd:Dds K mg) (xx:Exx K mg):zes P w K mg base:=by
 exact DfN.dN dd.d_law_kind zcn 2 rfl fun f cdv A outer s H hr=>⟨_,_,(zj (zC (i:=1) zcn.nd rfl (Or.inl rfl) (zdU (zE (zw zbp (by rfl) T.n_isinstance zK (zc (pv 0) (zc (zcr (v:=.ref 37) rfl xx.m_NoSpan rfl) zg))) (zE (zw zbp (by rfl) T.n_isinstance zK (zc (pv 0) (zc (zcr (v:=.ref 49) rfl xx.m_NoPart rfl) zg))) (zE (zw zbp (by rfl) T.n_isinstance zK (zc (pv 0) (zc (zcr (v:=.ref 61) rfl xx.m_NoSet rfl) zg))) (zE (zw zbp (by rfl) T.n_isinstance zK (zc (pv 0) (zc (zcr (v:=.ref 161) rfl xx.m_NoText rfl) zg))) zfr)))))) (zj (zC (i:=1) zcn.nd rfl (Or.inl rfl) (zF zJ (pv 1) (zdU (zE (zw zbp (by rfl) T.n_isinstance zK (zc (pv 0) (zc (zcr (v:=.ref 73) rfl xx.m_NoRow rfl) zg))) (zE (zw zbp (by rfl) T.n_isinstance zK (zc (pv 0) (zc (zcr (v:=.ref 85) rfl xx.m_Unlike rfl) zg))) (zE (zw zbp (by rfl) T.n_isinstance zK (zc (pv 0) (zc (zcr (v:=.ref 104) rfl xx.m_NoDrawing rfl) zg))) (zE (zw zbp (by rfl) T.n_isinstance zK (zc (pv 0) (zc (zcr (v:=.ref 123) rfl xx.m_NoGap rfl) zg))) zfr))))))) (zj (zC (i:=1) zcn.nd rfl (Or.inl rfl) (zF zJ (pv 1) (zaG (zc (zw zbp (by rfl) T.n_isinstance zK (zc (pv 0) (zc (zcr (v:=.ref 142) rfl xx.m_NoOffer rfl) zg))) (zc (zw zbp (by rfl) T.n_isinstance zK (zc (pv 0) (zc (zcr (v:=.ref 180) rfl xx.m_TooGreat rfl) zg))) zg))))) (zj (zbS (PW.pt (zio (zcW (zbe (zw zbp (by rfl) T.n_isinstance zK (zc (pv 0) (zc (zee rfl T.n_ValueError zhZ (v:=.ty "ValueError") rfl) zg))) (fun _=>rfl))) (zfO (zaw (zkk hr.units) (ziu PySem.F.plainAttrs_list PySem.F.slot_list_count PySem.F.type_list_count znz (pv 1) (zc zgs zg)) zh (nomark _))))) (zr (zP zaV)) zaq) (zj (zC (i:=2) zcn.nd rfl (Or.inl rfl) (zdU (zE zaV (zE zaV (zE zaV (zE zaV (zE zaV (zE zaV (zE zaV (zE zaV (zE zaV (zE zaV zfr)))))))))))) (zr (zP (zQ zD (pv 2) (ziu PySem.F.plainAttrs_list PySem.F.slot_list_index PySem.F.type_list_index (zmU hr.units) (pv 1) (zc zgs zg)) (fun _ _=>rfl))))))))),(zt (zx (zaP (za (zas (zdH xx.ex) (za zd (za ziP zf))) (za (zas (zdH xx.ex) (za zd (za ziP zf))) (za (zas (zdH xx.ex) (za zd (za ziP zf))) (za (zas (zdH xx.ex) (za zd (za ziP zf))) zf))))) zo) (zt (zx (zq zY zd (zaP (za (zas (zdH xx.ex) (za zd (za ziP zf))) (za (zas (zdH xx.ex) (za zd (za ziP zf))) (za (zas (zdH xx.ex) (za zd (za ziP zf))) (za (zas (zdH xx.ex) (za zd (za ziP zf))) zf)))))) zo) (zt (zx (zq zY zd (zaP (za (zas (zdH xx.ex) (za zd (za ziP zf))) (za (zas (zdH xx.ex) (za zd (za ziP zf))) zf)))) zo) (zt (zck (zjk (zcT (zdl (zas (zdH xx.ex) (za zd (za ziP zf))))) (zf4 (zq zk3 (zqf zlR zd (za zgQ zf)) zi))) (zS zaU) zat) (zt (zx (zaP (za zaU (za zaU (za zaU (za zaU (za zaU (za zaU (za zaU (za zaU (za zaU (za zaU zf))))))))))) zo) (zS (zq zR zd (zqf zns zd (za zgQ zf))))))))),fun xs S R q=>q⟩
theorem zbv (T:Txt mg) (dd:Dds K mg) (xx:Exx K mg) (zcM:zes P w K mg base) (zmX:znx P w K mg base):zcI P w K mg base:=by
 exact Df.dN dd.d_law_refused zd7 1 rfl fun f cdv A outer s H E hr=>⟨_,_,(zj (zub (i:=3) (fun _ _ z=>z) rfl rfl zd7.nd rfl rfl rfl xx.m_GaugeError xx.c_GaugeError (zrZ (zva zmX hr (by decide) (fun _ _ z=>z) (zc (pv 0) (zc (pv 1) (zc (pv 2) zg))))) (fun _=>(zr (zP (zjE (zeV hr.units) (zru zcM (hr.suite _) (by decide) (zc (pv 3) zg)) zaV (nomark _)))))) (zr (zP zgs))),(zt (zte xx.ex rfl zsn (fun _ _ _ _=>rfl) (za zd (za zd (za zd zf))) (zS (zq zex (zoA rfl (za zd zf)) zaU))) (zS zgQ)),fun xs S R q=>q⟩
theorem za4 (T:Txt mg) (dd:Dds K mg) (xx:Exx K mg):zcC P w K mg base:=by
 exact Df.dN dd.d_law_whole ziN 0 rfl fun f cdv A outer s H E hr=>⟨_,_,(zr (zP (zk1 (zw zdZ (by rfl) T.n_isinstance zK (zc (pv 0) (zc (zee rfl T.n_int zmQ (v:=.ty "int") rfl) zg))) (zkU (zp8 (zw zdZ (by rfl) T.n_isinstance zK (zc (pv 0) (zc (zee rfl T.n_bool zm4 (v:=.ty "bool") rfl) zg)))))))),(zS (zkG (zas zhv (za zd (za ziP zf))) (zqv (zas zhv (za zd (za ziP zf)))))),fun xs S R q=>q⟩
theorem zci (T:Txt mg) (dd:Dds K mg) (xx:Exx K mg) (za4:zcC P w K mg base):zdK P w K mg base:=by
 exact Df.dN dd.d_law_tuple ziA 0 rfl fun f cdv A outer s H E hr=>⟨_,_,(zj (zbS (PW.pt (zio (zcW (zbe (zw zdZ (by rfl) T.n_isinstance zK (zc (pv 0) (zc (zee rfl T.n_tuple zeC (v:=.ty "tuple") rfl) zg))) (fun _=>rfl))) (zfO (zaw (zkk hr.units) (zw zai (by rfl) T.n_len zbw (zc (pv 0) zg)) (zw zai (by rfl) T.n_len zbw (zc (pv 1) zg)) (nomark _))))) (zr (zP zgs)) zaq) (zr (zP (zk1 (zw (zfY rfl) (by rfl) T.n_all znD (zc (zb4 (fun _ _ h=>h) rfl (zar (L:=0) rfl rfl rfl rfl (N:=["number"]) (caps:=[none]) (by show zbz ["found","due"] (zp s_law_tuple).names _ _ _ = true; decide +kernel)) (zdk (pv 0)) (fun _ _ _ _=>(zH (i:=0) (by show List.Nodup (["number"]:List Str); decide) rfl (Or.inl rfl))) (fun _ _ _ _=>zbA) (fun _ _ _ _=>(zA za4 hr (by decide) (zc (pv 0) zg)))) zg)) (zkU (zjE (zeV hr.units) (pv 0) (zbE zc1 (by rfl) T.n_tuple zeC (zc (pv 1) zg)) (nomark _))))))),(zt (zck (zjk (zcT (zdl (zas zhv (za zd (za ziP zf))))) (zf4 (zq zk3 (zas zaS (za zd zf)) (zas zaS (za zd zf))))) (zS zgQ) zat) (zS (zkG (zas znZ (za (zbj (zdi zd) zo zbB (zG (za zd zf))) zf)) (zq zex zd (zas zhw (za zd zf)))))),fun xs S R q=>q⟩
theorem zc3 (T:Txt mg) (dd:Dds K mg) (xx:Exx K mg) (zdF:ze9 P w K mg base) (zcf:zdS P w K mg base) (zcj:zdu P w K mg base) (za4:zcC P w K mg base) (zci:zdK P w K mg base) (znv:zmh P w K mg base) (zbv:zcI P w K mg base):zfw P w K mg base:=by
 exact Df.dN dd.d_law_right zbm 5 rfl fun f cdv A outer s H E hr=>⟨_,_,(zj (zgC (i:=3) (fun _ _ h=>h) rfl (zar rfl rfl rfl rfl (N:=["one","gap"]) (caps:=[none,some 1]) (by show zbz ["drawing","gap","some","sets","many","number","told","odd"] (zp s_law_right).names _ _ _ = true; decide +kernel)) zbm.nd rfl rfl (zdk (zA zdF hr (by decide) (zc (pv 0) zg))) (fun _ _ _ _=>(zH (i:=0) (by show List.Nodup (["one","gap"]:List Str); decide) rfl (Or.inl rfl))) (fun _ _ _ _=>(zjD (zbe (zA zcf hr (by decide) (zc (pv 1) (zc (pv 0) zg))) (fun _=>rfl)))) (fun _ _ _ _=>(pv 0))) (zj (zC (i:=4) zbm.nd rfl (Or.inr rfl) (zw zai (by rfl) T.n_len zbw (zc (pv 3) zg))) (zj (zb0 PassesOwn.never rfl (zdk (zF zJ (zaG (zc zh (zc (zF zbF (pv 4) zh) (zc (zF zgt (pv 4) zh) zg)))) (zb4 (fun _ _ h=>h) rfl (zar rfl rfl rfl rfl (N:=["k","many"]) (caps:=[none,some 4]) (by show zbz ["drawing","gap","some","sets","many","number","told","odd"] (zp s_law_right).names _ _ _ = true; decide +kernel)) (zdk (pv 2)) (fun _ _ _ _=>(zH (i:=0) (by show List.Nodup (["k","many"]:List Str); decide) rfl (Or.inl rfl))) (fun _ _ _ _=>zbA) (fun _ _ _ _=>(zF zez (pv 0) (zw (zjb rfl) (by rfl) T.n_max zj6 (zc zh (zc (pv 1) zg)))))))) (zH (i:=5) zbm.nd rfl (Or.inl rfl)) (zr (zbS (zaw zpo (pv 4) zh (nomark _)) (zj (zC (i:=6) zbm.nd rfl (Or.inl rfl) (zA zcj hr (by decide) (zc (pv 0) (zc (pv 1) (zc (zQ zD (pv 3) (pv 5) (fun _ _=>rfl)) zg))))) (zr (zbS (PW.pt (zio (zcW (zbe (zA zci hr (by decide) (zc (zA znv hr (by decide) (zc (pv 0) (zc (pv 1) (zc (pv 5) zg)))) (zc (zQ zD (pv 3) (pv 5) (fun _ _=>rfl)) zg))) (fun _=>rfl))) (zio (zcW (zbe (zA za4 hr (by decide) (zc (pv 6) zg)) (fun _=>rfl))) (zfO (zaw (zkk hr.units) (pv 6) (pv 5) (nomark _)))))) (zr (zP zgs)) zaq))) zaq))) (zj (zC (i:=7) zbm.nd rfl (Or.inl rfl) (zdU (zE (pv 4) (zE (zdf zby zh) (zE (zF zJ (zF zJ (pv 4) zh) (zF zhm (zQ zD (pv 2) zh (fun _ _=>rfl)) zh)) (zE (zF zbF (zdf zby zh) (zQ zD (pv 2) zh (fun _ _=>rfl))) (zE zgs (zE zgs (zE zuD (zE zaV (zE (zaY (zc zh zg)) (zE (zaG (zc zh zg)) (zE (zjl zkP) zfr))))))))))))) (zr (zP (zw (zfY rfl) (by rfl) T.n_all znD (zc (zb4 (fun _ _ h=>h) rfl (zar rfl rfl rfl rfl (N:=["thing","drawing","gap"]) (caps:=[none,some 0,some 1]) (by show zbz ["drawing","gap","some","sets","many","number","told","odd"] (zp s_law_right).names _ _ _ = true; decide +kernel)) (zdk (pv 7)) (fun _ _ _ _=>(zH (i:=0) (by show List.Nodup (["thing","drawing","gap"]:List Str); decide) rfl (Or.inl rfl))) (fun _ _ _ _=>zbA) (fun _ _ _ _=>(zA zbv hr (by decide) (zc (pv 1) (zc (pv 2) (zc (pv 0) zg)))))) zg)))))))),(zt (zx (zbj (zdi (zG (za zd zf))) zo (zdl (zG (za zd (za zd zf)))) zd) zo) (zt (zx (zas zaS (za zd zf)) zo) (zt (zcz (zdi (zq zY (zaP (za zi (za (zq zcN zd zi) (za (zq zjX zd zi) zf)))) (zbj (zdi zd) zo zbB (zq zie zd (zas ztK (za zi (za zd zf))))))) zo (zck (zf4 (zq zcy zd zi)) (zt (zx (zG (za zd (za zd (za (zq zR zd zd) zf)))) zo) (zck (zjk (zcT (zdl (zG (za (zG (za zd (za zd (za zd zf)))) (za (zq zR zd zd) zf))))) (zjk (zcT (zdl (zG (za zd zf)))) (zf4 (zq zk3 zd zd)))) (zS zgQ) zat)) zat)) (zt (zx (zaP (za zd (za (zdb zhT zi) (za (zq zY (zq zY zd zi) (zq zie (zq zR zd zi) zi)) (za (zq zcN (zdb zhT zi) (zq zR zd zi)) (za zgQ (za zgQ (za ztG (za zaU (za (za6 (za zi zf)) (za (zaP (za zi zf)) (za zrS zf)))))))))))) zo) (zS (zas znZ (za (zbj (zdi zd) zo zbB (zG (za zd (za zd (za zd zf))))) zf))))))),fun xs S R q=>q⟩
theorem zfW (T:Txt mg) (dd:Dds K mg) (xx:Exx K mg):zhk P w K mg base:=by
 exact Df.dN dd.d_law_pen zhd 1 rfl fun f cdv A outer s H E hr=>⟨_,_,(zj (zC (i:=1) zhd.nd rfl (Or.inl rfl) (zw (zjb rfl) (by rfl) T.n_max zj6 (zc (pv 0) (zc (zF zbF zh (pv 0)) zg)))) (zr (zP (zaG (zc (pv 1) (zc (zbE zmz (by rfl) T.n_int zmQ (zc (zjE zve (pv 1) (zF zhm zh zh) (nomark _)) zg)) (zc (zF zez (pv 1) zh) zg))))))),(zt (zx (zas ztK (za zd (za (zq zcN zi zd) zf))) zo) (zS (zdL (za zd (za (zas zsm (za (zq zcy zd (zq zie zi zi)) zf)) (za (zq zie zd zi) zf)))))),fun xs S R q=>q⟩
theorem zce (T:Txt mg) (dd:Dds K mg) (xx:Exx K mg):zeh P w K mg base:=by
 exact Df.dN dd.d_law_next zgD 0 rfl fun f cdv A outer s H E hr=>⟨_,_,(zj (zC (i:=0) zgD.nd rfl (Or.inl rfl) (zF zez (zF zJ (pv 0) zh) zh)) (zr (zP (zF zez (zF zJ (zF zJ (zF zax (pv 0) (pv 0)) (zF zax zh (pv 0))) zh) zh)))),(zt (zx (zq zie (zq zY zd zi) zi) zo) (zS (zq zie (zq zY (zq zY (zq za9 zd zd) (zq za9 zi zd)) zi) zi))),fun xs S R q=>q⟩
theorem zB (T:Txt mg) (dd:Dds K mg) (xx:Exx K mg) (zce:zeh P w K mg base):zbk P w K mg base:=by
 exact Df.dN dd.d_law_draw zfZ 1 rfl fun f cdv A outer s H E hr=>⟨_,_,(zj (zbS (zaw (zeV hr.units) (zQ zD (pv 0) zh (fun _ _=>rfl)) zh (nomark _)) (zj (zC (i:=2) zfZ.nd rfl (Or.inl rfl) (zF zez (zQ zD (pv 0) zh (fun _ _=>rfl)) (pv 1))) (zj (zkE (zF zgt (zQ zD (pv 0) zh (fun _ _=>rfl)) (pv 1)) (zpL (pv 0) zh zkc)) (zr (zP (pv 2))))) zaq) (zj (zkE (zA zce hr (by decide) (zc (zF zJ (zA zce hr (by decide) (zc (zQ zD (pv 0) zh (fun _ _=>rfl)) zg)) zh) zg)) (zpL (pv 0) zh zkc)) (zr (zP (zF zez (zF zgt (zQ zD (pv 0) zh (fun _ _=>rfl)) zh) (pv 1)))))),(zt (zck (zf4 (zq zex (zq zR zd zi) zi)) (zt (zx (zq zie (zq zR zd zi) zd) zo) (zt (zx (zq zjX (zq zR zd zi) zd) (zqU zd zi)) (zS zd))) zat) (zt (zx (zG (za (zq zY (zG (za (zq zR zd zi) zf)) zi) zf)) (zqU zd zi)) (zS (zq zie (zq zjX (zq zR zd zi) zi) zd)))),fun xs S R q=>q⟩
theorem zcu (T:Txt mg) (dd:Dds K mg) (xx:Exx K mg) (zB:zbk P w K mg base):zdT P w K mg base:=by
 exact Df.dN dd.d_law_names zav 6 rfl fun f cdv A outer s H E hr=>⟨_,_,(zj (zC (i:=1) zav.nd rfl (Or.inr rfl) zaV) (zj (zC (i:=2) zav.nd rfl (Or.inl rfl) (zA zB hr (by decide) (zc (pv 0) (zc zh zg)))) (zj (zC (i:=3) zav.nd rfl (Or.inr rfl) (zA zB hr (by decide) (zc (pv 0) (zc zh zg)))) (zj (zgC (i:=4) (fun _ _ h=>h) rfl (zar rfl rfl rfl rfl (N:=["k","letters","first"]) (caps:=[none,some 1,some 3]) (by show zbz ["pen","letters","way","first","names","word","at"] (zp s_law_names).names _ _ _ = true; decide +kernel)) zav.nd rfl rfl (zaA rfl T.n_range (zc zh zg)) (fun _ _ _ _=>(zH (i:=0) (by show List.Nodup (["k","letters","first"]:List Str); decide) rfl (Or.inl rfl))) (fun _ _ _ _=>zbA) (fun _ _ _ _=>(zF zax (zQ zD (pv 1) (zF zez (zF zJ (pv 2) (zF zax zh (pv 0))) zh) (fun _ _=>rfl)) (zF zJ zh (zF zez (zF zJ (pv 2) (zF zax zh (pv 0))) zh))))) (zj (zbS (zaw (zeV hr.units) (pv 2) zh (nomark _)) (zj (zC (i:=5) zav.nd rfl (Or.inr rfl) (ziu PySem.F.plainAttrs_str PySem.F.slot_str_join PySem.F.type_str_join zrY zaV (zc (zb4 (fun _ _ h=>h) rfl (zar rfl rfl rfl rfl (N:=["k","letters","first"]) (caps:=[none,some 1,some 3]) (by show zbz ["pen","letters","way","first","names","word","at"] (zp s_law_names).names _ _ _ = true; decide +kernel)) (zaA rfl T.n_range (zc zh zg)) (fun _ _ _ _=>(zH (i:=0) (by show List.Nodup (["k","letters","first"]:List Str); decide) rfl (Or.inl rfl))) (fun _ _ _ _=>zbA) (fun _ _ _ _=>(zQ zD (pv 1) (zF zez (zF zJ (pv 2) (zF zax zh (pv 0))) zh) (fun _ _=>rfl)))) zg))) (zr (zgC (i:=4) (fun _ _ h=>h) rfl (zar rfl rfl rfl rfl (N:=["k","word"]) (caps:=[none,some 5]) (by show zbz ["pen","letters","way","first","names","word","at"] (zp s_law_names).names _ _ _ = true; decide +kernel)) zav.nd rfl rfl (zaA rfl T.n_range (zc zh zg)) (fun _ _ _ _=>(zH (i:=0) (by show List.Nodup (["k","word"]:List Str); decide) rfl (Or.inl rfl))) (fun _ _ _ _=>zbA) (fun _ _ _ _=>(zd3 zkN (pv 1) zgx (zed (zF zJ (pv 0) zh))))))) zaq) (zj (zbS (zaw (zeV hr.units) (pv 2) zh (nomark _)) (zr (zC (i:=4) zav.nd rfl (Or.inl rfl) (zaG (zc zaV (zc zaV (zc zaV (zc zaV (zc zaV (zc zaV (zc zaV (zc zaV zg))))))))))) zaq) (zj (zC (i:=6) zav.nd rfl (Or.inl rfl) (zA zB hr (by decide) (zc (pv 0) (zc zh zg)))) (zj (zC (i:=4) zav.nd rfl (Or.inl rfl) (zF zop (zd3 zkN (pv 4) (zed (pv 6)) zgx) (zd3 zkN (pv 4) zgx (zed (pv 6))))) (zj (zbS (zaw (zeV hr.units) (zA zB hr (by decide) (zc (pv 0) (zc zh zg))) zh (nomark _)) (zr (zdN (znR PySem.F.plainAttrs_list PySem.F.slot_list_reverse PySem.F.type_list_reverse zfi (pv 4)))) zaq) (zr (zP (pv 4)))))))))))),(zt (zx zaU zo) (zt (zx (zab (i:=0) (za zd (za zi zf))) zo) (zt (zx (zab (i:=0) (za zd (za zi zf))) zo) (zt (zx (zkF (zbg (za zi zf)) zo zbB (zq za9 (zq zR zd (zq zie (zq zY zd (zq za9 zi zd)) zi)) (zq zY zi (zq zie (zq zY zd (zq za9 zi zd)) zi)))) zo) (zt (zck (zf4 (zq zex zd zi)) (zt (zx (zuZ zpf zaU (za (zbj (zbg (za zi zf)) zo zbB (zq zR zd (zq zie (zq zY zd (zq za9 zi zd)) zi))) zf)) zo) (zx (zkF (zbg (za zi zf)) zo zbB (zne zku zd zga (zgM (zq zY zd zi)))) zo)) zat) (zt (zck (zf4 (zq zex zd zi)) (zx (zdL (za zaU (za zaU (za zaU (za zaU (za zaU (za zaU (za zaU (za zaU zf))))))))) zo) zat) (zt (zx (zab (i:=0) (za zd (za zi zf))) zo) (zt (zx (zq zrz (zne zku zd (zgM zd) zga) (zne zku zd zga (zgM zd))) zo) (zt (zck (zf4 (zq zex (zab (i:=0) (za zd (za zi zf))) zi)) (zdI (znt ze2 zd)) zat) (zS zd)))))))))),fun xs S R q=>q⟩
theorem zbZ (T:Txt mg) (dd:Dds K mg) (xx:Exx K mg) (zB:zbk P w K mg base):zdc P w K mg base:=by
 exact Df.dN dd.d_law_number zeE 1 rfl fun f cdv A outer s H E hr=>⟨_,_,(zj (zC (i:=1) zeE.nd rfl (Or.inl rfl) (zA zB hr (by decide) (zc (pv 0) (zc zh zg)))) (zj (zbS (zaw ziL (pv 1) zh (nomark _)) (zr (zP (zF zbF (zA zB hr (by decide) (zc (pv 0) (zc zh zg))) zh))) zaq) (zj (zbS (zaw ziL (pv 1) zh (nomark _)) (zr (zP (zF zbF (zA zB hr (by decide) (zc (pv 0) (zc zh zg))) zh))) zaq) (zr (zP (zF zax (zF zbF (zA zB hr (by decide) (zc (pv 0) (zc (zF zax zh (zF zhm zh zh)) zg))) (zF zhm zh zh)) (zF zhm zh zh))))))),(zt (zx (zab (i:=0) (za zd (za zi zf))) zo) (zt (zck (zf4 (zq zcy zd zi)) (zS (zq zcN (zab (i:=0) (za zd (za zi zf))) zi)) zat) (zt (zck (zf4 (zq zcy zd zi)) (zS (zq zcN (zab (i:=0) (za zd (za zi zf))) zi)) zat) (zS (zq za9 (zq zcN (zab (i:=0) (za zd (za (zq za9 zi (zq zie zi zi)) zf))) (zq zie zi zi)) (zq zie zi zi)))))),fun xs S R q=>q⟩
theorem zgo (T:Txt mg) (dd:Dds K mg) (xx:Exx K mg) (zcu:zdT P w K mg base) (zB:zbk P w K mg base) (zbZ:zdc P w K mg base):zhh P w K mg base:=by
 exact Df.dN dd.d_law_few zbL 5 rfl fun f cdv A outer s H E hr=>⟨_,_,(zj (zC (i:=2) zbL.nd rfl (Or.inl rfl) (zA zcu hr (by decide) (zc (pv 0) zg))) (zj (zgC (i:=3) (fun _ _ h=>h) rfl (zar rfl rfl rfl rfl (N:=["k","pen"]) (caps:=[none,some 0]) (by show zbz ["pen","most","names","wides","drawing","k","low"] (zp s_law_few).names _ _ _ = true; decide +kernel)) zbL.nd rfl rfl (zaA rfl T.n_range (zc (zF zJ zh (zA zB hr (by decide) (zc (pv 0) (zc (pv 1) zg)))) zg)) (fun _ _ _ _=>(zH (i:=0) (by show List.Nodup (["k","pen"]:List Str); decide) rfl (Or.inl rfl))) (fun _ _ _ _=>zbA) (fun _ _ _ _=>(zF zJ zh (zA zB hr (by decide) (zc (pv 1) (zc zh zg)))))) (zj (zbS (zaw (zeV hr.units) (zA zB hr (by decide) (zc (pv 0) (zc zh zg))) zh (nomark _)) (zr (zC (i:=3) zbL.nd rfl (Or.inl rfl) (zQ zD (zaG (zc (zF zax (zaG (zc zh zg)) zh) (zc (zaG (zc zh (zc zh zg))) (zc (zaG (zc zh zg)) (zc (zF zax (zaG (zc zh zg)) zh) zg))))) (zA zB hr (by decide) (zc (pv 0) (zc zh zg))) (fun _ _=>rfl)))) zaq) (zj (zC (i:=4) zbL.nd rfl (Or.inl rfl) (zaG zg)) (zj (zb0 PassesOwn.never rfl (zaA rfl T.n_range (zc (zw zai (by rfl) T.n_len zbw (zc (pv 3) zg)) zg)) (zH (i:=5) zbL.nd rfl (Or.inl rfl)) (zj (zC (i:=6) zbL.nd rfl (Or.inl rfl) (zA zbZ hr (by decide) (zc (pv 0) zg))) (zr (zdN (ziu PySem.F.plainAttrs_list PySem.F.slot_list_append PySem.F.type_list_append zdJ (pv 4) (zc (zaY (zc (zQ zD (pv 2) (pv 5) (fun _ _=>rfl)) (zc (pv 6) (zc (zF zbF (zF zJ (pv 6) (zQ zD (pv 3) (pv 5) (fun _ _=>rfl))) zh) zg)))) zg)))))) (zr (zP (zbE zc1 (by rfl) T.n_tuple zeC (zc (pv 4) zg))))))))),(zt (zx (zab (i:=0) (za zd zf)) zo) (zt (zx (zbj (zbg (za (zq zY zi (zab (i:=0) (za zd (za zd zf)))) zf)) zo zbB (zq zY zi (zab (i:=0) (za zd (za zi zf))))) zo) (zt (zck (zf4 (zq zex (zab (i:=0) (za zd (za zi zf))) zi)) (zx (zq zR (zaP (za (zq za9 (zaP (za zi zf)) zi) (za (zaP (za zi (za zi zf))) (za (zaP (za zi zf)) (za (zq za9 (zaP (za zi zf)) zi) zf))))) (zab (i:=0) (za zd (za zi zf)))) zo) zat) (zt (zx (zdL zf) zo) (zt (zcz (zbg (za (zas zaS (za zd zf)) zf)) zo (zt (zx (zab (i:=0) (za zd zf)) zo) (zdI (zm8 zeY zd (za (za6 (za (zq zR zd zd) (za zd (za (zq zcN (zq zY zd (zq zR zd zd)) zi) zf)))) zf))))) (zS (zas zhw (za zd zf)))))))),fun xs S R q=>q⟩
theorem zcm (T:Txt mg) (dd:Dds K mg) (xx:Exx K mg) (zB:zbk P w K mg base):zdx P w K mg base:=by
 exact Df.dN dd.d_law_terms zbV 3 rfl fun f cdv A outer s H E hr=>⟨_,_,(zj (zC (i:=2) zbV.nd rfl (Or.inl rfl) (zQ zD (zdU (zE (zdU (zE zh (zE (zdf zby zh) (zE zh (zE (zdf zby zh) (zE zh (zE (zdf zby zh) zfr))))))) (zE (zaG (zc zh (zc (zdf zby zh) zg))) (zE (zaG (zc zh (zc (zdf zby zh) zg))) (zE (zaG (zc zh (zc (zdf zby zh) zg))) (zE (zaG (zc zh (zc zh (zc (zdf zby zh) (zc (zdf zby zh) zg))))) (zE (zaG (zc zh (zc zh (zc (zdf zby zh) (zc (zdf zby zh) zg))))) zfr))))))) (zA zB hr (by decide) (zc (pv 0) (zc zh zg))) (fun _ _=>rfl))) (zj (zC (i:=3) zbV.nd rfl (Or.inl rfl) (zaG zg)) (zj (zb0 PassesOwn.never rfl (zaA rfl T.n_range (zc (zw zai (by rfl) T.n_len zbw (zc (pv 1) zg)) zg)) (zH (i:=4) zbV.nd rfl (Or.inl rfl)) (zr (zbS (zaw zpo (zA zB hr (by decide) (zc (pv 0) (zc zh zg))) zh (nomark _)) (zr (zdN (ziu PySem.F.plainAttrs_list PySem.F.slot_list_append PySem.F.type_list_append zdJ (pv 3) (zc (zaY (zc (pv 4) (zc (zQ zD (pv 2) (zA zB hr (by decide) (zc (pv 0) (zc (zw zai (by rfl) T.n_len zbw (zc (pv 2) zg)) zg))) (fun _ _=>rfl)) zg))) zg)))) zaq))) (zj (zbS (zaw (zeV hr.units) (pv 3) (zaG zg) (nomark _)) (zr (zC (i:=3) zbV.nd rfl (Or.inl rfl) (zaG (zc (zaY (zc (zA zB hr (by decide) (zc (pv 0) (zc (zw zai (by rfl) T.n_len zbw (zc (pv 1) zg)) zg))) (zc (zQ zD (pv 2) (zA zB hr (by decide) (zc (pv 0) (zc (zw zai (by rfl) T.n_len zbw (zc (pv 2) zg)) zg))) (fun _ _=>rfl)) zg))) zg)))) zaq) (zr (zP (zbE zc1 (by rfl) T.n_tuple zeC (zc (pv 3) zg)))))))),(zt (zx (zq zR (zaP (za (zaP (za zi (za (zdb zhT zi) (za zi (za (zdb zhT zi) (za zi (za (zdb zhT zi) zf))))))) (za (zaP (za zi (za (zdb zhT zi) zf))) (za (zaP (za zi (za (zdb zhT zi) zf))) (za (zaP (za zi (za (zdb zhT zi) zf))) (za (zaP (za zi (za zi (za (zdb zhT zi) (za (zdb zhT zi) zf))))) (za (zaP (za zi (za zi (za (zdb zhT zi) (za (zdb zhT zi) zf))))) zf))))))) (zab (i:=0) (za zd (za zi zf)))) zo) (zt (zx (zdL zf) zo) (zt (zcz (zbg (za (zas zaS (za zd zf)) zf)) zo (zck (zf4 (zq zcy (zab (i:=0) (za zd (za zi zf))) zi)) (zdI (zm8 zeY zd (za (za6 (za zd (za (zq zR zd (zab (i:=0) (za zd (za (zas zaS (za zd zf)) zf)))) zf))) zf))) zat)) (zt (zck (zf4 (zq zex zd (zaP zf))) (zx (zdL (za (za6 (za (zab (i:=0) (za zd (za (zas zaS (za zd zf)) zf))) (za (zq zR zd (zab (i:=0) (za zd (za (zas zaS (za zd zf)) zf)))) zf))) zf)) zo) zat) (zS (zas zhw (za zd zf))))))),fun xs S R q=>q⟩
theorem zcb (T:Txt mg) (dd:Dds K mg) (xx:Exx K mg):zel P w K mg base:=by
 exact Df.dN dd.d_law_ends zaZ 5 rfl fun f cdv A outer s H E hr=>⟨_,_,(zj (zC (i:=2) zaZ.nd rfl (Or.inl rfl) zh) (zj (zC (i:=3) zaZ.nd rfl (Or.inl rfl) zh) (zj (zb0 PassesOwn.never rfl (zdk (pv 1)) (zdn (n:=2) rfl (zac (zH (i:=4) zaZ.nd rfl (Or.inl rfl)) (zac (zH (i:=5) zaZ.nd rfl (Or.inl rfl)) zb5))) (zj (zC (i:=6) zaZ.nd rfl (Or.inl rfl) (zaG (zc (zF zax (pv 5) (zQ zD (zQ zD (pv 0) (pv 4) (fun _ _=>rfl)) zh (fun _ _=>rfl))) (zc (zF zax (pv 5) (zQ zD (zQ zD (pv 0) (pv 4) (fun _ _=>rfl)) zh (fun _ _=>rfl))) zg)))) (zj (zC (i:=2) zaZ.nd rfl (Or.inl rfl) (zF zJ (pv 2) (zw (zjj rfl hr.units) (by rfl) T.n_min zqw (zc (pv 6) zg)))) (zr (zC (i:=3) zaZ.nd rfl (Or.inl rfl) (zF zJ (pv 3) (zw (zi6 rfl) (by rfl) T.n_max zj6 (zc (pv 6) zg)))))))) (zr (zP (zaY (zc (pv 2) (zc (pv 3) zg)))))))),(zt (zx zi zo) (zt (zx zi zo) (zt (zcz (zdi zd) (zdm (zaa zo (zaa zo zb6))) (zt (zx (zaP (za (zq za9 zd (zq zR (zq zR zd zd) zi)) (za (zq za9 zd (zq zR (zq zR zd zd) zi)) zf))) zo) (zt (zx (zq zY zd (zas zm6 (za zd zf))) zo) (zx (zq zY zd (zas zqk (za zd zf))) zo)))) (zS (za6 (za zd (za zd zf))))))),fun xs S R q=>q⟩
theorem zgi (T:Txt mg) (dd:Dds K mg) (xx:Exx K mg) (zcm:zdx P w K mg base) (zcb:zel P w K mg base) (zB:zbk P w K mg base):zht P w K mg base:=by
 exact Df.dN dd.d_law_gap zbK 6 rfl fun f cdv A outer s H E hr=>⟨_,_,(zj (zC (i:=2) zbK.nd rfl (Or.inl rfl) (zA zcm hr (by decide) (zc (pv 0) (zc (pv 1) zg)))) (zj (zkE (zA zcb hr (by decide) (zc (pv 1) (zc (pv 2) zg))) (zdn (n:=2) rfl (zac (zH (i:=3) zbK.nd rfl (Or.inl rfl)) (zac (zH (i:=4) zbK.nd rfl (Or.inl rfl)) zb5)))) (zj (zC (i:=5) zbK.nd rfl (Or.inl rfl) (zF zbF (pv 4) (pv 3))) (zj (zC (i:=6) zbK.nd rfl (Or.inl rfl) (zF zJ (pv 3) (zQ zD (zdU (zE zh (zE zh (zE (zdf zby zh) (zE (zF zgt (pv 5) zh) (zE (zF zgt (pv 5) zh) (zE (zF zJ (pv 5) zh) (zE (pv 5) (zE (zF zbF (pv 5) zh) zfr))))))))) (zA zB hr (by decide) (zc (pv 0) (zc zh zg))) (fun _ _=>rfl)))) (zj (zC (i:=7) zbK.nd rfl (Or.inl rfl) (zF zJ (pv 6) (zQ zD (zdU (zE zh (zE zh (zE zh (zE (zF zgt (pv 5) zh) (zE (pv 5) (zE (zF zJ (pv 5) zh) zfr))))))) (zA zB hr (by decide) (zc (pv 0) (zc zh zg))) (fun _ _=>rfl)))) (zr (zP (zaY (zc (pv 2) (zc (pv 6) (zc (pv 7) zg))))))))))),(zt (zx (zab (i:=0) (za zd (za zd zf))) zo) (zt (zx (zG (za zd (za zd zf))) (zdm (zaa zo (zaa zo zb6)))) (zt (zx (zq zcN zd zd) zo) (zt (zx (zq zY zd (zq zR (zaP (za zi (za zi (za (zdb zhT zi) (za (zq zjX zd zi) (za (zq zjX zd zi) (za (zq zY zd zi) (za zd (za (zq zcN zd zi) zf))))))))) (zab (i:=0) (za zd (za zi zf))))) zo) (zt (zx (zq zY zd (zq zR (zaP (za zi (za zi (za zi (za (zq zjX zd zi) (za zd (za (zq zY zd zi) zf))))))) (zab (i:=0) (za zd (za zi zf))))) zo) (zS (za6 (za zd (za zd (za zd zf)))))))))),fun xs S R q=>q⟩
theorem ok_law {f:Addr} {fd:FuncData} (F:Fun K "law" "law" s_law f fd) (T:Txt mg) (dd:Dds K mg) (xx:Exx K mg):FnOk P w K mg base CX0 8 f fd ["script"] (sp1 (zvE K)):=by
 have zdg:=zdg (P:=P) (w:=w) (base:=base) T dd
 have zdF:ze9 P w K mg base:=zdF T dd xx 
 have zcq:zdD P w K mg base:=zcq T dd xx 
 have zcf:zdS P w K mg base:=zcf T dd xx zcq
 have za2:zcO P w K mg base:=za2 T dd xx 
 have zjg:zjN P w K mg base:=zjg T dd xx 
 have zbT:zdd P w K mg base:=zbT T dd xx 
 have zaC:zcc P w K mg base:=zaC T dd xx 
 have zaQ:zbN P w K mg base:=zaQ T dd xx zjg zbT zaC
 have zdG:zfK P w K mg base:=zdG T dd xx zaQ
 have za1:zcF P w K mg base:=za1 T dd xx za2
 have zbY:zdh P w K mg base:=zbY T dd xx za2 zdG za1 zaC
 have zaM:zca P w K mg base:=zaM T dd xx za2 zdG za1 zaC
 have zaI:zcl P w K mg base:=zaI T dd xx 
 have zeQ:zgF P w K mg base:=zeQ T dd xx zaI
 have zcU:zen P w K mg base:=zcU T dd xx 
 have zgf:zh3 P w K mg base:=zgf T dd xx zcU
 have zU:zaB P w K mg base:=zU T dd xx 
 have zL:zaR P w K mg base:=zL T dd xx 
 have zao:zbD P w K mg base:=zao T dd xx zU zL
 have zcj:zdu P w K mg base:=zcj T dd xx zaM zgf zeQ zao
 have za8:zcH P w K mg base:=za8 T dd xx zaC zU zL
 have zmX:znx P w K mg base:=zmX T dd xx zL zaI za8 zao zbY
 have znv:zmh P w K mg base:=znv T dd xx zaM zL zaI za8 zao
 have zcM:zes P w K mg base:=zcM T dd xx 
 have zbv:zcI P w K mg base:=zbv T dd xx zcM zmX
 have za4:zcC P w K mg base:=za4 T dd xx 
 have zci:zdK P w K mg base:=zci T dd xx za4
 have zc3:zfw P w K mg base:=zc3 T dd xx zdF zcf zcj za4 zci znv zbv
 have zfW:zhk P w K mg base:=zfW T dd xx 
 have zce:zeh P w K mg base:=zce T dd xx 
 have zB:zbk P w K mg base:=zB T dd xx zce
 have zcu:zdT P w K mg base:=zcu T dd xx zB
 have zbZ:zdc P w K mg base:=zbZ T dd xx zB
 have zgo:zhh P w K mg base:=zgo T dd xx zcu zB zbZ
 have zcm:zdx P w K mg base:=zcm T dd xx zB
 have zcb:zel P w K mg base:=zcb T dd xx 
 have zgi:zht P w K mg base:=zgi T dd xx zcm zcb zB
 refine F.ok1 zeR (fun v=>[some v,none,none,none,none,none,none,none,none]) (fun _=>rfl) fun cdv A outer s H v Q E hr h=>?_
 obtain ⟨a,ns,rfl,hS,hlen,q⟩:=h
 refine ⟨_,(zj (zbS (zcW (zbe (zA zc3 hr (by decide) (zc (zaY (zc (zaY (zc zaV (zc zh (zc zh zg)))) zg)) (zc (zaY (zc (zaY (zc (zaY (zc zh (zc zh zg))) zg)) (zc zh (zc zh zg)))) (zc (zaG (zc zh (zc zh zg))) zg)))) (fun _=>rfl))) (zr (zP zgs)) zaq) (zj (zb0 PassesOwn.never rfl (zrj (zF zop (zaG (zc (zs0 zdg hr (by decide) (pv 0) zh) zg)) (zd3 zmO (pv 0) (zed zh) (zed zh)))) (zH (i:=1) zeR.nd rfl (Or.inl rfl)) (zj (zC (i:=2) zeR.nd rfl (Or.inr rfl) (zA zfW hr (by decide) (zc (pv 1) zg))) (zj (zC (i:=3) zeR.nd rfl (Or.inl rfl) (zA zgo hr (by decide) (zc (pv 2) (zc zh zg)))) (zj (zC (i:=4) zeR.nd rfl (Or.inl rfl) (zA zgi hr (by decide) (zc (pv 2) (zc (pv 3) zg)))) (zj (zgC (i:=5) (fun _ _ h=>h) rfl (zar rfl rfl rfl rfl (N:=["turn","pen"]) (caps:=[none,some 2]) (by show zbz ["script","cell","pen","drawing","gap","some","least","most","turn"] (zp s_law).names _ _ _ = true; decide +kernel)) zeR.nd rfl rfl (zaA rfl T.n_range (zc zh zg)) (fun _ _ _ _=>(zH (i:=0) (by show List.Nodup (["turn","pen"]:List Str); decide) rfl (Or.inl rfl))) (fun _ _ _ _=>zbA) (fun _ _ _ _=>(zA zB hr (by decide) (zc (pv 1) (zc (zF zhm zh zh) zg))))) (zj (zkE (zA zcb hr (by decide) (zc (pv 3) (zc (zQ zD (pv 4) zh (fun _ _=>rfl)) zg))) (zdn (n:=2) rfl (zac (zH (i:=6) zeR.nd rfl (Or.inl rfl)) (zac (zH (i:=7) zeR.nd rfl (Or.inl rfl)) zb5)))) (zr (zb0 PassesOwn.never rfl (zaA rfl T.n_range (zc zh zg)) (zH (i:=8) zeR.nd rfl (Or.inl rfl)) (zr (zbS (PW.pt (ztV (zaw ziL (zF zbF (pv 7) (pv 6)) zh (nomark _)) (zr3 (zcW (zbe (zA zc3 hr (by decide) (zc (pv 3) (zc (pv 4) (zc (pv 5) zg)))) (fun _=>rfl)))))) (zr (zP zgs)) zaq)))))))))) (zr (zP zgs)))),?_⟩
 refine zsq (a:=a) (m:=8) (dt:=zjw) (zck (zcT (zdl (zG (za (za6 (za (za6 (za zaU (za zi (za zi zf)))) zf)) (za (za6 (za (za6 (za (za6 (za zi (za zi zf))) zf)) (za zi (za zi zf)))) (za (zaP (za zi (za zi zf))) zf)))))) (zS zgQ) zat) rfl rfl (zll a) fun σ1 H1 z0 z1 s1=>?_
 exact zrm (m:=8) (db:=zry) (zt (zx (zG (za zd zf)) zo) (zt (zx (zab (i:=0) (za zd (za zi zf))) zo) (zt (zx (zab (i:=0) (za zd (za zd zf))) zo) (zt (zx (zbj (zbg (za zi zf)) zo zbB (zab (i:=0) (za zd (za (zq zie zi zi) zf)))) zo) (zt (zx (zG (za zd (za (zq zR zd zi) zf))) (zdm (zaa zo (zaa zo zb6)))) (zcz (zbg (za zi zf)) zo (zck (ztI (zf4 (zq zcy (zq zcN zd zd) zi)) (zcT (zdl (zG (za zd (za zd (za zd zf))))))) (zS zgQ) zat))))))) z0 z1 (s1.seq hS) hlen (fun n=>zju a n) (by decide) fun _ H2 _=>q H2
end
end My
namespace PySem.W.Fast
def tw7319916631797745647:Unit:=()
def tw5005456423983846745:Unit:=()
def tw15925377623246775984:Unit:=()
def tw3161765492803232623:Unit:=()
def tw11150304701036287188:Unit:=()
def tw14123629773935594936:Unit:=()
def tw16665226963407763189:Unit:=()
def tw8875579255404854470:Unit:=()
def tw17939132976795597782:Unit:=()
def tw9239868226800678652:Unit:=()
def tw11600867836930738347:Unit:=()
def tw2362608231069467572:Unit:=()
def tw16882538444640443890:Unit:=()
def tw10190856449203225028:Unit:=()
def tw3236812699445130272:Unit:=()
def tw11486531792739891288:Unit:=()
def tw11494661519335354495:Unit:=()
def tw13372421485411151998:Unit:=()
def tw1991452214624443965:Unit:=()
def tw10207184582116748809:Unit:=()
def tw1641428169093046820:Unit:=()
def tw15919937193957152051:Unit:=()
def tw14711498282958922552:Unit:=()
def tw12289606511987934257:Unit:=()
def tw17344033823505213358:Unit:=()
def tw13507258009705993135:Unit:=()
def tw4532531580516062596:Unit:=()
def tw13811444149946519583:Unit:=()
def tw2989900807822055284:Unit:=()
def tw7479683651140296234:Unit:=()
def tw13044393475777268260:Unit:=()
def tw15038083791425095292:Unit:=()
def tw11764214825538576772:Unit:=()
def tw8740045677133046681:Unit:=()
def tw17455798752961162313:Unit:=()
def tw7188016311923917239:Unit:=()
def tw472495406260463765:Unit:=()
def tw2501319913579087719:Unit:=()
def tw9523567424691268645:Unit:=()
def tw12251102573588132613:Unit:=()
def tw11901575379703250053:Unit:=()
def tw10114162820963339207:Unit:=()
def tw3829284266777855285:Unit:=()
def tw2588917402981041180:Unit:=()
def tw13784357009906735085:Unit:=()
def tw186963648180102576:Unit:=()
def tw17312767439639516023:Unit:=()
def tw2772394431021398366:Unit:=()
end PySem.W.Fast
open PySem PySem.W PyProof.Rows L2
set_option maxRecDepth 100000 in
set_option maxHeartbeats 0 in
theorem PySem.Challenge.cw_gaugewright_k29_sets_counted_holds : PySem.Challenge.rw_gaugewright_k29_sets_counted.Holds := by
 w_on; o_law; k_head; (case hw=>w_witness2)
 k_fill
 refine L2.walk_law (l := PySem.Challenge.rw_gaugewright_k29_sets_counted) (k := 8) rfl rfl ⟨rfl, by decide, by decide⟩ (fun w h Y => PySem.W.kIn_of Y) ?F
 case F =>
  intro w mg fa h KX G hmg
  have d_law_cell_at:Dd (L2.KOf KX) mg "_law_cell_at" My.s_law_cell_at ["script","k"]:=by
   dsimp only [L2.KOf]
   refine' Dd.mk' KX G ?a ?l ?c ?k ?b
   (case a=>k_is); (case l=>k_is); (case c=>k_is); (case k=>k_is); (case b=>exact fun _ _ _ _ _ _ us hl=>match us,hl with | [_,_],_=>rfl)
  have d_law_all:Dd (L2.KOf KX) mg "_law_all" My.s_law_all ["drawing"]:=by
   dsimp only [L2.KOf]
   refine' Dd.mk' KX G ?a ?l ?c ?k ?b
   (case a=>k_is); (case l=>k_is); (case c=>k_is); (case k=>k_is); (case b=>exact fun _ _ _ _ _ _ us hl=>match us,hl with | [_],_=>rfl)
  have d_law_worth:Dd (L2.KOf KX) mg "_law_worth" My.s_law_worth ["gap","one"]:=by
   dsimp only [L2.KOf]
   refine' Dd.mk' KX G ?a ?l ?c ?k ?b
   (case a=>k_is); (case l=>k_is); (case c=>k_is); (case k=>k_is); (case b=>exact fun _ _ _ _ _ _ us hl=>match us,hl with | [_,_],_=>rfl)
  have d_law_keeps:Dd (L2.KOf KX) mg "_law_keeps" My.s_law_keeps ["gap","one"]:=by
   dsimp only [L2.KOf]
   refine' Dd.mk' KX G ?a ?l ?c ?k ?b
   (case a=>k_is); (case l=>k_is); (case c=>k_is); (case k=>k_is); (case b=>exact fun _ _ _ _ _ _ us hl=>match us,hl with | [_,_],_=>rfl)
  have d_size_of:Dd (L2.KOf KX) mg "size_of" My.s_size_of ["one"]:=by
   dsimp only [L2.KOf]
   refine' Dd.mk' KX G ?a ?l ?c ?k ?b
   (case a=>k_is); (case l=>k_is); (case c=>k_is); (case k=>k_is); (case b=>exact fun _ _ _ _ _ _ us hl=>match us,hl with | [_],_=>rfl)
  have d_plus:Dd (L2.KOf KX) mg "plus" My.s_plus ["one","other"]:=by
   dsimp only [L2.KOf]
   refine' Dd.mk' KX G ?a ?l ?c ?k ?b
   (case a=>k_is); (case l=>k_is); (case c=>k_is); (case k=>k_is); (case b=>exact fun _ _ _ _ _ _ us hl=>match us,hl with | [_,_],_=>rfl)
  have d_multiplied:Dd (L2.KOf KX) mg "multiplied" My.s_multiplied ["one","by"]:=by
   dsimp only [L2.KOf]
   refine' Dd.mk' KX G ?a ?l ?c ?k ?b
   (case a=>k_is); (case l=>k_is); (case c=>k_is); (case k=>k_is); (case b=>exact fun _ _ _ _ _ _ us hl=>match us,hl with | [_,_],_=>rfl)
  have d_span_of:Dd (L2.KOf KX) mg "span_of" My.s_span_of ["part"]:=by
   dsimp only [L2.KOf]
   refine' Dd.mk' KX G ?a ?l ?c ?k ?b
   (case a=>k_is); (case l=>k_is); (case c=>k_is); (case k=>k_is); (case b=>exact fun _ _ _ _ _ _ us hl=>match us,hl with | [_],_=>rfl)
  have d_reach_of_terms:Dd (L2.KOf KX) mg "reach_of_terms" My.s_reach_of_terms ["drawing","terms"]:=by
   dsimp only [L2.KOf]
   refine' Dd.mk' KX G ?a ?l ?c ?k ?b
   (case a=>k_is); (case l=>k_is); (case c=>k_is); (case k=>k_is); (case b=>exact fun _ _ _ _ _ _ us hl=>match us,hl with | [_,_],_=>rfl)
  have d_reach:Dd (L2.KOf KX) mg "reach" My.s_reach ["drawing","gap"]:=by
   dsimp only [L2.KOf]
   refine' Dd.mk' KX G ?a ?l ?c ?k ?b
   (case a=>k_is); (case l=>k_is); (case c=>k_is); (case k=>k_is); (case b=>exact fun _ _ _ _ _ _ us hl=>match us,hl with | [_,_],_=>rfl)
  have d_with_part:Dd (L2.KOf KX) mg "with_part" My.s_with_part ["tally","span","times"]:=by
   dsimp only [L2.KOf]
   refine' Dd.mk' KX G ?a ?l ?c ?k ?b
   (case a=>k_is); (case l=>k_is); (case c=>k_is); (case k=>k_is); (case b=>exact fun _ _ _ _ _ _ us hl=>match us,hl with | [_,_,_],_=>rfl)
  have d_tallies_of:Dd (L2.KOf KX) mg "tallies_of" My.s_tallies_of ["drawing","gap"]:=by
   dsimp only [L2.KOf]
   refine' Dd.mk' KX G ?a ?l ?c ?k ?b
   (case a=>k_is); (case l=>k_is); (case c=>k_is); (case k=>k_is); (case b=>exact fun _ _ _ _ _ _ us hl=>match us,hl with | [_,_],_=>rfl)
  have d_is_whole:Dd (L2.KOf KX) mg "is_whole" My.s_is_whole ["thing"]:=by
   dsimp only [L2.KOf]
   refine' Dd.mk' KX G ?a ?l ?c ?k ?b
   (case a=>k_is); (case l=>k_is); (case c=>k_is); (case k=>k_is); (case b=>exact fun _ _ _ _ _ _ us hl=>match us,hl with | [_],_=>rfl)
  have d_is_set:Dd (L2.KOf KX) mg "is_set" My.s_is_set ["drawing","thing"]:=by
   dsimp only [L2.KOf]
   refine' Dd.mk' KX G ?a ?l ?c ?k ?b
   (case a=>k_is); (case l=>k_is); (case c=>k_is); (case k=>k_is); (case b=>exact fun _ _ _ _ _ _ us hl=>match us,hl with | [_,_],_=>rfl)
  have d_worth_of:Dd (L2.KOf KX) mg "worth_of" My.s_worth_of ["gap","one"]:=by
   dsimp only [L2.KOf]
   refine' Dd.mk' KX G ?a ?l ?c ?k ?b
   (case a=>k_is); (case l=>k_is); (case c=>k_is); (case k=>k_is); (case b=>exact fun _ _ _ _ _ _ us hl=>match us,hl with | [_,_],_=>rfl)
  have d_keeps:Dd (L2.KOf KX) mg "keeps" My.s_keeps ["gap","one"]:=by
   dsimp only [L2.KOf]
   refine' Dd.mk' KX G ?a ?l ?c ?k ?b
   (case a=>k_is); (case l=>k_is); (case c=>k_is); (case k=>k_is); (case b=>exact fun _ _ _ _ _ _ us hl=>match us,hl with | [_,_],_=>rfl)
  have d_worth_of_beginning:Dd (L2.KOf KX) mg "worth_of_beginning" My.s_worth_of_beginning ["gap","beginning"]:=by
   dsimp only [L2.KOf]
   refine' Dd.mk' KX G ?a ?l ?c ?k ?b
   (case a=>k_is); (case l=>k_is); (case c=>k_is); (case k=>k_is); (case b=>exact fun _ _ _ _ _ _ us hl=>match us,hl with | [_,_],_=>rfl)
  have d_kept_behind:Dd (L2.KOf KX) mg "kept_behind" My.s_kept_behind ["tally","gap","worth"]:=by
   dsimp only [L2.KOf]
   refine' Dd.mk' KX G ?a ?l ?c ?k ?b
   (case a=>k_is); (case l=>k_is); (case c=>k_is); (case k=>k_is); (case b=>exact fun _ _ _ _ _ _ us hl=>match us,hl with | [_,_,_],_=>rfl)
  have d_kept_ahead:Dd (L2.KOf KX) mg "kept_ahead" My.s_kept_ahead ["drawing","gap","beginning","tally"]:=by
   dsimp only [L2.KOf]
   refine' Dd.mk' KX G ?a ?l ?c ?k ?b
   (case a=>k_is); (case l=>k_is); (case c=>k_is); (case k=>k_is); (case b=>exact fun _ _ _ _ _ _ us hl=>match us,hl with | [_,_,_,_],_=>rfl)
  have d_number_of:Dd (L2.KOf KX) mg "number_of" My.s_number_of ["drawing","gap","thing"]:=by
   dsimp only [L2.KOf]
   refine' Dd.mk' KX G ?a ?l ?c ?k ?b
   (case a=>k_is); (case l=>k_is); (case c=>k_is); (case k=>k_is); (case b=>exact fun _ _ _ _ _ _ us hl=>match us,hl with | [_,_,_],_=>rfl)
  have d_number_at:Dd (L2.KOf KX) mg "number_at" My.s_number_at ["drawing","gap","beginning","tally","left"]:=by
   dsimp only [L2.KOf]
   refine' Dd.mk' KX G ?a ?l ?c ?k ?b
   (case a=>k_is); (case l=>k_is); (case c=>k_is); (case k=>k_is); (case b=>exact fun _ _ _ _ _ _ us hl=>match us,hl with | [_,_,_,_,_],_=>rfl)
  have d_nth:Dd (L2.KOf KX) mg "nth" My.s_nth ["drawing","gap","number"]:=by
   dsimp only [L2.KOf]
   refine' Dd.mk' KX G ?a ?l ?c ?k ?b
   (case a=>k_is); (case l=>k_is); (case c=>k_is); (case k=>k_is); (case b=>exact fun _ _ _ _ _ _ us hl=>match us,hl with | [_,_,_],_=>rfl)
  have d_law_kind:Dd (L2.KOf KX) mg "_law_kind" My.s_law_kind ["e"]:=by
   dsimp only [L2.KOf]
   refine' Dd.mk' KX G ?a ?l ?c ?k ?b
   (case a=>k_is); (case l=>k_is); (case c=>k_is); (case k=>k_is); (case b=>exact fun _ _ _ _ _ _ us hl=>match us,hl with | [_],_=>rfl)
  have d_law_refused:Dd (L2.KOf KX) mg "_law_refused" My.s_law_refused ["drawing","gap","thing"]:=by
   dsimp only [L2.KOf]
   refine' Dd.mk' KX G ?a ?l ?c ?k ?b
   (case a=>k_is); (case l=>k_is); (case c=>k_is); (case k=>k_is); (case b=>exact fun _ _ _ _ _ _ us hl=>match us,hl with | [_,_,_],_=>rfl)
  have d_law_whole:Dd (L2.KOf KX) mg "_law_whole" My.s_law_whole ["found"]:=by
   dsimp only [L2.KOf]
   refine' Dd.mk' KX G ?a ?l ?c ?k ?b
   (case a=>k_is); (case l=>k_is); (case c=>k_is); (case k=>k_is); (case b=>exact fun _ _ _ _ _ _ us hl=>match us,hl with | [_],_=>rfl)
  have d_law_tuple:Dd (L2.KOf KX) mg "_law_tuple" My.s_law_tuple ["found","due"]:=by
   dsimp only [L2.KOf]
   refine' Dd.mk' KX G ?a ?l ?c ?k ?b
   (case a=>k_is); (case l=>k_is); (case c=>k_is); (case k=>k_is); (case b=>exact fun _ _ _ _ _ _ us hl=>match us,hl with | [_,_],_=>rfl)
  have d_law_right:Dd (L2.KOf KX) mg "_law_right" My.s_law_right ["drawing","gap","some"]:=by
   dsimp only [L2.KOf]
   refine' Dd.mk' KX G ?a ?l ?c ?k ?b
   (case a=>k_is); (case l=>k_is); (case c=>k_is); (case k=>k_is); (case b=>exact fun _ _ _ _ _ _ us hl=>match us,hl with | [_,_,_],_=>rfl)
  have d_law_pen:Dd (L2.KOf KX) mg "_law_pen" My.s_law_pen ["cell"]:=by
   dsimp only [L2.KOf]
   refine' Dd.mk' KX G ?a ?l ?c ?k ?b
   (case a=>k_is); (case l=>k_is); (case c=>k_is); (case k=>k_is); (case b=>exact fun _ _ _ _ _ _ us hl=>match us,hl with | [_],_=>rfl)
  have d_law_next:Dd (L2.KOf KX) mg "_law_next" My.s_law_next ["seed"]:=by
   dsimp only [L2.KOf]
   refine' Dd.mk' KX G ?a ?l ?c ?k ?b
   (case a=>k_is); (case l=>k_is); (case c=>k_is); (case k=>k_is); (case b=>exact fun _ _ _ _ _ _ us hl=>match us,hl with | [_],_=>rfl)
  have d_law_draw:Dd (L2.KOf KX) mg "_law_draw" My.s_law_draw ["pen","many"]:=by
   dsimp only [L2.KOf]
   refine' Dd.mk' KX G ?a ?l ?c ?k ?b
   (case a=>k_is); (case l=>k_is); (case c=>k_is); (case k=>k_is); (case b=>exact fun _ _ _ _ _ _ us hl=>match us,hl with | [_,_],_=>rfl)
  have d_law_names:Dd (L2.KOf KX) mg "_law_names" My.s_law_names ["pen"]:=by
   dsimp only [L2.KOf]
   refine' Dd.mk' KX G ?a ?l ?c ?k ?b
   (case a=>k_is); (case l=>k_is); (case c=>k_is); (case k=>k_is); (case b=>exact fun _ _ _ _ _ _ us hl=>match us,hl with | [_],_=>rfl)
  have d_law_number:Dd (L2.KOf KX) mg "_law_number" My.s_law_number ["pen"]:=by
   dsimp only [L2.KOf]
   refine' Dd.mk' KX G ?a ?l ?c ?k ?b
   (case a=>k_is); (case l=>k_is); (case c=>k_is); (case k=>k_is); (case b=>exact fun _ _ _ _ _ _ us hl=>match us,hl with | [_],_=>rfl)
  have d_law_few:Dd (L2.KOf KX) mg "_law_few" My.s_law_few ["pen","most"]:=by
   dsimp only [L2.KOf]
   refine' Dd.mk' KX G ?a ?l ?c ?k ?b
   (case a=>k_is); (case l=>k_is); (case c=>k_is); (case k=>k_is); (case b=>exact fun _ _ _ _ _ _ us hl=>match us,hl with | [_,_],_=>rfl)
  have d_law_terms:Dd (L2.KOf KX) mg "_law_terms" My.s_law_terms ["pen","drawing"]:=by
   dsimp only [L2.KOf]
   refine' Dd.mk' KX G ?a ?l ?c ?k ?b
   (case a=>k_is); (case l=>k_is); (case c=>k_is); (case k=>k_is); (case b=>exact fun _ _ _ _ _ _ us hl=>match us,hl with | [_,_],_=>rfl)
  have d_law_ends:Dd (L2.KOf KX) mg "_law_ends" My.s_law_ends ["drawing","terms"]:=by
   dsimp only [L2.KOf]
   refine' Dd.mk' KX G ?a ?l ?c ?k ?b
   (case a=>k_is); (case l=>k_is); (case c=>k_is); (case k=>k_is); (case b=>exact fun _ _ _ _ _ _ us hl=>match us,hl with | [_,_],_=>rfl)
  have d_law_gap:Dd (L2.KOf KX) mg "_law_gap" My.s_law_gap ["pen","drawing"]:=by
   dsimp only [L2.KOf]
   refine' Dd.mk' KX G ?a ?l ?c ?k ?b
   (case a=>k_is); (case l=>k_is); (case c=>k_is); (case k=>k_is); (case b=>exact fun _ _ _ _ _ _ us hl=>match us,hl with | [_,_],_=>rfl)
  have d_law:Dd (L2.KOf KX) mg "law" My.s_law ["script"]:=by
   dsimp only [L2.KOf]
   refine' Dd.mk' KX G ?a ?l ?c ?k ?b
   (case a=>k_is); (case l=>k_is); (case c=>k_is); (case k=>k_is); (case b=>exact fun _ _ _ _ _ _ us hl=>match us,hl with | [_],_=>rfl)
  have g13:∃ t,mg "MOST_WORTHS" = some (.int 400 t):=by
   apply Exists.intro
   apply PySem.W.mg_of KX G
   k_is
  have T:My.Txt mg:=by
   refine' ⟨PySem.W.mg_none_of KX G ?z0,PySem.W.mg_none_of KX G ?z1,PySem.W.mg_none_of KX G ?z2,PySem.W.mg_none_of KX G ?z3,PySem.W.mg_none_of KX G ?z4,PySem.W.mg_none_of KX G ?z5,PySem.W.mg_none_of KX G ?z6,PySem.W.mg_none_of KX G ?z7,PySem.W.mg_none_of KX G ?z8,PySem.W.mg_none_of KX G ?z9,PySem.W.mg_none_of KX G ?z10,PySem.W.mg_none_of KX G ?z11,PySem.W.mg_none_of KX G ?z12,g13⟩
   (case z0=>k_is); (case z1=>k_is); (case z2=>k_is); (case z3=>k_is); (case z4=>k_is); (case z5=>k_is); (case z6=>k_is); (case z7=>k_is); (case z8=>k_is); (case z9=>k_is); (case z10=>k_is); (case z11=>k_is); (case z12=>k_is)
  have m24:mg "GaugeError" = some (.ref 24):=by
   apply PySem.W.mg_of KX G
   k_is
  have c24:L2.ExCls (L2.KOf KX) 24 none:=by
   apply L2.exc_of_in
   dsimp only [L2.KOf,L2.veB]
   k_exc
  have m37:mg "NoSpan" = some (.ref 37):=by
   apply PySem.W.mg_of KX G
   k_is
  have k37:L2.ExK (L2.KOf KX) 37:=by
   dsimp only [L2.KOf]
   refine' L2.ExK.mk' ?a ?b ?c ?d ?e ?f
   (case a=>k_is); (case b=>k_is); (case c=>k_is); (case d=>k_is); (case e=>k_is); (case f=>rfl)
  have c37:L2.ExCls (L2.KOf KX) 37 none:=by
   apply L2.exc_of_in
   dsimp only [L2.KOf,L2.veB]
   k_exc
  have m49:mg "NoPart" = some (.ref 49):=by
   apply PySem.W.mg_of KX G
   k_is
  have k49:L2.ExK (L2.KOf KX) 49:=by
   dsimp only [L2.KOf]
   refine' L2.ExK.mk' ?a ?b ?c ?d ?e ?f
   (case a=>k_is); (case b=>k_is); (case c=>k_is); (case d=>k_is); (case e=>k_is); (case f=>rfl)
  have c49:L2.ExCls (L2.KOf KX) 49 none:=by
   apply L2.exc_of_in
   dsimp only [L2.KOf,L2.veB]
   k_exc
  have m61:mg "NoSet" = some (.ref 61):=by
   apply PySem.W.mg_of KX G
   k_is
  have k61:L2.ExK (L2.KOf KX) 61:=by
   dsimp only [L2.KOf]
   refine' L2.ExK.mk' ?a ?b ?c ?d ?e ?f
   (case a=>k_is); (case b=>k_is); (case c=>k_is); (case d=>k_is); (case e=>k_is); (case f=>rfl)
  have c61:L2.ExCls (L2.KOf KX) 61 none:=by
   apply L2.exc_of_in
   dsimp only [L2.KOf,L2.veB]
   k_exc
  have m73:mg "NoRow" = some (.ref 73):=by
   apply PySem.W.mg_of KX G
   k_is
  have k73:L2.ExK (L2.KOf KX) 73:=by
   dsimp only [L2.KOf]
   refine' L2.ExK.mk' ?a ?b ?c ?d ?e ?f
   (case a=>k_is); (case b=>k_is); (case c=>k_is); (case d=>k_is); (case e=>k_is); (case f=>rfl)
  have c73:L2.ExCls (L2.KOf KX) 73 none:=by
   apply L2.exc_of_in
   dsimp only [L2.KOf,L2.veB]
   k_exc
  have m85:mg "Unlike" = some (.ref 85):=by
   apply PySem.W.mg_of KX G
   k_is
  have k85:L2.ExK (L2.KOf KX) 85:=by
   dsimp only [L2.KOf]
   refine' L2.ExK.mk' ?a ?b ?c ?d ?e ?f
   (case a=>k_is); (case b=>k_is); (case c=>k_is); (case d=>k_is); (case e=>k_is); (case f=>rfl)
  have c85:L2.ExCls (L2.KOf KX) 85 none:=by
   apply L2.exc_of_in
   dsimp only [L2.KOf,L2.veB]
   k_exc
  have m104:mg "NoDrawing" = some (.ref 104):=by
   apply PySem.W.mg_of KX G
   k_is
  have k104:L2.ExK (L2.KOf KX) 104:=by
   dsimp only [L2.KOf]
   refine' L2.ExK.mk' ?a ?b ?c ?d ?e ?f
   (case a=>k_is); (case b=>k_is); (case c=>k_is); (case d=>k_is); (case e=>k_is); (case f=>rfl)
  have m123:mg "NoGap" = some (.ref 123):=by
   apply PySem.W.mg_of KX G
   k_is
  have k123:L2.ExK (L2.KOf KX) 123:=by
   dsimp only [L2.KOf]
   refine' L2.ExK.mk' ?a ?b ?c ?d ?e ?f
   (case a=>k_is); (case b=>k_is); (case c=>k_is); (case d=>k_is); (case e=>k_is); (case f=>rfl)
  have m142:mg "NoOffer" = some (.ref 142):=by
   apply PySem.W.mg_of KX G
   k_is
  have k142:L2.ExK (L2.KOf KX) 142:=by
   dsimp only [L2.KOf]
   refine' L2.ExK.mk' ?a ?b ?c ?d ?e ?f
   (case a=>k_is); (case b=>k_is); (case c=>k_is); (case d=>k_is); (case e=>k_is); (case f=>rfl)
  have m161:mg "NoText" = some (.ref 161):=by
   apply PySem.W.mg_of KX G
   k_is
  have k161:L2.ExK (L2.KOf KX) 161:=by
   dsimp only [L2.KOf]
   refine' L2.ExK.mk' ?a ?b ?c ?d ?e ?f
   (case a=>k_is); (case b=>k_is); (case c=>k_is); (case d=>k_is); (case e=>k_is); (case f=>rfl)
  have m180:mg "TooGreat" = some (.ref 180):=by
   apply PySem.W.mg_of KX G
   k_is
  have k180:L2.ExK (L2.KOf KX) 180:=by
   dsimp only [L2.KOf]
   refine' L2.ExK.mk' ?a ?b ?c ?d ?e ?f
   (case a=>k_is); (case b=>k_is); (case c=>k_is); (case d=>k_is); (case e=>k_is); (case f=>rfl)
  have sp:L2.SpK (L2.KOf KX):=by
   dsimp only [L2.KOf]
   refine' ⟨?a,?b⟩
   (case a=>k_is); (case b=>k_is)
  have i37:∃ ini,L2.ExCls (L2.KOf KX) 37 ini:=⟨_,c37⟩
  have i49:∃ ini,L2.ExCls (L2.KOf KX) 49 ini:=⟨_,c49⟩
  have i61:∃ ini,L2.ExCls (L2.KOf KX) 61 ini:=⟨_,c61⟩
  have i73:∃ ini,L2.ExCls (L2.KOf KX) 73 ini:=⟨_,c73⟩
  have i85:∃ ini,L2.ExCls (L2.KOf KX) 85 ini:=⟨_,c85⟩
  have i104:∃ ini,L2.ExCls (L2.KOf KX) 104 ini:=by
   apply Exists.intro
   refine' L2.exc_ofI ?l ?o ?s ?i c24
   (case l=>dsimp only [L2.KOf]; k_is); (case o=>dsimp only [L2.KOf]; k_is); (case s=>rfl); (case i=>dsimp only [L2.KOf]; k_is)
  have i123:∃ ini,L2.ExCls (L2.KOf KX) 123 ini:=by
   apply Exists.intro
   refine' L2.exc_ofI ?l ?o ?s ?i c24
   (case l=>dsimp only [L2.KOf]; k_is); (case o=>dsimp only [L2.KOf]; k_is); (case s=>rfl); (case i=>dsimp only [L2.KOf]; k_is)
  have i142:∃ ini,L2.ExCls (L2.KOf KX) 142 ini:=by
   apply Exists.intro
   refine' L2.exc_ofI ?l ?o ?s ?i c24
   (case l=>dsimp only [L2.KOf]; k_is); (case o=>dsimp only [L2.KOf]; k_is); (case s=>rfl); (case i=>dsimp only [L2.KOf]; k_is)
  have i161:∃ ini,L2.ExCls (L2.KOf KX) 161 ini:=by
   apply Exists.intro
   refine' L2.exc_ofI ?l ?o ?s ?i c24
   (case l=>dsimp only [L2.KOf]; k_is); (case o=>dsimp only [L2.KOf]; k_is); (case s=>rfl); (case i=>dsimp only [L2.KOf]; k_is)
  have i180:∃ ini,L2.ExCls (L2.KOf KX) 180 ini:=by
   apply Exists.intro
   refine' L2.exc_ofI ?l ?o ?s ?i c24
   (case l=>dsimp only [L2.KOf]; k_is); (case o=>dsimp only [L2.KOf]; k_is); (case s=>rfl); (case i=>dsimp only [L2.KOf]; k_is)
  have n180_many:L2.NoAttr (L2.KOf KX) 180 "many":=by
   unfold L2.NoAttr
   dsimp only [L2.KOf]
   k_is
  have n180_most:L2.NoAttr (L2.KOf KX) 180 "most":=by
   unfold L2.NoAttr
   dsimp only [L2.KOf]
   k_is
  have e180:L2.ExI (L2.KOf KX) 180:=by
   refine' ⟨k180,?b,?c⟩
   (case b=>dsimp only [L2.KOf]; k_is); (case c=>dsimp only [L2.KOf]; k_is)
  have r180:L2.XI (L2.KOf KX) 180 ["many","most"] "TooGreat.__init__" My.s_I_TooGreat:=by
   refine' L2.XI.mk' ?l ?o ?s ?i c24 ?t ?f ?c ?k ?b ?kc k180 e180.hd e180.sa ?na
   (case l=>dsimp only [L2.KOf]; k_is); (case o=>dsimp only [L2.KOf]; k_is); (case s=>rfl); (case i=>dsimp only [L2.KOf]; k_is); (case t=>dsimp only [L2.KOf]; k_is); (case f=>dsimp only [L2.KOf]; k_is); (case c=>dsimp only [L2.KOf]; k_is); (case k=>dsimp only [L2.KOf]; k_is); (case b=>exact fun _ _ _ _ _ _ us hl=>match us,hl with | [_,_,_],_=>rfl); (case kc=>dsimp only [L2.KOf]; k_is)
   (case na=>intro a m; simp only [List.mem_cons,List.not_mem_nil,or_false] at m; rcases m with rfl | rfl <;> assumption)
  have ex:L2.Exs (L2.KOf KX):=by
   refine ⟨sp,fun C m=>?_,fun C m=>?_,fun C m=>?_⟩
   ·simp only [L2.excs,List.mem_cons,List.not_mem_nil,or_false] at m
    rcases m with rfl | rfl | rfl | rfl | rfl | rfl | rfl | rfl | rfl | rfl <;> assumption
   ·simp only [L2.exc0,List.mem_cons,List.not_mem_nil,or_false] at m
    rcases m with rfl | rfl | rfl | rfl | rfl <;> assumption
   ·simp only [L2.excs,List.mem_cons,List.not_mem_nil,or_false] at m
    rcases m with rfl | rfl | rfl | rfl | rfl | rfl | rfl | rfl | rfl | rfl <;> assumption
  have xx:My.Exx (L2.KOf KX) mg:=⟨ex,m24,m37,m49,m61,m73,m85,m104,m123,m142,m161,m180,c24,c37,c49,c61,c73,c85,r180⟩
  have dd:My.Dds (L2.KOf KX) mg:=⟨d_law_cell_at,d_law_all,d_law_worth,d_law_keeps,d_size_of,d_plus,d_multiplied,d_span_of,d_reach_of_terms,d_reach,d_with_part,d_tallies_of,d_is_whole,d_is_set,d_worth_of,d_keeps,d_worth_of_beginning,d_kept_behind,d_kept_ahead,d_number_of,d_number_at,d_nth,d_law_kind,d_law_refused,d_law_whole,d_law_tuple,d_law_right,d_law_pen,d_law_next,d_law_draw,d_law_names,d_law_number,d_law_few,d_law_terms,d_law_ends,d_law_gap⟩
  obtain ⟨f,fd,F,hm,_⟩:=d_law.ex
  have e0:=hmg.symm.trans hm
  cases e0
  exact ⟨fd,F.bind1 fun _ _ _ _ _ _ _=>rfl,fun base _ _=>My.ok_law F T dd xx⟩
#print axioms PySem.Challenge.cw_gaugewright_k29_sets_counted_holds
end