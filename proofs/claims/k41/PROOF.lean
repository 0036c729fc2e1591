import PyProof.Rows.All
import Wide.All
import OpenK.AllK
import Wide.FinOn
import Lean
import PyProof.EqAt
import PyProof.EqKinds
import PyProof.TupleCall
import KE.KTupSum
import KE.KSortTup
import PyProof.SetKind
import PyProof.SetRoads
import PyProof.SetNew
import PyProof.DictKinds
import PyProof.NsDelKeeps
import PyProof.StrWalks
import KE.KEqDict
import KE.KDictList
import PyProof.AttrMissSeq
import PyProof.WalksMore
import KE.KDictOf
import PyProof.Rows.Range3
import KE.KItemsList
import PyProof.FactsAll.dict_3
import KE.KMinKey
import PyProof.Rows.CallKwBuiltin
import PyProof.TupleOfSeq
import KE.KLam
import KE.KNestM
import PySem.Challenge.RW_gaugewright_k41_whole_narrower_is_safer
set_option Elab.async false
set_option linter.all false
set_option maxRecDepth 100000
set_option maxHeartbeats 8000000
noncomputable section
namespace L2
open PySem PySem.Spec PyProof.Rows
section
abbrev Key:=Sum Int Str
def zkC:Key->Value->Bool
 | .inl k,v=>Value.isInt k v
 | .inr x,v=>Value.isStrOf x v
def ztk (w:World):Key->Int
 | .inl k=>hashInt k
 | .inr x=>hashStr w x
theorem za0:∀ {k:Key} {v:Value},zkC k v = true->(∃ i t,k = Sum.inl i/\v = Value.int i t)\/(∃ x t,k = Sum.inr x/\v = Value.str x t)
 | .inl i,v,h=>by
  obtain ⟨t,e⟩:=Value.isInt_shape (k:=i) (v:=v) h
  exact .inl ⟨i,t,rfl,e⟩
 | .inr x,v,h=>by
  obtain ⟨t,e⟩:=Value.isStrOf_shape (x:=x) (v:=v) h
  exact .inr ⟨x,t,rfl,e⟩
theorem zlV (i:Int) (t:Tok):zkC (.inl i) (.int i t) = true:=by simp [zkC,Value.isInt]
theorem zlq (x:Str) (t:Tok):zkC (.inr x) (.str x t) = true:=by simp [zkC,Value.isStrOf]
theorem zqw (a b:Int):decide ((Sum.inl a:Key) = Sum.inl b) = (a == b):=by
 by_cases e:a = b
 ·subst e; simp
 ·have h:¬ (Sum.inl a:Key) = Sum.inl b:=fun q=>e (Sum.inl.inj q)
  rw [decide_eq_false h]
  exact (beq_eq_false_iff_ne.mpr e).symm
theorem zrw (a b:Str):decide ((Sum.inr a:Key) = Sum.inr b) = decide (a = b):=by
 by_cases e:a = b
 ·subst e; simp
 ·have h:¬ (Sum.inr a:Key) = Sum.inr b:=fun q=>e (Sum.inr.inj q)
  rw [decide_eq_false h,decide_eq_false e]
theorem zra (a:Int) (b:Str):decide ((Sum.inl a:Key) = Sum.inr b) = false:=decide_eq_false (fun q=>nomatch q)
theorem zqR (a:Str) (b:Int):decide ((Sum.inr a:Key) = Sum.inl b) = false:=decide_eq_false (fun q=>nomatch q)
def zbK (prog:Program) (w:World):PySem.KeyKind prog w Key where
 is:=zkC
 hash:=ztk w
 inj:=fun v a b ha hb=>by
  rcases za0 ha with ⟨i,t,rfl,rfl⟩ | ⟨x,t,rfl,rfl⟩
  ·rcases za0 hb with ⟨j,u,rfl,e⟩ | ⟨y,u,rfl,e⟩
   ·injection e with e1 _; rw [e1]
   ·exact nomatch e
  ·rcases za0 hb with ⟨j,u,rfl,e⟩ | ⟨y,u,rfl,e⟩
   ·exact nomatch e
   ·injection e with e1 _; rw [e1]
 byValue:=fun k v h=>by
  rcases za0 h with ⟨i,t,rfl,rfl⟩ | ⟨x,t,rfl,rfl⟩ <;> rfl
 pyHash:=fun hv h=>by
  rcases za0 hv with ⟨i,t,rfl,rfl⟩ | ⟨x,t,rfl,rfl⟩
  ·exact wpAny_pyHash_int h
  ·exact wpAny_pyHash_str h
 eqBool:=fun hu hv h=>by
  rcases za0 hu with ⟨i,t,rfl,rfl⟩ | ⟨x,t,rfl,rfl⟩
  ·rcases za0 hv with ⟨j,u,rfl,rfl⟩ | ⟨y,u,rfl,rfl⟩
   ·rw [zqw] at h; exact wpAny_eqBool_int h
   ·rw [zra] at h; exact SeqAt.EqAt.int_str i t y u _ _ _ _ h
  ·rcases za0 hv with ⟨j,u,rfl,rfl⟩ | ⟨y,u,rfl,rfl⟩
   ·rw [zqR] at h; exact SeqAt.EqAt.str_int x t j u _ _ _ _ h
   ·rw [zrw] at h; exact wpAny_eqBool_str h
 «strs»:=fun k x t v h=>by
  rcases za0 h with ⟨i,u,rfl,e⟩ | ⟨y,u,rfl,e⟩
  ·exact nomatch e
  ·injection e with e1 _
   subst e1
   cases v <;> rfl
theorem zi6 (prog:Program) (w:World) (i:Int) (t:Tok):(zbK prog w).is (.inl i) (.int i t) = true:=zlV i t
theorem zjq (prog:Program) (w:World) (x:Str) (t:Tok):(zbK prog w).is (.inr x) (.str x t) = true:=zlq x t
end
section
inductive V where
 | non | bl (b:Bool) | int (i:Int) | str (x:Str) | byt (b:Array UInt8) | flt (b:UInt64) | ref (a:Addr) | ty (n:String)
 deriving DecidableEq
def RelV:V->Value->Prop
 | .non,u=>u = Value.none
 | .bl b,u=>u = Value.bool b
 | .int i,u=>∃ t,u = Value.int i t
 | .str x,u=>∃ t,u = Value.str x t
 | .byt b,u=>∃ t,u = Value.bytes b t
 | .flt b,u=>∃ t,u = Value.float b t
 | .ref a,u=>u = Value.ref a
 | .ty n,u=>u = Value.type n
abbrev Vals:List V->List Value->Prop:=Paired RelV
theorem Vals.length {xs:List V} {us:List Value} (r:Vals xs us):xs.length = us.length:=Paired.length r
theorem Vals.get:∀ {xs:List V} {us:List Value} {i:Nat} {x:V},Vals xs us->xs[i]? = some x->∃ u,us[i]? = some u/\RelV x u
 | _,_,_,_,.nil,e=>by simp at e
 | _,_,0,_,.cons r _,e=>by simp at e; subst e; exact ⟨_,rfl,r⟩
 | _,_,i + 1,x,.cons _ t,e=>by
  obtain ⟨u,h1,h2⟩:=Vals.get (i:=i) (x:=x) t (by simpa using e)
  exact ⟨u,by simpa using h1,h2⟩
theorem Vals.set {x:V} {u:Value} (r:RelV x u):∀ {xs:List V} {us:List Value} (i:Nat),Vals xs us->Vals (xs.set i x) (us.set i u)
 | _,_,_,.nil=>.nil
 | _,_,0,.cons _ t=>.cons r t
 | _,_,i + 1,.cons q t=>.cons q (Vals.set r i t)
theorem Vals.append:∀ {xs ys:List V} {us ws:List Value},Vals xs us->Vals ys ws->Vals (xs ++ ys) (us ++ ws)
 | _,_,_,_,.nil,s=>s
 | _,_,_,_,.cons r t,s=>.cons r (Vals.append t s)
theorem Vals.take:∀ {xs:List V} {us:List Value} (n:Nat),Vals xs us->Vals (xs.take n) (us.take n)
 | _,_,0,_=>.nil
 | _,_,_ + 1,.nil=>.nil
 | _,_,n + 1,.cons r t=>.cons r (Vals.take n t)
theorem Vals.drop:∀ {xs:List V} {us:List Value} (n:Nat),Vals xs us->Vals (xs.drop n) (us.drop n)
 | _,_,0,r=>r
 | _,_,_ + 1,.nil=>.nil
 | _,_,n + 1,.cons _ t=>Vals.drop n t
def RelO:Option V->Option Value->Prop
 | some v,some u=>RelV v u
 | none,none=>True
 | _,_=>False
def KV {κ:Type}:List (κ × V)->List (κ × Value)->Prop:=Paired fun (p:κ × V) (q:κ × Value)=>p.1 = q.1/\RelV p.2 q.2
def kV:Key->V
 | .inl i=>.int i
 | .inr x=>.str x
inductive HO where
 | lst (xs:List V)
 | tup (xs:List V)
 | dK (kvs:List (Key × V)) | dT (kvs:List (List Key × V))
 | set (S:Int->Bool) (n:Nat)
 | ins (C dx:Addr) (fs:List (Str × V))
 | own (x:Addr)
 | xd (fs:List (Str × V))
 | met (f x:Addr)
 | rng (lo hi:Int)
 | frz (o:Obj) (u:HO)
 | tbl (ps:Array Value)
 | ext (φ:Heap->Prop)
abbrev Hp:=Addr->Option HO
def upd (H:Hp) (a:Addr) (o:HO):Hp:=fun b=>if b = a then some o else H b
theorem zav {H:Hp} {a:Addr} {o:HO}:upd H a o a = some o:=by unfold upd; rw [if_pos rfl]
theorem zS {H:Hp} {a b:Addr} {o:HO} (h:b ≠ a):upd H a o b = H b:=by unfold upd; rw [if_neg h]
theorem zsm {H:Hp} {a b:Addr} {o u:HO} (h:H a = some o) (h':H b = some u) (d:o ≠ u):a ≠ b:=by
 intro e; subst e; rw [h] at h'; exact d (Option.some.inj h')
theorem zO {H:Hp} {a b:Addr} {o:HO} (h:H a = some o) (h':H b = none):a ≠ b:=by
 intro e; subst e; rw [h] at h'; cases h'
def TblOk (H:Hp) (ps qs:Array Value):Prop:=qs = #[]\/∃ (l c:Value) (q:Str) (t:Tok) (k:Addr) (oc:Obj) (vs:Array Value) (t':Tok),ps = #[l,c,.str q t]/\qs = #[l,c,.ref k]/\H k = some (.frz oc (.own 0))/\oc.data = .fields vs/\vs[1]? = some (.str q t')
theorem TblOk.stay {H H':Hp} {ps qs:Array Value} (x:TblOk H ps qs) (hf:∀ b o u,H b = some (.frz o u)->H' b = some (.frz o u)):TblOk H' ps qs:=by
 rcases x with x | ⟨l,c,q,t,k,oc,vs,t',e1,e2,e3,r⟩
 ·exact .inl x
 ·exact .inr ⟨l,c,q,t,k,oc,vs,t',e1,e2,hf _ _ _ e3,r⟩
section
variable (P:Program) (w:World)
def ObjOk (H:Hp) (h:Heap) (a:Addr):HO->Prop
 | .lst xs=>xs.length <= sizeLine/\∃ (its:List Value) (n:Nat),Vals xs its/\h.get? a = some { cls:=.type "list",data:=.seq its.toArray n }
 | .tup xs=>(xs.length <= sizeLine/\∃ o:Obj,h.get? a = some o/\o.dict = none)/\∃ its:List Value,Vals xs its/\IsTup h a its.toArray
 | .dK kvs=>kvs.length <= sizeLine/\(a == sysModules) = false/\∃ vs,KV kvs vs/\h.DictOf (zbK P w) a vs
 | .dT kvs=>kvs.length <= sizeLine/\(a == sysModules) = false/\∃ xs:List (List Key × Addr × Value),
   Paired (fun (p:List Key × V) (q:List Key × Addr × Value)=>p.1 = q.1/\H q.2.1 = some (.tup (p.1.map kV))/\RelV p.2 q.2.2) kvs xs /\
   ∃ o es ep,h.get? a = some o/\o.ExactDict/\o.data = .dict es ep/\es.toList = xs.map (entryOfKey (tupleKind (zbK P w)))/\(xs.map (·.1)).Nodup
 | .set S n=>h.SetOf (intKind P w) a S n
 | .ins C dx fs=>H dx = some (.own a)/\fs.length <= 1000/\dx ≠ a/\h.get? a = some (PySem.W.instObj C dx) /\
   ∃ mA,h.Ns1 dx mA/\(∀ f,RelO (fs.lookup f) (mA f))/\PySem.Within mA (fs.map (·.1))
 | .own _=>∃ o,h.get? a = some o
 | .xd fs=>∃ mA,h.Ns1 a mA/\∀ f,RelO (fs.lookup f) (mA f)
 | .rng lo hi=>∃ t u v,h.get? a = some { cls:=.type "range",data:=.fields #[.int lo t,.int hi u,.int 1 v] }
 | .frz o u=>h.get? a = some o/\ObjOk H h a u
 | .tbl ps=>∃ qs:Array Value,h.get? a = some { cls:=.none,data:=.fields qs }/\TblOk H ps qs
 | .met f x=>h.get? a = some (PySem.W.methodObj (.ref f) (.ref x))
 | .ext φ=>φ h/\(∃ o,h.get? a = some o)/\∀ h1 h2:Heap,φ h1->(∀ o,h1.get? a = some o->h2.get? a = some o)->φ h2
def HOk (H:Hp) (h:Heap):Prop:=∀ a o,H a = some o->ObjOk P w H h a o
end
section
variable {P:Program} {w:World} {H H':Hp} {h h':Heap} {a:Addr} {o:HO}
theorem ObjOk.lt (x:ObjOk P w H h a o):a < h.objs.size:=by
 cases o with
 | lst xs=>obtain ⟨_,_,_,_,e⟩:=x; exact Heap.lt_size e
 | tup xs=>obtain ⟨_,_,_,p⟩:=x; exact p.lt
 | dK kvs=>obtain ⟨_,_,_,_,o,_,_,e,_⟩:=x; exact Heap.lt_size e
 | dT kvs=>obtain ⟨_,_,_,_,o,_,_,e,_⟩:=x; exact Heap.lt_size e
 | set S n=>obtain ⟨o,_,_,_,e,_⟩:=x; exact Heap.lt_size e
 | ins C dx fs=>obtain ⟨_,_,_,e,_⟩:=x; exact Heap.lt_size e
 | own y=>obtain ⟨_,e⟩:=x; exact Heap.lt_size e
 | xd fs=>obtain ⟨_,⟨_,_,_,e,_⟩,_⟩:=x; exact Heap.lt_size e
 | rng lo hi=>obtain ⟨_,_,_,e⟩:=x; exact Heap.lt_size e
 | frz ob u=>obtain ⟨e,_⟩:=x; exact Heap.lt_size e
 | tbl ps=>obtain ⟨_,e,_⟩:=x; exact Heap.lt_size e
 | met f y=>exact Heap.lt_size (show h.get? a = some _ from x)
 | ext φ=>obtain ⟨_,⟨_,e⟩,_⟩:=x; exact Heap.lt_size e
theorem Paired.mapP {α β:Type} {F G:α->β->Prop}:∀ {l₁:List α} {l₂:List β},Paired F l₁ l₂->(∀ a b,F a b->G a b)->Paired G l₁ l₂
 | _,_,.nil,_=>.nil
 | _,_,.cons r t,f=>.cons (f _ _ r) (Paired.mapP t f)
theorem ObjOk.stay (x:ObjOk P w H h a o) (k:∀ b u,(b = a\/H b = some (.own a))->h.get? b = some u->h'.get? b = some u)
  (ho:∀ b,H b = some (.own a)->H' b = some (.own a)) (ht:∀ b xs,H b = some (.tup xs)->H' b = some (.tup xs))
  (hf:∀ b o u,H b = some (.frz o u)->H' b = some (.frz o u):=by first | exact fun _ _ _ q=>q | (intro b o u q; rw [zS (zO q (by assumption))]; exact q)):ObjOk P w H' h' a o:=by
 induction o with
 | lst xs=>obtain ⟨z,its,n,r,e⟩:=x; exact ⟨z,its,n,r,k _ _ (.inl rfl) e⟩
 | tup xs=>obtain ⟨⟨z,o2,e2,d2⟩,its,r,ob,e,c⟩:=x; exact ⟨⟨z,o2,k _ _ (.inl rfl) e2,d2⟩,its,r,ob,k _ _ (.inl rfl) e,c⟩
 | dK kvs=>obtain ⟨z,y,vs,r,ob,es,ep,e,c⟩:=x; exact ⟨z,y,vs,r,ob,es,ep,k _ _ (.inl rfl) e,c⟩
 | dT kvs =>
  obtain ⟨z,y,xs,r,ob,es,ep,e,c⟩:=x
  exact ⟨z,y,xs,Paired.mapP r fun p q z=>⟨z.1,ht _ _ z.2.1,z.2.2⟩,ob,es,ep,k _ _ (.inl rfl) e,c⟩
 | set S n=>obtain ⟨ob,es,ep,t,e,c⟩:=x; exact ⟨ob,es,ep,t,k _ _ (.inl rfl) e,c⟩
 | ins C dx fs =>
  obtain ⟨d,z,ne,e,mA,⟨od,es,ep,e2,c⟩,r⟩:=x
  exact ⟨ho _ d,z,ne,k _ _ (.inl rfl) e,mA,⟨od,es,ep,k _ _ (.inr d) e2,c⟩,r⟩
 | own y=>obtain ⟨ob,e⟩:=x; exact ⟨ob,k _ _ (.inl rfl) e⟩
 | xd fs=>obtain ⟨mA,⟨od,es,ep,e,c⟩,r⟩:=x; exact ⟨mA,⟨od,es,ep,k _ _ (.inl rfl) e,c⟩,r⟩
 | rng lo hi=>obtain ⟨t,u,v,e⟩:=x; exact ⟨t,u,v,k _ _ (.inl rfl) e⟩
 | frz ob u ih=>obtain ⟨e,q⟩:=x; exact ⟨k _ _ (.inl rfl) e,ih q⟩
 | tbl ps =>
  obtain ⟨qs,e,q⟩:=x
  exact ⟨qs,k a _ (.inl rfl) e,q.stay hf⟩
 | met f y =>
  have e:h.get? a = some (PySem.W.methodObj (.ref f) (.ref y)):=x
  show h'.get? a = some (PySem.W.methodObj (.ref f) (.ref y))
  exact k a _ (.inl rfl) e
 | ext φ=>obtain ⟨p,⟨o,e⟩,st⟩:=x; exact ⟨st _ _ p fun o q=>k _ _ (.inl rfl) q,⟨o,k _ _ (.inl rfl) e⟩,st⟩
theorem HOk.lt (x:HOk P w H h) (e:H a = some o):a < h.objs.size:=(x a o e).lt
theorem HOk.fresh (x:HOk P w H h) (e:h.objs.size <= a):H a = none:=by
 cases q:H a with
 | none=>rfl
 | some u=>exact absurd (Nat.lt_of_lt_of_le (x.lt q) e) (Nat.lt_irrefl _)
theorem HOk.kept (x:HOk P w H h) (k:∀ b u,h.get? b = some u->h'.get? b = some u):HOk P w H h':=fun a o e =>
 (x a o e).stay (fun b u _ q=>k b u q) (fun _ q=>q) fun _ _ q=>q
theorem HOk.laid (x:HOk P w H h) (k:∀ b u,h.get? b = some u->h'.get? b = some u) (hp:h.objs.size <= a) (new:ObjOk P w (upd H a o) h' a o):HOk P w (upd H a o) h':=fun b u e=>by
 have hn:=x.fresh hp
 by_cases hb:b = a
 ·subst hb; rw [zav] at e; cases e; exact new
 ·rw [zS hb] at e
  exact (x b u e).stay (fun c v _ q=>k c v q) (fun c q=>by rw [zS (zO q hn)]; exact q) fun c xs q=>by rw [zS (zO q hn)]; exact q
end
def Rd (H:Hp) (a:Addr) (u:HO):Prop:=H a = some u\/∃ o,H a = some (.frz o u)
theorem Rd.ok {P:Program} {w:World} {H:Hp} {h:Heap} {a:Addr} {u:HO} (r:Rd H a u) (x:HOk P w H h):ObjOk P w H h a u:=by
 rcases r with r | ⟨o,r⟩
 ·exact x a u r
 ·obtain ⟨_,q⟩:=x a _ r
  exact q
def Mut:Option HO->Prop
 | some (.lst _)=>True
 | some (.dK _)=>True
 | some (.dT _)=>True
 | some (.set _ _)=>True
 | some (.ins _ _ _)=>True
 | some (.ext _)=>True
 | _=>False
section
variable {P:Program} {w:World} {H:Hp} {h h':Heap} {x e:Addr} {o':HO}
theorem HOk.write (ok:HOk P w H h) (mu:Mut (H x)) (he:e = x\/H e = some (.own x)) (k:∀ b u,b ≠ e->h.get? b = some u->h'.get? b = some u) (heo:∃ u,h'.get? e = some u)
  (new:ObjOk P w (upd H x o') h' x o'):HOk P w (upd H x o') h':=fun b u q=>by
 have nown:∀ c y,H c = some (.own y)->c ≠ x:=fun c y r z=>by subst z; rw [r] at mu; exact mu
 have ntup:∀ c xs,H c = some (.tup xs)->c ≠ x:=fun c xs r z=>by subst z; rw [r] at mu; exact mu
 have nfrz:∀ c o u,H c = some (.frz o u)->c ≠ x:=fun c o u r z=>by subst z; rw [r] at mu; exact mu
 by_cases hb:b = x
 ·subst hb; rw [zav] at q; cases q; exact new
 ·rw [zS hb] at q
  by_cases hbe:b = e
  ·have q':H b = some (.own x):=by
    rcases he with z | z
    ·exact absurd (hbe.trans z) hb
    ·rw [hbe]; exact z
   rw [q] at q'; cases q'
   obtain ⟨v,hv⟩:=heo
   exact ⟨v,by rw [hbe]; exact hv⟩
  ·refine (ok b u q).stay (fun c v hc r=>k c v ?_ r) (fun c r=>by rw [zS (nown c b r)]; exact r) (fun c xs r=>by rw [zS (ntup c xs r)]; exact r) fun c o u r=>by rw [zS (nfrz c o u r)]; exact r
   rcases hc with rfl | hc
   ·exact hbe
   ·rintro rfl
    rcases he with z | z
    ·exact nown c b hc z
    ·rw [hc] at z; cases z; exact hb rfl
end
structure Un (fs ex:List Addr) (H H':Hp) (h h':Heap):Prop where
 keep:∀ b o,h.get? b = some o->H b = none->b ∉ fs->b ∉ ex->h'.get? b = some o
 slot:∀ b o,h.get? b = some o->H b = none->b ∈ fs->b ∉ ex->∃ sl,h'.get? b = some { o with slots:=sl }
 free:∀ b o,h.get? b = some o->H b = none->b ∉ ex->H' b = none
 there:∀ b o,h.get? b = some o->b ∉ ex->∃ o',h'.get? b = some o'
 tups:∀ b xs,H b = some (.tup xs)->H' b = some (.tup xs)
 frzs:∀ b o u,H b = some (.frz o u)->H' b = some (.frz o u)
 tbls:∀ b ps,H b = some (.tbl ps)->H' b = some (.tbl ps)
section
variable {fs fs' ex ex':List Addr} {H H1 H2:Hp} {h h1 h2 h':Heap} {a x e:Addr} {o:HO}
theorem Un.any (u:Un fs ex H H1 h h1) {b:Addr} {ob:Obj} (q:h.get? b = some ob) (n:H b = none) (hx:b ∉ ex):∃ sl,h1.get? b = some { ob with slots:=sl }:=by
 by_cases hb:b ∈ fs
 ·exact u.slot b ob q n hb hx
 ·exact ⟨ob.slots,u.keep b ob q n hb hx⟩
theorem Un.trans (a:Un fs ex H H1 h h1) (b:Un fs ex H1 H2 h1 h2):Un fs ex H H2 h h2 where
 keep:=fun c ob q n hc hx=>b.keep c ob (a.keep c ob q n hc hx) (a.free c ob q n hx) hc hx
 slot:=fun c ob q n hc hx=>by
  obtain ⟨sl,e1⟩:=a.slot c ob q n hc hx
  obtain ⟨sl',e2⟩:=b.slot c _ e1 (a.free c ob q n hx) hc hx
  exact ⟨sl',e2⟩
 free:=fun c ob q n hx=>by
  obtain ⟨o',e1⟩:=a.there c ob q hx
  exact b.free c o' e1 (a.free c ob q n hx) hx
 there:=fun c ob q hx=>by
  obtain ⟨o',e1⟩:=a.there c ob q hx
  exact b.there c o' e1 hx
 tups:=fun c xs q=>b.tups c xs (a.tups c xs q)
 frzs:=fun c ob xs q=>b.frzs c ob xs (a.frzs c ob xs q)
 tbls:=fun c ps q=>b.tbls c _ (a.tbls c ps q)
theorem Un.kept (k:∀ b u,h.get? b = some u->h'.get? b = some u):Un fs ex H H h h' :=
 ⟨fun b ob q _ _ _=>k b ob q,fun b ob q _ _ _=>⟨ob.slots,k b ob q⟩,fun _ _ _ n _=>n,fun b ob q _=>⟨ob,k b ob q⟩,fun _ _ q=>q,fun _ _ _ q=>q,fun _ _ q=>q⟩
theorem Un.refl:Un fs ex H H h h:=Un.kept fun _ _ q=>q
theorem Un.laid (k:∀ b u,h.get? b = some u->h'.get? b = some u) (hp:h.objs.size <= a) (hn:H a = none):Un fs ex H (upd H a o) h h' where
 keep:=fun b u q _ _ _=>k b u q
 slot:=fun b u q _ _ _=>⟨u.slots,k b u q⟩
 free:=fun b u q n _=>by rw [zS (Nat.ne_of_lt (Nat.lt_of_lt_of_le (Heap.lt_size q) hp))]; exact n
 there:=fun b u q _=>⟨u,k b u q⟩
 tups:=fun b xs q=>by rw [zS (zO q hn)]; exact q
 frzs:=fun b u xs q=>by rw [zS (zO q hn)]; exact q
 tbls:=fun b ps q=>by rw [zS (zO q hn)]; exact q
theorem Un.write (mu:Mut (H x)) (he:e = x\/H e = some (.own x)) (k:∀ b u,b ≠ e->h.get? b = some u->h'.get? b = some u) (heo:∃ u,h'.get? e = some u):Un fs ex H (upd H x o) h h':=by
 have hx:∀ b,H b = none->b ≠ x:=fun b n z=>by subst z; rw [n] at mu; exact mu
 have hb:∀ b,H b = none->b ≠ e:=fun b n z=>by
  subst z
  rcases he with r | r
  ·exact hx b n r
  ·rw [n] at r; cases r
 have hm:∀ b u,H b = some u->¬ Mut (some u)->b ≠ x:=fun b u q nm z=>by subst z; rw [q] at mu; exact nm mu
 refine ⟨fun b u q n _ _=>k b u (hb b n) q,fun b u q n _ _=>⟨u.slots,k b u (hb b n) q⟩,fun b u q n _=>by rw [zS (hx b n)]; exact n,fun b u q _=>?_,
  fun b xs q=>by rw [zS (hm b _ q fun z=>z)]; exact q,fun b u xs q=>by rw [zS (hm b _ q fun z=>z)]; exact q,fun b ps q=>by rw [zS (hm b _ q fun z=>z)]; exact q⟩
 by_cases hbe:b = e
 ·subst hbe; exact heo
 ·exact ⟨u,k b u hbe q⟩
theorem Un.mono (u:Un fs ex H H1 h h1) (hs:∀ b ∈ fs,b ∈ fs') (hx:∀ b ∈ ex,b ∈ ex'):Un fs' ex' H H1 h h1 :=
 ⟨fun b ob q n hb he=>u.keep b ob q n (fun z=>hb (hs b z)) fun z=>he (hx b z),fun _ _ q n _ he=>u.any q n fun z=>he (hx _ z),fun b ob q n he=>u.free b ob q n fun z=>he (hx b z),fun b ob q he=>u.there b ob q fun z=>he (hx b z),u.tups,u.frzs,u.tbls⟩
end
def trk (h:Heap) (H:Hp):List Addr:=(List.range h.objs.size).filter fun a=>(H a).isSome
def znO (h:Heap) (H:Hp):Heap:=PySem.W.hideAll h (trk h H)
theorem zlB (h:Heap) (H:Hp):(znO h H).objs.size = h.objs.size:=PySem.W.hideAll_size _ _
theorem zni {h:Heap} {H:Hp} {b:Addr} {o:Obj} (e:h.get? b = some o) (n:H b = none):(znO h H).get? b = some o :=
 PySem.W.hideAll_get _ e fun hm=>by
  have q:(H b).isSome = true:=(List.mem_filter.mp hm).2
  rw [n] at q; simp at q
theorem zpx {h:Heap} {H:Hp} {b:Addr} {o:Obj} (e:(znO h H).get? b = some o):h.get? b = some o/\H b = none:=by
 have e':h.get? b = some o:=PySem.W.of_hideAll (trk h H) e
 refine ⟨e',?_⟩
 cases q:H b with
 | none=>rfl
 | some x =>
  have hm:b ∈ trk h H:=List.mem_filter.mpr ⟨List.mem_range.mpr (Heap.lt_size e'),by simp [q]⟩
  have z:(znO h H).get? b = none:=PySem.W.hideAll_none (trk h H) hm
  rw [z] at e; cases e
def zqc (g h:Heap) (L:Addr):List (Addr × Obj):=(List.range h.objs.size).filterMap fun a=>if a = L\/(g.get? a).isSome = true then none else (h.get? a).map fun o=>(a,o)
def rest (g h:Heap) (L d:Addr):List (Addr × Obj):=(zqc g h L).filter fun p=>decide (p.1 ≠ d)
end
section
def tabsG:List ((Addr × Addr) × Array Value):=[((177,175),#[rawInt ((90:Nat):Int),rawInt ((26:Nat):Int),.str (("cheapest" ++ ".<locals>.") ++ "<lambda>") 0])]
def BltAt (base:Heap) (mg:Str->Option Value):Prop:=∃ bm ob,mg "__builtins__" = some (.ref bm)/\bm ≠ builtinsNs/\base.get? bm = some ob/\ob.cls = .type "module"/\ob.dict = some builtinsNs/\ob.data = .plain
structure Frf (fs:List Addr) (H:Hp):Prop where
 free:∀ b ∈ fs,H b = none
 tab:∀ q ∈ tabsG,H q.1.2 = some (.tbl q.2)
structure Mod (K:W.Frag) (mg:Str->Option Value) (base:Heap):Prop where
 kin:K.In base
 glob:base.Ns mainGlobals mg
 blt:∃ mb,base.Ns builtinsNs mb/\∀ x:Str,x ≠ "__name__"->mb x = bootBuiltins x
 nolimit:base.NoLimit
 bm:BltAt base mg
 hd:∀ q ∈ tabsG,PySem.W.CodeHd base q.1.1 q.1.2
structure Cx where
 prog:Program
 w:World
 K:W.Frag
 mg:Str->Option Value
 base:Heap
 A:Around
 N:List Str
 s₀:Shared
 H₀:Hp
 env:Env
 outer:List Env
 stack:List Env
 ex:List Addr
 fn:Str->Bool
 calm:Bool
 pn:List (Addr × Obj)
 xe:Value->Shared->Prop
def frs (l:List Env):List Addr:=l.filterMap (·.frame)
abbrev Cx.fs (X:Cx):List Addr:=frs X.outer
def Vis (sc:Scope) (x:Str):Prop:=sc.names.lookup x = some .local\/sc.names.lookup x = some .cell\/sc.names.lookup x = some .free
def Loc (sc:Scope) (x:Str):Prop:=sc.names.lookup x = some .local\/sc.names.lookup x = some .cell
def Look (env:Env) (h:Heap) (m:Str->Option Value) (x:Str) (u:Value):Prop :=
 (env.kindOf x = some .local/\m x = some u)\/((env.kindOf x = some .cell\/env.kindOf x = some .free)/\∃ c,env.cells.lookup x = some c/\h.IsCell c (some u))
structure Cx.Ok (X:Cx):Prop where
 mod:Mod X.K X.mg X.base
 kind:X.env.scope.kind = .function
 glob:X.env.globals = mainGlobals
 blt:X.env.builtins = builtinsNs
 above:X.s₀.heap.objs.size <= X.env.locals
 inj:∀ x y c,X.env.cells.lookup x = some c->X.env.cells.lookup y = some c->x = y
 has:∀ x,(X.env.kindOf x = some .cell\/X.env.kindOf x = some .free)->∃ c,X.env.cells.lookup x = some c
 cab:∀ x c,X.fn x = true->X.env.cells.lookup x = some c->X.s₀.heap.objs.size <= c
 hd:X.calm = true->X.A.handled = none
 frames:X.A.frames = some X.stack
 stk:X.stack = X.outer\/(X.stack = X.env :: X.outer/\X.env.frame = some X.env.locals)
 exf:∀ b ∈ X.ex,b ≠ X.env.locals/\∀ x c,X.env.cells.lookup x = some c->c ≠ b
 bs:∀ b o,X.base.get? b = some o->X.s₀.heap.get? b = some o/\X.H₀ b = none
 bsz:X.base.objs.size <= X.s₀.heap.objs.size
 noex:∀ b o,X.base.get? b = some o->b ∉ X.ex
 exfs:∀ b ∈ X.ex,b ∉ X.fs
 funs:X.s₀.heap.FunFrames X.base X.outer
 frf:Frf X.fs X.H₀
structure Inv (X:Cx) (zm:List (Addr × Obj)) (σ:List (Option V)) (H:Hp) (s:Shared):Prop where
 ok:X.Ok
 os:s.os = X.s₀.os
 bare:AllBare s.gens
 base:Un X.fs X.ex X.H₀ H X.s₀.heap s.heap
 loc:∃ m,s.heap.Ns X.env.locals m/\∀ (i:Nat) (x:Str) (v:V),X.N[i]? = some x->σ[i]? = some (some v)->Vis X.env.scope x->∃ u,RelV v u/\Look X.env s.heap m x u
 cell:∀ x c,X.env.cells.lookup x = some c->∃ v,s.heap.IsCell c v
 free:H X.env.locals = none
 freeC:∀ x c,X.env.cells.lookup x = some c->H c = none
 pin:∀ p ∈ X.pn ++ zm,s.heap.get? p.1 = some p.2/\H p.1 = none/\p.1 ≠ X.env.locals/\p.1 ∉ X.fs/\∀ v,p.2.data ≠ .cell v
 hok:HOk X.prog X.w H s.heap
 len:σ.length = X.N.length
section
variable {X:Cx} {zm:List (Addr × Obj)} {σ:List (Option V)} {H H':Hp} {s:Shared} {h':Heap}
theorem Cx.Ok.nofr (ok:X.Ok) {b:Addr} {o:Obj} (e:X.base.get? b = some o):b ∉ X.fs:=fun hb=>by
 have:=(ok.funs.mem hb).1
 rw [e] at this; cases this
theorem Inv.bs (I:Inv X zm σ H s):∀ b o,X.base.get? b = some o->s.heap.get? b = some o/\H b = none:=fun b o e =>
 ⟨I.base.keep b o (I.ok.bs b o e).1 (I.ok.bs b o e).2 (I.ok.nofr e) (I.ok.noex b o e),I.base.free b o (I.ok.bs b o e).1 (I.ok.bs b o e).2 (I.ok.noex b o e)⟩
theorem Inv.bk (I:Inv X zm σ H s):∀ b o,X.base.get? b = some o->s.heap.get? b = some o:=fun b o e=>(I.bs b o e).1
theorem Inv.mod (I:Inv X zm σ H s):Mod X.K X.mg X.base:=I.ok.mod
theorem Inv.kIn (I:Inv X zm σ H s):X.K.In s.heap:=I.ok.mod.kin.keeps I.bk
theorem Inv.lt (I:Inv X zm σ H s):X.env.locals < s.heap.objs.size:=let ⟨_,hn,_⟩:=I.loc; hn.lt
theorem Inv.sz (I:Inv X zm σ H s):X.s₀.heap.objs.size <= s.heap.objs.size:=Nat.le_trans I.ok.above (Nat.le_of_lt I.lt)
theorem Inv.nofs (I:Inv X zm σ H s) {a:Addr} (h:s.heap.objs.size <= a):a ∉ X.fs:=fun hb=>by
 obtain ⟨_,o,ho,_⟩:=I.ok.funs.mem hb
 exact absurd (Nat.lt_of_lt_of_le (Heap.lt_size ho) (Nat.le_trans I.sz h)) (Nat.lt_irrefl _)
theorem Inv.cne (I:Inv X zm σ H s):∀ x c,X.env.cells.lookup x = some c->c ≠ X.env.locals:=fun x c e z=>by
 obtain ⟨v,o,ho,hd⟩:=I.cell x c e
 obtain ⟨m,⟨o',es,ep,ho',hd',_⟩,_⟩:=I.loc
 rw [z,ho'] at ho; cases ho; rw [hd'] at hd; cases hd
theorem Inv.funs (I:Inv X zm σ H s):s.heap.FunFrames X.base X.outer:=by
 have all:∀ (l:List Env),(∀ b ∈ frs l,b ∈ X.fs)->X.s₀.heap.FunFrames X.base l->s.heap.FunFrames X.base l:=by
  intro l
  induction l with
  | nil=>intro _ _; trivial
  | cons env r ih =>
   intro hs hl
   obtain ⟨hk,⟨L,o,hf,hn,ho,hd⟩,hr⟩:=hl
   have hL:L ∈ X.fs:=hs L (by unfold frs; rw [List.filterMap_cons,hf]; exact List.mem_cons_self)
   obtain ⟨sl,e⟩:=I.base.slot L o ho (I.ok.frf.free L hL) hL fun z=>I.ok.exfs L z hL
   exact ⟨hk,⟨L,_,hf,hn,e,hd⟩,ih (fun b hb=>hs b (by unfold frs; rw [List.filterMap_cons,hf]; exact List.mem_cons_of_mem _ hb)) hr⟩
 exact all X.outer (fun _ hb=>hb) I.ok.funs
theorem Inv.stack (I:Inv X zm σ H s):s.heap.FunFrames X.base X.stack:=by
 rcases I.ok.stk with e | ⟨e,hf⟩
 ·rw [e]; exact I.funs
 ·rw [e]
  obtain ⟨m,hn,_⟩:=I.loc
  refine .cons (by rw [I.ok.kind]; decide) hf hn ?_ I.funs
  exact Heap.get?_none_of_le (Nat.le_trans I.ok.bsz I.ok.above)
theorem Inv.stkSub (I:Inv X zm σ H s):∀ b ∈ frs X.stack,b ∈ X.env.locals :: X.fs:=fun b hb=>by
 rcases I.ok.stk with e | ⟨e,hf⟩
 ·rw [e] at hb; exact List.mem_cons_of_mem _ hb
 ·rw [e] at hb
  unfold frs at hb
  rw [List.filterMap_cons,hf] at hb
  exact hb
theorem Inv.stkFree (I:Inv X zm σ H s):Frf (frs X.stack) H:=⟨fun b hb=>by
 rcases List.mem_cons.mp (I.stkSub b hb) with e | hb
 ·rw [e]; exact I.free
 ·obtain ⟨_,o,ho,_⟩:=I.ok.funs.mem hb
  exact I.base.free b o ho (I.ok.frf.free b hb) fun z=>I.ok.exfs b z hb,fun q hq=>I.base.tbls _ _ (I.ok.frf.tab q hq)⟩
theorem Inv.step {g':Array GenState} {t':Nat} {d':Drawn} {ch:List Addr} (I:Inv X zm σ H s)
  (hch:∀ b ∈ ch,(b ∈ X.ex\/X.s₀.heap.objs.size <= b)/\b ≠ X.env.locals/\(∀ x c,X.env.cells.lookup x = some c->c ≠ b)/\∀ p ∈ X.pn ++ zm,p.1 ≠ b)
  (keep:∀ b o,b ≠ X.env.locals->b ∉ X.fs->b ∉ ch->s.heap.get? b = some o->H b = none->h'.get? b = some o)
  (slot:∀ b o,b ≠ X.env.locals->b ∈ X.fs->b ∉ ch->s.heap.get? b = some o->H b = none->∃ sl,h'.get? b = some { o with slots:=sl }) (free:∀ b o,b ∉ ch->s.heap.get? b = some o->H b = none->H' b = none)
  (there:∀ b o,b ∉ ch->s.heap.get? b = some o->∃ o',h'.get? b = some o')
  (tups:∀ b xs,H b = some (.tup xs)->H' b = some (.tup xs)) (frzs:∀ b o u,H b = some (.frz o u)->H' b = some (.frz o u)) (tbls:∀ b ps,H b = some (.tbl ps)->H' b = some (.tbl ps))
  (ns:∀ m,s.heap.Ns X.env.locals m->h'.Ns X.env.locals m) (hok:HOk X.prog X.w H' h') (hg:AllBare g') :
  Inv X zm σ H' { s with heap:=h',gens:=g',drawn:=d',toks:=t' }:=by
 have neL:∀ b o,X.s₀.heap.get? b = some o->b ≠ X.env.locals:=fun b o e=>Nat.ne_of_lt (Nat.lt_of_lt_of_le (Heap.lt_size e) I.ok.above)
 have neC:∀ b o,X.s₀.heap.get? b = some o->b ∉ X.ex->b ∉ ch:=fun b o e hx hb=>by
  rcases (hch b hb).1 with z | z
  ·exact hx z
  ·exact absurd (Nat.lt_of_lt_of_le (Heap.lt_size e) z) (Nat.lt_irrefl _)
 have cellK:∀ x c,X.env.cells.lookup x = some c->∀ v,s.heap.IsCell c v->h'.IsCell c v:=fun x c e v ⟨o,ho,hd⟩=>by
  have nch:c ∉ ch:=fun z=>(hch c z).2.2.1 x c e rfl
  by_cases hc:c ∈ X.fs
  ·obtain ⟨sl,q⟩:=slot c o (I.cne x c e) hc nch ho (I.freeC x c e)
   exact ⟨_,q,hd⟩
  ·exact ⟨o,keep c o (I.cne x c e) hc nch ho (I.freeC x c e),hd⟩
 refine ⟨I.ok,I.os,hg,⟨fun b o e n hb hx=>?_,fun b o e n hb hx=>?_,fun b o e n hx=>?_,fun b o e hx=>?_,fun b xs e=>tups b xs (I.base.tups b xs e),fun b o xs e=>frzs b o xs (I.base.frzs b o xs e),fun b ps e=>?_⟩,?_,fun x c e=>?_,?_,fun x c e=>?_,fun p hp=>?_,hok,I.len⟩
 ·exact keep b o (neL b o e) hb (neC b o e hx) (I.base.keep b o e n hb hx) (I.base.free b o e n hx)
 ·obtain ⟨sl,e1⟩:=I.base.slot b o e n hb hx
  obtain ⟨sl',e2⟩:=slot b _ (neL b o e) hb (neC b o e hx) e1 (I.base.free b o e n hx)
  exact ⟨sl',e2⟩
 ·obtain ⟨o',e1⟩:=I.base.there b o e hx
  exact free b o' (neC b o e hx) e1 (I.base.free b o e n hx)
 ·obtain ⟨o',e1⟩:=I.base.there b o e hx
  exact there b o' (neC b o e hx) e1
 ·exact tbls b _ (I.base.tbls b ps e)
 ·obtain ⟨m,hn,hl⟩:=I.loc
  refine ⟨m,ns m hn,fun i x v e1 e2 e3=>?_⟩
  obtain ⟨u,r,l⟩:=hl i x v e1 e2 e3
  refine ⟨u,r,?_⟩
  rcases l with l | ⟨k,c,e,z⟩
  ·exact .inl l
  ·exact .inr ⟨k,c,e,cellK x c e _ z⟩
 ·obtain ⟨v,z⟩:=I.cell x c e
  exact ⟨v,cellK x c e v z⟩
 ·obtain ⟨m,⟨o,_,_,ho,_⟩,_⟩:=I.loc
  exact free _ o (fun z=>(hch _ z).2.1 rfl) ho I.free
 ·obtain ⟨v,o,ho,hd⟩:=I.cell x c e
  exact free c o (fun z=>(hch c z).2.2.1 x c e rfl) ho (I.freeC x c e)
 ·obtain ⟨e,n,ne,nf,d⟩:=I.pin p hp
  have nch:p.1 ∉ ch:=fun z=>(hch p.1 z).2.2.2 p hp rfl
  exact ⟨keep p.1 p.2 ne nf nch e n,free p.1 p.2 nch e n,ne,nf,d⟩
theorem Inv.un {t':Nat} (I:Inv X zm σ H s) (u:Un X.fs [] H H' s.heap h') (hok:HOk X.prog X.w H' h'):Inv X zm σ H' { s with heap:=h',toks:=t' }:=by
 obtain ⟨m,⟨o,es,ep,ho,r⟩,_⟩:=id I.loc
 obtain ⟨sl,hL⟩:=u.any ho I.free (by simp)
 exact I.step (g':=s.gens) (d':=s.drawn) (ch:=[]) (fun _ z=>nomatch z) (fun b o _ hb _ e n=>u.keep b o e n hb (by simp)) (fun b o _ hb _ e n=>u.slot b o e n hb (by simp)) (fun b o _ e n=>u.free b o e n (by simp)) (fun b o _ e=>u.there b o e (by simp)) u.tups u.frzs u.tbls (fun m' hm=>by
  obtain ⟨o',es',ep',ho',r'⟩:=hm
  rw [ho] at ho'; cases ho'
  exact ⟨_,es',ep',hL,r'⟩) hok I.bare
theorem Inv.call {g':Array GenState} {t':Nat} {d':Drawn} {ch:List Addr} (I:Inv X zm σ H s) (u:Un (frs X.stack) ch H H' s.heap h') (hok:HOk X.prog X.w H' h') (hg:AllBare g')
  (hch:∀ b ∈ ch,(b ∈ X.ex\/X.s₀.heap.objs.size <= b)/\b ≠ X.env.locals/\(∀ x c,X.env.cells.lookup x = some c->c ≠ b)/\∀ p ∈ X.pn ++ zm,p.1 ≠ b) :
  Inv X zm σ H' { s with heap:=h',gens:=g',drawn:=d',toks:=t' }:=by
 obtain ⟨m,⟨o,es,ep,ho,r⟩,_⟩:=id I.loc
 obtain ⟨sl,hL⟩:=u.any ho I.free fun z=>(hch _ z).2.1 rfl
 exact I.step (ch:=ch) hch (fun b o hL hb hc e n=>u.keep b o e n (fun z=>(List.mem_cons.mp (I.stkSub b z)).elim hL hb) hc) (fun b o _ _ hc e n=>u.any e n hc) (fun b o hc e n=>u.free b o e n hc) (fun b o hc e=>u.there b o e hc) u.tups u.frzs u.tbls (fun m' hm=>by
  obtain ⟨o',es',ep',ho',r'⟩:=hm
  rw [ho] at ho'; cases ho'
  exact ⟨_,es',ep',hL,r'⟩) hok hg
theorem Inv.turned {t':Nat} {it:Addr} (I:Inv X zm σ H s) (k:∀ b o,b ≠ it->s.heap.get? b = some o->h'.get? b = some o) (hn:H it = none) (hL:it ≠ X.env.locals)
  (h1:it ∈ X.ex\/X.s₀.heap.objs.size <= it) (h2:∀ x c,X.env.cells.lookup x = some c->c ≠ it) (h3:∀ p ∈ X.pn ++ zm,p.1 ≠ it):Inv X zm σ H { s with heap:=h',toks:=t' }:=by
 have nit:∀ b u,H b = some u->b ≠ it:=fun b u e z=>by rw [z,hn] at e; cases e
 refine I.step (g':=s.gens) (d':=s.drawn) (ch:=[it]) (fun b hb=>?_) (fun b o _ _ hc e _=>k b o (fun z=>hc (by simp [z])) e) (fun b o _ _ hc e _=>⟨o.slots,k b o (fun z=>hc (by simp [z])) e⟩) (fun _ _ _ _ n=>n)
  (fun b o hc e=>⟨o,k b o (fun z=>hc (by simp [z])) e⟩) (fun _ _ e=>e) (fun _ _ _ e=>e) (fun _ _ e=>e) (fun m hm=>?_) (fun b u e=>?_) I.bare
 ·have e:b = it:=by simpa using hb
  subst e
  exact ⟨h1,hL,h2,h3⟩
 ·obtain ⟨o,es,ep,ho,r⟩:=hm
  exact ⟨o,es,ep,k _ o (Ne.symm hL) ho,r⟩
 ·refine (I.hok b u e).stay (fun c v hc q=>k c v ?_ q) (fun _ q=>q) fun _ _ q=>q
  rcases hc with z | z
  ·rw [z]; exact nit b u e
  ·exact nit c _ z
theorem Inv.tok (I:Inv X zm σ H s) (t:Nat):Inv X zm σ H { s with toks:=t }:=I.un (h':=s.heap) (t':=t) Un.refl I.hok
theorem Inv.kept {t':Nat} (I:Inv X zm σ H s) (k:∀ b u,s.heap.get? b = some u->h'.get? b = some u):Inv X zm σ H { s with heap:=h',toks:=t' }:=I.un (Un.kept k) (I.hok.kept k)
theorem Inv.laid {a:Addr} {o:HO} {t':Nat} (I:Inv X zm σ H s) (k:∀ b u,s.heap.get? b = some u->h'.get? b = some u) (hp:s.heap.objs.size <= a) (new:ObjOk X.prog X.w (upd H a o) h' a o) :
  Inv X zm σ (upd H a o) { s with heap:=h',toks:=t' }:=I.un (Un.laid k hp (I.hok.fresh hp)) (I.hok.laid k hp new)
theorem Inv.write {x e:Addr} {o:HO} {t':Nat} (I:Inv X zm σ H s) (mu:Mut (H x)) (he:e = x\/H e = some (.own x)) (k:∀ b u,b ≠ e->s.heap.get? b = some u->h'.get? b = some u) (heo:∃ u,h'.get? e = some u)
  (new:ObjOk X.prog X.w (upd H x o) h' x o):Inv X zm σ (upd H x o) { s with heap:=h',toks:=t' }:=I.un (Un.write mu he k heo) (I.hok.write mu he k heo new)
theorem Inv.pins_of {pins':List (Addr × Obj)} (I:Inv X zm σ H s) (h:∀ p ∈ pins',s.heap.get? p.1 = some p.2/\H p.1 = none/\p.1 ≠ X.env.locals/\p.1 ∉ X.fs/\∀ v,p.2.data ≠ .cell v):Inv X pins' σ H s :=
 ⟨I.ok,I.os,I.bare,I.base,I.loc,I.cell,I.free,I.freeC,fun p hp=>(List.mem_append.mp hp).elim (fun z=>I.pin p (List.mem_append_left _ z)) (h p),I.hok,I.len⟩
theorem zj7 {N:List Str} (hN:N.Nodup) {i j:Nat} {x:Str} (a:N[i]? = some x) (b:N[j]? = some x):i = j:=by
 obtain ⟨h1,e1⟩:=List.getElem?_eq_some_iff.mp a
 obtain ⟨h2,e2⟩:=List.getElem?_eq_some_iff.mp b
 exact (List.getElem_inj hN).mp (e1.trans e2.symm)
theorem zlI {M:Model} {A:Around} {E:Value->Shared->Prop} {i:Nat} {x:Str} {v:V} {u:Value} {Q:Unit->Shared->Prop} (I:Inv X zm σ H s) (hN:X.N.Nodup) (hi:X.N[i]? = some x) (hx:Loc X.env.scope x) (r:RelV v u)
  (h:∀ s',Inv X zm (σ.set i (some v)) H s'->(∃ a,Heap.SameBut a s.heap s'.heap/\(a = X.env.locals\/X.env.cells.lookup x = some a))->Q () s') (hf:X.fn x = true\/X.env.scope.names.lookup x = some .local:=by first | exact .inl rfl | exact .inr rfl | assumption):wpAny M A (storeName X.env x u) Q E s:=by
 obtain ⟨m,hn,hl⟩:=id I.loc
 have hcls:(X.env.scope.kind == .class || (X.env.scope.kind == .module && X.env.locals != X.env.globals)) = false:=by rw [I.ok.kind]; rfl
 have hiσ:i < σ.length:=by rw [I.len]; exact (List.getElem?_eq_some_iff.mp hi).1
 have cne:=I.cne
 have tracked:∀ {a:Addr} {h':Heap},(∃ o,s.heap.get? a = some o/\H a = none)->Heap.SameBut a s.heap h'->HOk X.prog X.w H h':=fun {a h'} ha hs b ob e=>by
  obtain ⟨_,_,hfree⟩:=ha
  refine (I.hok b ob e).stay (fun c w' hc q=>(hs.2 c ?_).trans q) (fun _ q=>q) fun _ _ q=>q
  rintro rfl
  rcases hc with rfl | hc
  ·rw [hfree] at e; cases e
  ·rw [hfree] at hc; cases hc
 rcases hx with hk | hk
 ·refine wpAny_storeName_local hk hn (fun h' hn' hs=>?_) hcls
  obtain ⟨oL,_,_,hoL,_⟩:=id hn
  refine h _ ⟨I.ok,I.os,I.bare,⟨fun b o e n hb hx=>?_,fun b o e n hb hx=>?_,I.base.free,fun b o e hx=>?_,I.base.tups,I.base.frzs,I.base.tbls⟩,⟨_,hn',fun j y v' e1 e2 e3=>?_⟩,fun y c e=>?_,I.free,I.freeC,fun p hp=>?_,tracked ⟨oL,hoL,I.free⟩ hs,by simpa using I.len⟩ ⟨_,hs,.inl rfl⟩
  ·exact (hs.2 b (Nat.ne_of_lt (Nat.lt_of_lt_of_le (Heap.lt_size e) I.ok.above))).trans (I.base.keep b o e n hb hx)
  ·obtain ⟨sl,e1⟩:=I.base.slot b o e n hb hx
   exact ⟨sl,(hs.2 b (Nat.ne_of_lt (Nat.lt_of_lt_of_le (Heap.lt_size e) I.ok.above))).trans e1⟩
  ·obtain ⟨o',e1⟩:=I.base.there b o e hx
   exact ⟨o',(hs.2 b (Nat.ne_of_lt (Nat.lt_of_lt_of_le (Heap.lt_size e) I.ok.above))).trans e1⟩
  ·by_cases hj:j = i
   ·subst hj
    rw [hi] at e1; cases e1
    rw [List.getElem?_set_self hiσ] at e2
    cases e2
    exact ⟨u,r,.inl ⟨hk,by simp⟩⟩
   ·rw [List.getElem?_set_ne (Ne.symm hj)] at e2
    obtain ⟨u',r',q⟩:=hl j y v' e1 e2 e3
    refine ⟨u',r',?_⟩
    rcases q with ⟨k,e⟩ | ⟨k,c,e,z⟩
    ·refine .inl ⟨k,?_⟩
     have:y ≠ x:=fun e=>hj (zj7 hN e1 (e ▸ hi))
     simp [this,e]
    ·exact .inr ⟨k,c,e,z.sameBut hs (cne y c e)⟩
  ·obtain ⟨w',z⟩:=I.cell y c e
   exact ⟨w',z.sameBut hs (cne y c e)⟩
  ·obtain ⟨e,n,ne,nf,d⟩:=I.pin p hp
   exact ⟨(hs.2 p.1 ne).trans e,n,ne,nf,d⟩
 ·have hfn:X.fn x = true:=by
   rcases hf with z | z
   ·exact z
   ·rw [z] at hk; cases hk
  obtain ⟨c,hc⟩:=I.ok.has x (.inl hk)
  obtain ⟨w',z⟩:=I.cell x c hc
  refine wpAny_storeName_cell I.ok.kind hk hc z (fun h' hc' hs=>?_)
  obtain ⟨oc,hoc,hocd⟩:=id z
  refine h { s with heap:=h' } ⟨I.ok,I.os,I.bare,⟨fun b o e n hb hx=>?_,fun b o e n hb hx=>?_,I.base.free,fun b o e hx=>?_,I.base.tups,I.base.frzs,I.base.tbls⟩,⟨m,hn.sameBut hs (Ne.symm (cne x c hc)),fun j y v' e1 e2 e3=>?_⟩,fun y c' e=>?_,I.free,I.freeC,fun p hp=>?_,tracked ⟨oc,hoc,I.freeC x c hc⟩ hs,by simpa using I.len⟩ ⟨c,hs,.inr hc⟩
  ·exact (hs.2 b (Nat.ne_of_lt (Nat.lt_of_lt_of_le (Heap.lt_size e) (I.ok.cab x c hfn hc)))).trans (I.base.keep b o e n hb hx)
  ·obtain ⟨sl,e1⟩:=I.base.slot b o e n hb hx
   exact ⟨sl,(hs.2 b (Nat.ne_of_lt (Nat.lt_of_lt_of_le (Heap.lt_size e) (I.ok.cab x c hfn hc)))).trans e1⟩
  ·obtain ⟨o',e1⟩:=I.base.there b o e hx
   exact ⟨o',(hs.2 b (Nat.ne_of_lt (Nat.lt_of_lt_of_le (Heap.lt_size e) (I.ok.cab x c hfn hc)))).trans e1⟩
  ·by_cases hj:j = i
   ·subst hj
    rw [hi] at e1; cases e1
    rw [List.getElem?_set_self hiσ] at e2
    cases e2
    exact ⟨u,r,.inr ⟨.inl hk,c,hc,hc'⟩⟩
   ·rw [List.getElem?_set_ne (Ne.symm hj)] at e2
    obtain ⟨u',r',q⟩:=hl j y v' e1 e2 e3
    refine ⟨u',r',?_⟩
    rcases q with q | ⟨k,c',e,z'⟩
    ·exact .inl q
    ·refine .inr ⟨k,c',e,z'.sameBut hs ?_⟩
     rintro rfl
     exact hj (zj7 hN e1 (I.ok.inj _ _ _ e hc ▸ hi))
  ·by_cases hcc:c' = c
   ·subst hcc; exact ⟨_,hc'⟩
   ·obtain ⟨w2,z2⟩:=I.cell y c' e
    exact ⟨w2,z2.sameBut hs hcc⟩
  ·obtain ⟨e,n,ne,nf,d⟩:=I.pin p hp
   refine ⟨(hs.2 p.1 ?_).trans e,n,ne,nf,d⟩
   intro q
   rw [q,hoc] at e
   have q':oc = p.2:=Option.some.inj e
   exact d w' (by rw [<- q']; exact hocd)
theorem zhK {M:Model} {A:Around} {E:Value->Shared->Prop} {i:Nat} {x:Str} {v:V} {u:Value} {Q:Unit->Shared->Prop} (I:Inv X zm σ H s) (hN:X.N.Nodup) (hi:X.N[i]? = some x) (hx:Loc X.env.scope x) (r:RelV v u)
  (h:∀ s',Inv X zm (σ.set i (some v)) H s'->Q () s') (hf:X.fn x = true\/X.env.scope.names.lookup x = some .local:=by first | exact .inl rfl | exact .inr rfl | assumption):wpAny M A (storeName X.env x u) Q E s :=
 zlI I hN hi hx r (fun s' I' _=>h s' I') hf
theorem Inv.call' {s':Shared} {ch:List Addr} (I:Inv X zm σ H s) (ho:s'.os = s.os) (u:Un (frs X.stack) ch H H' s.heap s'.heap) (hok:HOk X.prog X.w H' s'.heap) (hg:AllBare s'.gens)
  (hch:∀ b ∈ ch,(b ∈ X.ex\/X.s₀.heap.objs.size <= b)/\b ≠ X.env.locals/\(∀ x c,X.env.cells.lookup x = some c->c ≠ b)/\∀ p ∈ X.pn ++ zm,p.1 ≠ b):Inv X zm σ H' s':=by
 obtain ⟨h',g',d',t',o'⟩:=s'
 have e:o' = s.os:=ho
 subst e
 exact I.call (g':=g') (t':=t') (d':=d') u hok hg hch
end
abbrev XK:=Value->Option Addr->Hp->Prop
abbrev St:=List (Option V)
abbrev VK:=V->Hp->Prop
abbrev TE:=St->Hp->VK->Prop
abbrev TT:=St->Hp->(Bool->Hp->Prop)->Prop
abbrev TA:=St->Hp->(List V->Hp->Prop)->Prop
structure Ends where
 nx:St->Hp->Prop
 rt:VK
 bk:St->Hp->Prop:=fun _ _=>False
 ct:St->Hp->Prop:=fun _ _=>False
abbrev TS:=Ends->St->Hp->Prop
def EP (X:Cx) (zm:List (Addr × Obj)) (σ:St) (Q:VK) (u:Value) (s':Shared):Prop:=∃ v H',Inv X zm σ H' s'/\RelV v u/\Q v H'
def TP (X:Cx) (zm:List (Addr × Obj)) (σ:St) (Q:Bool->Hp->Prop) (b:Bool) (s':Shared):Prop:=∃ H',Inv X zm σ H' s'/\Q b H'
def AP (X:Cx) (zm:List (Addr × Obj)) (σ:St) (Q:List V->Hp->Prop) (us:List Value) (s':Shared):Prop:=∃ vs H',Inv X zm σ H' s'/\Vals vs us/\Q vs H'
def SP (X:Cx) (zm:List (Addr × Obj)) (D:Ends) (f:Flow) (s':Shared):Prop :=
 match f with
 | .next=>∃ σ' H',Inv X zm σ' H' s'/\D.nx σ' H'
 | .brk=>∃ σ' H',Inv X zm σ' H' s'/\D.bk σ' H'
 | .cont=>∃ σ' H',Inv X zm σ' H' s'/\D.ct σ' H'
 | .ret u=>∃ v σ' H',Inv X zm σ' H' s'/\RelV v u/\D.rt v H'
def PE (X:Cx) (e:Expr) (t:TE):Prop :=
 ∀ (zm:List (Addr × Obj)) (s:Shared) (σ:St) (H:Hp) (Q:VK),Inv X zm σ H s->t σ H Q->wpAny (model X.prog X.w) X.A (eval e X.env) (EP X zm σ Q) X.xe s
def PT (X:Cx) (e:Expr) (t:TT):Prop :=
 ∀ (zm:List (Addr × Obj)) (s:Shared) (σ:St) (H:Hp) (Q:Bool->Hp->Prop),Inv X zm σ H s->t σ H Q->wpAny (model X.prog X.w) X.A (isTrue e X.env (eval e X.env)) (TP X zm σ Q) X.xe s
def PW (X:Cx) (e:Expr) (t:TT):Prop :=
 ∀ (whole:Sem Value) (zm:List (Addr × Obj)) (s:Shared) (σ:St) (H:Hp) (Q:Bool->Hp->Prop),Inv X zm σ H s->t σ H Q->wpAny (model X.prog X.w) X.A (isTrue e X.env whole) (TP X zm σ Q) X.xe s
theorem PW.pt {X:Cx} {e:Expr} {t:TT} (h:PW X e t):PT X e t:=h _
def PA (X:Cx) (es:List Expr) (t:TA):Prop :=
 ∀ (pos:Pos) (zm:List (Addr × Obj)) (s:Shared) (σ:St) (H:Hp) (Q:List V->Hp->Prop),Inv X zm σ H s->t σ H Q->wpAny (model X.prog X.w) X.A (spliced (backTo pos (starEach es X.env))) (AP X zm σ Q) X.xe s
def PS (X:Cx) (st:Stmt) (t:TS):Prop :=
 ∀ (zm:List (Addr × Obj)) (s:Shared) (σ:St) (H:Hp) (D:Ends),Inv X zm σ H s->t D σ H->wpAny (model X.prog X.w) X.A (exec st X.env) (SP X zm D) X.xe s
def PSs (X:Cx) (st:List Stmt) (t:TS):Prop :=
 ∀ (zm:List (Addr × Obj)) (s:Shared) (σ:St) (H:Hp) (D:Ends),Inv X zm σ H s->t D σ H->wpAny (model X.prog X.w) X.A (execs st X.env) (SP X zm D) X.xe s
theorem thn {α:Type} {t:Sem α} {Q Q':α->Shared->Prop} {M:Model} {A:Around} {E:Value->Shared->Prop} {s:Shared} (h:wpAny M A t Q E s) (hQ:∀ a s,Q a s->Q' a s):wpAny M A t Q' E s:=wpAny_mono h hQ fun _ _ x=>x
end
section
section
variable {X:Cx}
def zmR (i:Nat):TE:=fun σ H Q=>∃ v,σ[i]? = some (some v)/\Q v H
def tC (v:V):TE:=fun _ H Q=>Q v H
theorem zrL {i:Nat} {x:Str} {pos:Pos} (hN:X.N[i]? = some x) (hv:Vis X.env.scope x) (hd:(x == ("__debug__":Str)) = false:=by decide) (hcd:(x == ("__classdict__":Str)) = false:=by decide):PE X (.Name x pos) (zmR i):=by
 intro zm s σ H Q I h
 obtain ⟨v,e,h⟩:=h
 obtain ⟨m,hn,hl⟩:=I.loc
 obtain ⟨u,r,l⟩:=hl i x v hN e hv
 have fin:EP X zm σ Q u s:=⟨v,H,I,r,h⟩
 rcases l with ⟨hk,hm⟩ | ⟨hk,c,hc,hcell⟩
 ·exact wpAny_Name (wpAny_loadName_local I.ok.kind hk hn hm fin) hd
 ·rcases hk with hk | hk
  ·exact wpAny_Name (wpAny_loadName_cell I.ok.kind hk hc hcell fin) hd
  ·exact wpAny_Name (wpAny_loadName_free I.ok.kind hk hc hcell fin hcd) hd
theorem zh {i j pos}:PE X (.Constant (.int i) j pos) (tC (.int i)):=fun _ _ _ H _ I h=>wpAny_Constant_int ⟨.int i,H,I.tok _,⟨_,rfl⟩,h⟩
theorem zeX {b j pos}:PE X (.Constant (.bool b) j pos) (tC (.bl b)):=fun _ _ _ H _ I h=>Constant_bool ⟨.bl b,H,I,rfl,h⟩
theorem zew {j pos}:PE X (.Constant .none j pos) (tC .non):=fun _ _ _ H _ I h=>Constant_none ⟨.non,H,I,rfl,h⟩
theorem zeF {x j pos}:PE X (.Constant (.str x) j pos) (tC (.str x)):=fun _ _ _ H _ I h=>Calls.Constant_str ⟨.str x,H,I.tok _,⟨_,rfl⟩,h⟩
def Gl (X:Cx) (x:Str):Prop:=X.env.kindOf x = some .globalImplicit
theorem zmF {E:Value->Shared->Prop} {zm:List (Addr × Obj)} {s:Shared} {σ:St} {H:Hp} {x:Str} {u:Value} {pos:Pos} {Q:Value->Shared->Prop} (I:Inv X zm σ H s) (hg:Gl X x) (hm:X.mg x = some u) (h:Q u s)
  (hd:(x == ("__debug__":Str)) = false:=by decide):wpAny (model X.prog X.w) X.A (eval (.Name x pos) X.env) Q E s :=
 Calls.Name_function_global I.ok.kind hg (Calls.loadGlobal_global (by rw [I.ok.glob]; exact I.mod.glob.keeps I.bk) hm h) hd
theorem ze1 {E:Value->Shared->Prop} {zm:List (Addr × Obj)} {s:Shared} {σ:St} {H:Hp} {x:Str} {u:Value} {pos:Pos} {Q:Value->Shared->Prop} (I:Inv X zm σ H s) (hg:Gl X x) (hm:X.mg x = none) (hv:bootBuiltins x = some u) (h:Q u s)
  (hn:x ≠ "__name__":=by decide) (hd:(x == ("__debug__":Str)) = false:=by decide):wpAny (model X.prog X.w) X.A (eval (.Name x pos) X.env) Q E s:=by
 obtain ⟨mb,h1,h2⟩:=I.mod.blt
 exact Calls.Name_function_global I.ok.kind hg (Calls.loadGlobal_builtin (by rw [I.ok.glob]; exact I.mod.glob.keeps I.bk) hm (by rw [I.ok.blt]; exact h1.keeps I.bk) ((h2 x hn).trans hv) h) hd
theorem zo8 {x:Str} {v:V} {u:Value} {pos:Pos} (hg:Gl X x) (hm:X.mg x = some u) (r:RelV v u) (hd:(x == ("__debug__":Str)) = false:=by decide):PE X (.Name x pos) (tC v) :=
 fun _ _ _ H _ I h=>zmF I hg hm ⟨v,H,I,r,h⟩ hd
theorem ziU {x:Str} {v:V} {u:Value} {pos:Pos} (hg:Gl X x) (hm:X.mg x = none) (hv:bootBuiltins x = some u) (r:RelV v u) (hn:x ≠ "__name__":=by decide) (hd:(x == ("__debug__":Str)) = false:=by decide):PE X (.Name x pos) (tC v) :=
 fun _ _ _ H _ I h=>ze1 I hg hm hv ⟨v,H,I,r,h⟩ hn hd
variable {a b:Expr} {ta tb:TE} {pos:Pos}
variable {tA tB':TT} {rest:List Expr}
def zs8 (t u:TT):TT:=fun σ H Q=>t σ H fun c H1=>if c = true then u σ H1 Q else Q false H1
def tOr (t u:TT):TT:=fun σ H Q=>t σ H fun c H1=>if c = true then Q true H1 else u σ H1 Q
def zss (t:TT):TT:=fun σ H Q=>t σ H fun c H1=>Q (!c) H1
theorem zhu (ha:PT X a tA):PW X (.BoolOp .And [a] pos) tA:=by
 intro wh zm s σ H Q I h
 refine isTrue_and (thn (ha zm s σ H Q I h) fun c s1 e=>?_)
 cases c with
 | true=>exact isTrue_and_nil e
 | false=>exact e
theorem zj0 (ha:PT X a tA):PW X (.BoolOp .Or [a] pos) tA:=by
 intro wh zm s σ H Q I h
 refine isTrue_or (thn (ha zm s σ H Q I h) fun c s1 e=>?_)
 cases c with
 | false=>exact isTrue_or_nil e
 | true=>exact e
theorem zj6 (ha:PT X a tA) (hb:PW X (.BoolOp .And (b :: rest) pos) tB'):PW X (.BoolOp .And (a :: b :: rest) pos) (zs8 tA tB'):=by
 intro wh zm s σ H Q I h
 refine isTrue_and (thn (ha zm s σ H _ I h) fun c s1 ⟨H1,I1,q1⟩=>?_)
 cases c with
 | true=>exact hb wh zm s1 σ H1 Q I1 q1
 | false=>exact ⟨H1,I1,q1⟩
theorem znC (ha:PT X a tA) (hb:PW X (.BoolOp .Or (b :: rest) pos) tB'):PW X (.BoolOp .Or (a :: b :: rest) pos) (tOr tA tB'):=by
 intro wh zm s σ H Q I h
 refine isTrue_or (thn (ha zm s σ H _ I h) fun c s1 ⟨H1,I1,q1⟩=>?_)
 cases c with
 | true=>exact ⟨H1,I1,q1⟩
 | false=>exact hb wh zm s1 σ H1 Q I1 q1
theorem zg6 (ha:PT X a tA):PT X (.UnaryOp .Not a pos) (zss tA):=by
 intro zm s σ H Q I h
 exact isTrue_not (ha zm s σ H (fun c H1=>Q (!c) H1) I h)
def zrR (ta tb:TE):TE:=fun σ H Q=>ta σ H fun x H1=>∃ c,x = .bl c/\if c = true then tb σ H1 Q else Q (.bl false) H1
def zqF (ta:TE):TE:=fun σ H Q=>ta σ H fun x H1=>∃ c,x = .bl c/\Q (.bl (!c)) H1
theorem zj2 {op} {t:TE} (h:PE X a t):PE X (.BoolOp op [a] pos) t:=fun zm s σ H Q I hw=>BoolOp_one (h zm s σ H Q I hw)
theorem zkg (ha:PE X a ta) (hb:PE X (.BoolOp .And (b :: rest) pos) tb):PE X (.BoolOp .And (a :: b :: rest) pos) (zrR ta tb):=by
 intro zm s σ H Q I h
 refine BoolOp_and (thn (ha zm s σ H _ I h) fun v s1 ⟨x,H1,I1,r1,q1⟩=>?_)
 obtain ⟨c,rfl,q1⟩:=q1
 cases r1
 refine wpAny_truthy_bool ?_
 cases c with
 | true=>exact hb zm s1 σ H1 Q I1 q1
 | false=>exact ⟨.bl false,H1,I1,rfl,q1⟩
theorem zqI (ha:PE X a ta):PE X (.UnaryOp .Not a pos) (zqF ta):=by
 intro zm s σ H Q I h
 refine UnaryOp_ (thn (ha zm s σ H _ I h) fun v s1 ⟨x,H1,I1,r1,q1⟩=>?_)
 obtain ⟨c,rfl,q1⟩:=q1
 cases r1
 exact not_of (wpAny_truthy_bool ⟨.bl (!c),H1,I1,rfl,q1⟩)
def tIf (t:TT) (ta tb:TE):TE:=fun σ H Q=>t σ H fun c H1=>if c = true then ta σ H1 Q else tb σ H1 Q
theorem znm {c:Expr} (hc:PT X c tA) (ha:PE X a ta) (hb:PE X b tb):PE X (.IfExp c a b pos) (tIf tA ta tb):=by
 intro zm s σ H Q I h
 refine wpAny_IfExp (thn (hc zm s σ H _ I h) fun d s1 ⟨H1,I1,q1⟩=>?_)
 cases d with
 | true=>exact ha zm s1 σ H1 Q I1 q1
 | false=>exact hb zm s1 σ H1 Q I1 q1
end
end
section
def SqL (K:W.Frag) (H:Hp) (a:Addr) (xs:List V):Prop :=
 Rd H a (.lst xs) \/
  ∃ (o:Obj) (its:Array Value) (n:Nat),K.lookup a = some o/\o.cls = .type "list"/\o.dict = none/\o.data = .seq its n/\its.size <= sizeLine/\Vals xs its.toList
def SqT (K:W.Frag) (H:Hp) (a:Addr) (xs:List V):Prop :=
 Rd H a (.tup xs) \/
  ∃ (o:Obj) (its:Array Value) (n:Nat),K.lookup a = some o/\o.cls = .type "tuple"/\o.data = .seq its n/\its.size <= sizeLine/\Vals xs its.toList
def zts:Value->Option V
 | .none=>some .non
 | .bool b=>some (.bl b)
 | .int i _=>some (.int i)
 | .str x _=>some (.str x)
 | .bytes b _=>some (.byt b)
 | .float b _=>some (.flt b)
 | .ref a=>some (.ref a)
 | .type n=>some (.ty n)
 | _=>none
theorem RelV.abs {x:V} {u:Value} (r:RelV x u):zts u = some x:=by
 cases x with
 | non=>cases r; rfl
 | bl _=>cases r; rfl
 | int _=>obtain ⟨t,rfl⟩:=r; rfl
 | str _=>obtain ⟨t,rfl⟩:=r; rfl
 | byt _=>obtain ⟨t,rfl⟩:=r; rfl
 | flt _=>obtain ⟨t,rfl⟩:=r; rfl
 | ref _=>cases r; rfl
 | ty _=>cases r; rfl
theorem RelV.inj {x y:V} {u:Value} (r:RelV x u) (q:RelV y u):x = y:=Option.some.inj (r.abs.symm.trans q.abs)
theorem Vals.inj:∀ {xs ys:List V} {us:List Value},Vals xs us->Vals ys us->xs = ys
 | _,_,_,.nil,.nil=>rfl
 | _,_,_,.cons r t,.cons r' t'=>by rw [r.inj r',Vals.inj t t']
section
variable {X:Cx} {zm:List (Addr × Obj)} {σ:St} {H:Hp} {s:Shared} {a:Addr} {xs ys:List V}
theorem SqL.of {K:W.Frag} (h:H a = some (.lst xs)):SqL K H a xs:=.inl (.inl h)
theorem SqT.of {K:W.Frag} (h:H a = some (.tup xs)):SqT K H a xs:=.inl (.inl h)
theorem Inv.list (I:Inv X zm σ H s) (h:SqL X.K H a xs):∃ its:List Value,Vals xs its/\PlainL s.heap a its.toArray/\xs.length <= sizeLine:=by
 rcases h with h | ⟨o,its,n,hk,hc,hd,hs,hz,r⟩
 ·obtain ⟨z,its,n,r,e⟩:=h.ok I.hok
  exact ⟨its,r,⟨_,n,e,rfl,rfl,rfl⟩,z⟩
 ·refine ⟨its.toList,r,⟨o,n,I.kIn a o hk,hc,hd,by simpa using hs⟩,?_⟩
  have e:=r.length
  simp only [Array.length_toList] at e
  omega
theorem Inv.tuple (I:Inv X zm σ H s) (h:SqT X.K H a xs):∃ its:List Value,Vals xs its/\IsTup s.heap a its.toArray/\xs.length <= sizeLine:=by
 rcases h with h | ⟨o,its,n,hk,hc,hs,hz,r⟩
 ·obtain ⟨z,its,r,p⟩:=h.ok I.hok
  exact ⟨its,r,p,z.1⟩
 ·refine ⟨its.toList,r,⟨o,I.kIn a o hk,hc,n,by simpa using hs⟩,?_⟩
  have e:=r.length
  simp only [Array.length_toList] at e
  omega
theorem Inv.list_inj (I:Inv X zm σ H s) (h:SqL X.K H a xs) (h':SqL X.K H a ys):xs = ys:=by
 obtain ⟨its,r,⟨o,n,e,_,_,d⟩,_⟩:=I.list h
 obtain ⟨its',r',⟨o',n',e',_,_,d'⟩,_⟩:=I.list h'
 rw [e] at e'; cases e'
 rw [d] at d'
 injection d' with d1 _
 have:its = its':=by simpa using congrArg Array.toList d1
 subst this
 exact r.inj r'
theorem Inv.tuple_inj (I:Inv X zm σ H s) (h:SqT X.K H a xs) (h':SqT X.K H a ys):xs = ys:=by
 obtain ⟨its,r,⟨o,e,_,n,d⟩,_⟩:=I.tuple h
 obtain ⟨its',r',⟨o',e',_,n',d'⟩,_⟩:=I.tuple h'
 rw [e] at e'; cases e'
 rw [d] at d'
 injection d' with d1 _
 have:its = its':=by simpa using congrArg Array.toList d1
 subst this
 exact r.inj r'
end
abbrev Cx.wish (X:Cx) (E:Value->Shared->Prop):Cx:={ X with xe:=E }
abbrev Cx.nox (X:Cx):Cx:=X.wish fun _ _=>False
theorem Cx.Ok.wish {X:Cx} (ok:X.Ok) (E:Value->Shared->Prop):(X.wish E).Ok :=
 ⟨ok.mod,ok.kind,ok.glob,ok.blt,ok.above,ok.inj,ok.has,ok.cab,ok.hd,ok.frames,ok.stk,ok.exf,ok.bs,ok.bsz,ok.noex,ok.exfs,ok.funs,ok.frf⟩
theorem Cx.Ok.unwish {X:Cx} {E:Value->Shared->Prop} (ok:(X.wish E).Ok):X.Ok :=
 ⟨ok.mod,ok.kind,ok.glob,ok.blt,ok.above,ok.inj,ok.has,ok.cab,ok.hd,ok.frames,ok.stk,ok.exf,ok.bs,ok.bsz,ok.noex,ok.exfs,ok.funs,ok.frf⟩
section
variable {X:Cx} {zm:List (Addr × Obj)} {σ:St} {H:Hp} {s:Shared} {E:Value->Shared->Prop}
theorem Inv.wish (I:Inv X zm σ H s) (E:Value->Shared->Prop):Inv (X.wish E) zm σ H s:=⟨I.ok.wish E,I.os,I.bare,I.base,I.loc,I.cell,I.free,I.freeC,I.pin,I.hok,I.len⟩
theorem Inv.unwish (I:Inv (X.wish E) zm σ H s):Inv X zm σ H s:=⟨I.ok.unwish,I.os,I.bare,I.base,I.loc,I.cell,I.free,I.freeC,I.pin,I.hok,I.len⟩
theorem SP.unwish {D:Ends} {f:Flow} {s':Shared} (h:SP (X.wish E) zm D f s'):SP X zm D f s':=by
 cases f with
 | next=>obtain ⟨σ',H',I,q⟩:=h; exact ⟨σ',H',I.unwish,q⟩
 | brk=>obtain ⟨σ',H',I,q⟩:=h; exact ⟨σ',H',I.unwish,q⟩
 | cont=>obtain ⟨σ',H',I,q⟩:=h; exact ⟨σ',H',I.unwish,q⟩
 | ret u=>obtain ⟨v,σ',H',I,r,q⟩:=h; exact ⟨v,σ',H',I.unwish,r,q⟩
theorem PSs.nox {st:List Stmt} {t:TS} (h:PSs X.nox st t):PSs X st t:=fun zm s σ H D I hw =>
 wpAny_mono (h zm s σ H D (I.wish _) hw) (fun _ _ q=>q.unwish) fun _ _ z=>False.elim z
end
section
variable {X:Cx} {st:Stmt} {rest:List Stmt} {t u:TS} {e:Expr} {te:TE} {pos:Pos}
def zqh:TS:=fun D σ H=>D.nx σ H
def zgx (t u:TS):TS:=fun D σ H=>t { D with nx:=u D } σ H
theorem zZ:PSs X [] zqh:=fun _ _ σ H _ I h=>wpAny_execs_nil ⟨σ,H,I,h⟩
theorem zj (h1:PS X st t) (h2:PSs X rest u):PSs X (st :: rest) (zgx t u):=by
 intro zm s σ H D I h
 refine wpAny_execs_cons (thn (h1 zm s σ H { D with nx:=u D } I h) fun f s1 q=>?_)
 cases f with
 | next =>
  obtain ⟨σ',H',I',q⟩:=q
  exact h2 zm s1 σ' H' D I' q
 | ret v=>exact q
 | brk=>exact q
 | cont=>exact q
theorem zt (h1:PS X st t):PSs X [st] t:=by
 intro zm s σ H D I h
 refine wpAny_execs_cons (thn (h1 zm s σ H D I h) fun f s1 q=>?_)
 cases f with
 | next=>exact wpAny_execs_nil q
 | ret v=>exact q
 | brk=>exact q
 | cont=>exact q
theorem Inv.quiet {zm:List (Addr × Obj)} {σ:St} {H:Hp} {s:Shared} (I:Inv X zm σ H s):interactive X.env = false:=by simp [interactive,I.ok.kind]
def zrI (te:TE):TS:=fun D σ H=>te σ H fun _ H1=>D.nx σ H1
theorem zcm (he:PE X e te) (hs:swapsWith e none pos.line X.env = pure false:=by rfl):PS X (.Expr e pos) (zrI te):=by
 intro zm s σ H D I h
 exact wpAny_Expr_any (thn (he zm s σ H _ I h) fun v s1 ⟨x,H1,I1,r1,q1⟩=>⟨σ,H1,I1,q1⟩) I.quiet hs
def zsQ (te:TE):TS:=fun D σ H=>te σ H D.rt
theorem zM (he:PE X e te):PS X (.Return (some e) pos) (zsQ te):=by
 intro zm s σ H D I h
 exact wpAny_Return_some (thn (he zm s σ H _ I h) fun v s1 ⟨x,H1,I1,r1,q1⟩=>⟨x,σ,H1,I1,r1,q1⟩)
def zsb (c:TT) (t u:TS):TS:=fun D σ H=>c σ H fun b H1=>if b = true then t D σ H1 else u D σ H1
theorem zbn {c:Expr} {a b:List Stmt} {tc:TT} (hc:PT X c tc) (ha:PSs X a t) (hb:PSs X b u):PS X (.If c a b pos) (zsb tc t u):=by
 intro zm s σ H D I h
 refine wpAny_If (thn (hc zm s σ H _ I h) fun d s1 ⟨H1,I1,q1⟩=>?_)
 cases d with
 | true=>exact ha zm s1 σ H1 D I1 q1
 | false=>exact hb zm s1 σ H1 D I1 q1
def zov:TS:=fun _ _ _=>False
theorem znh:PS X st zov:=fun _ _ _ _ _ _ h=>h.elim
end
abbrev TG:=V->St->Hp->(St->Hp->Prop)->Prop
abbrev TGs:=List V->St->Hp->(St->Hp->Prop)->Prop
def PG (X:Cx) (target:Expr) (t:TG):Prop :=
 ∀ (zm:List (Addr × Obj)) (s:Shared) (σ:St) (H:Hp) (v:V) (u:Value) (Q:St->Hp->Prop),Inv X zm σ H s->RelV v u->t v σ H Q ->
  wpAny (model X.prog X.w) X.A (assign target X.env u) (fun _ s'=>∃ σ' H',Inv X zm σ' H' s'/\Q σ' H') X.xe s
def PGs (X:Cx) (ts:List Expr) (t:TGs):Prop :=
 ∀ (zm:List (Addr × Obj)) (s:Shared) (σ:St) (H:Hp) (vs:List V) (us:List Value) (Q:St->Hp->Prop),Inv X zm σ H s->Vals vs us->t vs σ H Q ->
  wpAny (model X.prog X.w) X.A (assignInOrder ((assignEach ts X.env).map (·.2)) us) (fun _ s'=>∃ σ' H',Inv X zm σ' H' s'/\Q σ' H') X.xe s
abbrev TSet:=V->V->V->Hp->(Hp->Prop)->Prop
def PSet (X:Cx) (t:TSet):Prop :=
 ∀ (zm:List (Addr × Obj)) (s:Shared) (σ:St) (H:Hp) (o i v:V) (ov iv u:Value) (Q:Hp->Prop),Inv X zm σ H s->RelV o ov->RelV i iv->RelV v u->t o i v H Q ->
  wpAny (model X.prog X.w) X.A (setItem ov iv u) (fun _ s'=>∃ H',Inv X zm σ H' s'/\Q H') X.xe s
section
variable {X:Cx} {pos:Pos}
def zjb (i:Nat):TG:=fun v σ H Q=>Q (σ.set i (some v)) H
theorem zA {i:Nat} {x:Str} (hN:X.N.Nodup) (hi:X.N[i]? = some x) (hx:Loc X.env.scope x) (hf:X.fn x = true\/X.env.scope.names.lookup x = some .local:=by first | exact .inl rfl | exact .inr rfl | assumption):PG X (.Name x pos) (zjb i):=by
 intro zm s σ H v u Q I r h
 exact wpAny_assign_Name (zhK I hN hi hx r (fun s' I'=>⟨_,H,I',h⟩) hf)
def zsV:TGs:=fun vs σ H Q=>vs = []/\Q σ H
def zqQ (t:TG) (u:TGs):TGs:=fun vs σ H Q=>∃ v r,vs = v :: r/\t v σ H fun σ' H'=>u r σ' H' Q
theorem zbH:PGs X [] zsV:=by
 intro zm s σ H vs us Q I r h
 obtain ⟨e,h⟩:=h
 subst e
 cases r
 exact assignInOrder_nil ⟨σ,H,I,h⟩
theorem zQ {e:Expr} {es:List Expr} {t:TG} {u:TGs} (h1:PG X e t) (h2:PGs X es u)
  (hs:(assignEach (e :: es) X.env).map (·.2) = assign e X.env :: (assignEach es X.env).map (·.2):=by rfl):PGs X (e :: es) (zqQ t u):=by
 intro zm s σ H vs us Q I r h
 obtain ⟨v,vr,e1,h⟩:=h
 subst e1
 cases r with
 | cons r rr =>
  rw [hs]
  refine assignInOrder_cons (thn (h1 zm s σ H _ _ _ I r h) fun _ s1 ⟨σ1,H1,I1,q1⟩=>?_)
  exact h2 zm s1 σ1 H1 _ _ Q I1 rr q1
def zsZ (K:W.Frag) (n:Nat) (t:TGs):TG:=fun v σ H Q=>∃ a xs,v = .ref a/\SqT K H a xs/\xs.length = n/\t xs σ H Q
theorem zc3 {es:List Expr} {k:Nat} {t:TGs} {n:Nat} (hc:X.calm = true) (h:PGs X es t)
  (hn:(assignEach es X.env).length = n:=by rfl) (hst:(assignEach es X.env).findIdx? (·.1) = none:=by rfl):PG X (.Tuple es k pos) (zsZ X.K n t):=by
 intro zm s σ H v u Q I r hw
 obtain ⟨a,xs,e1,hq,hl,hw⟩:=hw
 subst e1
 cases r
 obtain ⟨its,rv,ht,hz⟩:=I.tuple hq
 refine assign_Tuple_tuple (I.ok.hd hc) ht (by simp [hn,<- hl,rv.length]) hst fun h' hx=>?_
 have I1:Inv X zm σ H { s with heap:=h' }:=I.kept (t':=s.toks) fun b o e=>hx b o (Nat.ne_of_lt (Heap.lt_size e)) e
 exact h zm _ σ H xs _ Q I1 (by simpa using rv) hw
def ztb (to ti:TE) (t:TSet):TG:=fun v σ H Q=>to σ H fun o H1=>ti σ H1 fun i H2=>t o i v H2 fun H3=>Q σ H3
theorem zkk {o i:Expr} {to ti:TE} {t:TSet} (ho:PE X o to) (hi:PE X i ti) (hs:PSet X t)
  (ha:∀ v,assign (.Subscript o i pos) X.env v = (do
   let ov <- holding [v] (eval o X.env)
   let iv <- holding [v,ov] (eval i X.env)
   standAt pos
   holding [v,ov,iv] (setItem ov iv v)
   release [v,ov,iv] []):=by intro _; rfl):PG X (.Subscript o i pos) (ztb to ti t):=by
 intro zm s σ H v u Q I r h
 rw [ha]
 refine wpAny_bind (wpAny_holding (thn (ho zm s σ H _ I h) fun ov s1 ⟨x,H1,I1,r1,q1⟩=>?_))
 refine wpAny_bind (wpAny_holding (thn (hi zm s1 σ H1 _ I1 q1) fun iv s2 ⟨y,H2,I2,r2,q2⟩=>?_))
 refine wpAny_bind (wpAny_standAt (wpAny_bind (wpAny_holding (thn (hs zm s2 σ H2 x y v ov iv u _ I2 r1 r2 r q2) fun _ s3 ⟨H3,I3,q3⟩=>?_))))
 exact wpAny_release ⟨σ,H3,I3,q3⟩
def zr7 (te:TE) (g:TG):TS:=fun D σ H=>te σ H fun x H1=>g x σ H1 D.nx
theorem zgq {tg e:Expr} {te:TE} {g:TG} (he:PE X e te) (hg:PG X tg g) (hs:swapsWithSole [tg] e pos.line X.env = pure false:=by rfl) (hw:swappedStores [tg] e X.env = pure none:=by rfl)
  (h1:(assignEach [tg] X.env).map (·.2) = [assign tg X.env]:=by rfl):PS X (.Assign [tg] e pos) (zr7 te g):=by
 intro zm s σ H D I h
 refine wpAny_Assign_stores (thn (he zm s σ H _ I h) fun v s1 ⟨x,H1,I1,r1,q1⟩=>?_) hs hw
 rw [h1]
 exact thn (hg zm s1 σ H1 x v _ I1 r1 q1) fun _ s2 q=>q
theorem zE {i:Nat} {x:Str} {e:Expr} {te:TE} {pos':Pos} (hN:X.N.Nodup) (hi:X.N[i]? = some x) (hx:Loc X.env.scope x) (he:PE X e te) (hs:swapsWith e (some (.Name x pos')) pos.line X.env = pure false:=by rfl) (hf:X.fn x = true\/X.env.scope.names.lookup x = some .local:=by first | exact .inl rfl | exact .inr rfl | assumption) :
  PS X (.Assign [.Name x pos'] e pos) (zr7 te (zjb i)):=by
 intro zm s σ H D I h
 refine wpAny_Assign_Name (thn (he zm s σ H _ I h) fun v s1 ⟨y,H1,I1,r1,q1⟩=>?_) hs
 exact zhK I1 hN hi hx r1 (fun s2 I2=>⟨_,H1,I2,q1⟩) hf
end
structure It where
 go:Nat->Hp->Prop
 yld:Nat->Hp->V->Hp->Prop
 stop:Nat->Hp->Prop
def FpOk (X:Cx) (zm:List (Addr × Obj)) (H:Hp) (b:Addr):Prop :=
 H b = none/\b ≠ X.env.locals/\b ∉ X.fs/\(b ∈ X.ex\/X.s₀.heap.objs.size <= b)/\(∀ x c,X.env.cells.lookup x = some c->c ≠ b)/\∀ p ∈ X.pn ++ zm,p.1 ≠ b
theorem Inv.fpOk {X:Cx} {zm:List (Addr × Obj)} {σ:St} {H H':Hp} {s:Shared} {b:Addr} (I:Inv X zm σ H s) (hb:s.heap.objs.size <= b) (hn:H' b = none):FpOk X zm H' b:=by
 refine ⟨hn,Nat.ne_of_gt (Nat.lt_of_lt_of_le I.lt hb),I.nofs hb,.inr (Nat.le_trans I.sz hb),fun x c e z=>?_,fun p hp z=>?_⟩
 ·obtain ⟨v,q⟩:=I.cell x c e
  exact absurd (Nat.lt_of_lt_of_le q.lt (by rw [z]; exact hb)) (Nat.lt_irrefl _)
 ·exact absurd (Nat.lt_of_lt_of_le (Heap.lt_size (I.pin p hp).1) (by rw [z]; exact hb)) (Nat.lt_irrefl _)
structure Turn (P:Program) (w:World) (K:W.Frag) (tg:Expr) (J:It) (fp:List Addr) (it:Addr) (tn:Nat->Heap->Prop):Prop where
 mem:it ∈ fp
 obj:∀ i h,tn i h->∀ b ∈ fp,∃ o,h.get? b = some o/\∀ v,o.data ≠ .cell v
 keep:∀ i h h',tn i h->(∀ b ∈ fp,∀ o,h.get? b = some o->h'.get? b = some o)->tn i h'
 item:∀ (X:Cx),X.prog = P->X.w = w->X.K = K->X.calm = true->∀ (i:Nat) (zm:List (Addr × Obj)) (s:Shared) (σ:St) (H:Hp) (E:Value->Shared->Prop),Inv X zm σ H s->(∀ b ∈ fp,FpOk X zm H b)->tn i s.heap->J.go i H ->
  wpAny (model P w) X.A (pyNext (.ref it)) (fun r s1=>∃ u,r = some u /\
   wpAny (model P w) X.A (letOwnedTupleGo tg (.ref it) u) (fun _ s2=>∃ x H',Inv X zm σ H' s2/\RelV x u/\J.yld i H x H'/\tn (i + 1) s2.heap/\∀ b ∈ fp,H' b = none) E s1) E s
 done:∀ (X:Cx),X.prog = P->X.w = w->X.K = K->X.calm = true->∀ (i:Nat) (zm:List (Addr × Obj)) (s:Shared) (σ:St) (H:Hp) (E:Value->Shared->Prop),Inv X zm σ H s->(∀ b ∈ fp,FpOk X zm H b)->tn i s.heap->J.stop i H ->
  wpAny (model P w) X.A (pyNext (.ref it)) (fun r s1=>r = none/\Inv X zm σ H s1) E s
 self:∀ (A:Around) (i:Nat) (s:Shared) (Q:Value->Shared->Prop) (E:Value->Shared->Prop),tn i s.heap->Q (.ref it) s->wpAny (model P w) A (pyIter (.ref it)) Q E s
abbrev TI:=St->Hp->(It->Hp->Prop)->Prop
def PIE (X:Cx) (zm:List (Addr × Obj)) (σ:St) (tg:Expr) (R:It->Hp->Prop) (itv:Value) (s2:Shared):Prop :=
 ∃ (it:Addr) (fp:List Addr) (tn:Nat->Heap->Prop) (J:It) (H':Hp),itv = .ref it/\Inv X zm σ H' s2/\Turn X.prog X.w X.K tg J fp it tn/\tn 0 s2.heap/\(∀ b ∈ fp,FpOk X zm H' b)/\R J H'
def PI (X:Cx) (tg iter:Expr) (wi:TI):Prop :=
 ∀ (zm:List (Addr × Obj)) (s:Shared) (σ:St) (H:Hp) (R:It->Hp->Prop),Inv X zm σ H s->wi σ H R ->
  wpAny (model X.prog X.w) X.A (eval iter X.env) (fun v s1=>wpAny (model X.prog X.w) X.A (pyIter v) (PIE X zm σ tg R) X.xe s1) X.xe s
theorem zmW {M:Model} {A:Around} {E:Value->Shared->Prop} {s:Shared} {tg:Expr} {it:Addr} {u:Value} {o:Obj} {n:String} {vs:Array Value} {Q:Unit->Shared->Prop} (ho:s.heap.get? it = some o) (hc:o.cls = .type n) (hd:o.data = .fields vs)
    (hn:["enumerate","zip","dict_itemiterator","dict_reverseitemiterator","odict_iterator","itertools.zip_longest","itertools.pairwise"].contains n = false) (hQ:Q () s):wpAny M A (letOwnedTupleGo tg (.ref it) u) Q E s:=by
  unfold letOwnedTupleGo
  cases tg <;> first
    | exact wpAny_pure hQ
    | (cases u <;> first
        | exact wpAny_pure hQ
        | (refine wpAny_bind (wpAny_load ho ?_)
           rw [hc,hd]
           show wpAny M A (if (["enumerate","zip","dict_itemiterator","dict_reverseitemiterator","odict_iterator","itertools.zip_longest","itertools.pairwise"].contains n && vs[0]? == some (rawInt _)) = true then _ else _) Q E s
           rw [if_neg (by intro h; rw [hn,Bool.false_and] at h; cases h)]
           exact wpAny_pure hQ))
def Itl (K:W.Frag) (a:Addr):It :=
 ⟨fun i H=>∃ xs x,SqL K H a xs/\xs[i]? = some x,fun i H x H'=>H' = H/\∀ xs,SqL K H a xs->xs[i]? = some x,fun i H=>∃ xs,SqL K H a xs/\xs.length <= i⟩
def Itt (K:W.Frag) (a:Addr):It :=
 ⟨fun i H=>∃ xs x,SqT K H a xs/\xs[i]? = some x,fun i H x H'=>H' = H/\∀ xs,SqT K H a xs->xs[i]? = some x,fun i H=>∃ xs,SqT K H a xs/\xs.length <= i⟩
def Itr (lo:Int) (n:Nat):It:=⟨fun i _=>i < n,fun i H x H'=>H' = H/\x = .int (lo + i),fun i _=>n <= i⟩
theorem zik {P:Program} {w:World} {K:W.Frag} {tg:Expr} (a it:Addr):Turn P w K tg (Itl K a) [it] it (fun i h=>h.IsListIter it a i) where
 mem:=by simp
 obj:=fun i h st b hb=>by
  have e:b = it:=by simpa using hb
  subst e
  obtain ⟨o,e,c,d⟩:=st
  exact ⟨o,e,fun v z=>by rw [d] at z; cases z⟩
 keep:=fun i h h' st k=>st.at fun o e=>k it (by simp) o e
 item:=by
  intro X hP hw hK hc i zm s σ H E I hf st hg
  subst hP hw hK
  obtain ⟨xs,x,hq,hx⟩:=hg
  obtain ⟨its,rv,p,hz⟩:=I.list hq
  obtain ⟨u,hu,ru⟩:=rv.get hx
  obtain ⟨f0,f1,f2,f3,f4,f5⟩:=hf it (by simp)
  refine wpAny_pyNext_list_item st p.isList (x:=u) (by simpa using hu) fun h' st' sb=>?_
  have I1:Inv X zm σ H { s with heap:=h' }:=I.turned (t':=s.toks) (fun b o hb e=>(sb.2 b hb).trans e) f0 f1 f3 f4 f5
  obtain ⟨o,e,c,d⟩:=id st'
  exact ⟨u,rfl,zmW (s:={ s with heap:=h' }) e c d (by decide) ⟨x,H,I1,ru,⟨rfl,fun ys hy=>by rw [I.list_inj hy hq]; exact hx⟩,st',fun b hb=>(hf b hb).1⟩⟩
 done:=by
  intro X hP hw hK hc i zm s σ H E I hf st hg
  subst hP hw hK
  obtain ⟨xs,hq,hx⟩:=hg
  obtain ⟨its,rv,p,hz⟩:=I.list hq
  obtain ⟨f0,f1,f2,f3,f4,f5⟩:=hf it (by simp)
  have hl:=rv.length
  exact wpAny_pyNext_list_end (I.ok.hd hc) st p.isList (by simp; omega) fun h' eb=>⟨rfl,I.turned (t':=s.toks) (fun b o hb e=>eb b o hb e) f0 f1 f3 f4 f5⟩
 self:=fun _ _ _ _ _ st h=>wpAny_pyIter_listiter st h
theorem zkV {P:Program} {w:World} {K:W.Frag} {tg:Expr} (a it:Addr):Turn P w K tg (Itt K a) [it] it (fun i h=>h.IsTupleIter it a i) where
 mem:=by simp
 obj:=fun i h st b hb=>by
  have e:b = it:=by simpa using hb
  subst e
  obtain ⟨o,e,c,d⟩:=st
  exact ⟨o,e,fun v z=>by rw [d] at z; cases z⟩
 keep:=fun i h h' st k=>st.at fun o e=>k it (by simp) o e
 item:=by
  intro X hP hw hK hc i zm s σ H E I hf st hg
  subst hP hw hK
  obtain ⟨xs,x,hq,hx⟩:=hg
  obtain ⟨its,rv,p,hz⟩:=I.tuple hq
  obtain ⟨u,hu,ru⟩:=rv.get hx
  obtain ⟨f0,f1,f2,f3,f4,f5⟩:=hf it (by simp)
  refine wpAny_pyNext_tuple_item st (show s.heap.IsTuple a its.toArray from p) (x:=u) (by simpa using hu) fun h' st' sb=>?_
  have I1:Inv X zm σ H { s with heap:=h' }:=I.turned (t':=s.toks) (fun b o hb e=>(sb.2 b hb).trans e) f0 f1 f3 f4 f5
  obtain ⟨o,e,c,d⟩:=id st'
  exact ⟨u,rfl,zmW (s:={ s with heap:=h' }) e c d (by decide) ⟨x,H,I1,ru,⟨rfl,fun ys hy=>by rw [I.tuple_inj hy hq]; exact hx⟩,st',fun b hb=>(hf b hb).1⟩⟩
 done:=by
  intro X hP hw hK hc i zm s σ H E I hf st hg
  subst hP hw hK
  obtain ⟨xs,hq,hx⟩:=hg
  obtain ⟨its,rv,p,hz⟩:=I.tuple hq
  obtain ⟨f0,f1,f2,f3,f4,f5⟩:=hf it (by simp)
  have hl:=rv.length
  exact wpAny_pyNext_tuple_end (I.ok.hd hc) st (show s.heap.IsTuple a its.toArray from p) (by simp; omega) fun h' eb=>⟨rfl,I.turned (t':=s.toks) (fun b o hb e=>eb b o hb e) f0 f1 f3 f4 f5⟩
 self:=fun _ _ _ _ _ st h=>wpAny_pyIter_tupleiter st h
theorem zks {P:Program} {w:World} {K:W.Frag} {tg:Expr} (it:Addr) (lo:Int) (n:Nat):Turn P w K tg (Itr lo n) [it] it (fun i h=>IsRangeIter h it (lo + (i:Nat) * 1) ((n:Int) - (i:Nat)) 1) where
 mem:=by simp
 obj:=fun i h st b hb=>by
  have e:b = it:=by simpa using hb
  subst e
  exact ⟨_,st,fun v z=>by
   have z':Data.fields _ = Data.cell v:=z
   cases z'⟩
 keep:=fun i h h' st k=>k it (by simp) _ st
 item:=by
  intro X hP hw hK hc i zm s σ H E I hf st hg
  subst hP hw hK
  obtain ⟨f0,f1,f2,f3,f4,f5⟩:=hf it (by simp)
  have W:=Walks.range (prog:=X.prog) (w:=X.w) (I.ok.hd hc) it lo 1 n
  refine W.item i s _ _ hg st fun v h' tk hv st' kk=>?_
  obtain ⟨t,rfl⟩:=hv
  have I1:Inv X zm σ H { s with heap:=h',toks:=tk }:=I.turned (fun b o hb e=>kk b o (by simpa using hb) e) f0 f1 f3 f4 f5
  refine ⟨_,rfl,zmW (s:={ s with heap:=h',toks:=tk }) (n:="range_iterator") st' rfl rfl (by decide) ⟨.int (lo + i),H,I1,⟨t,?_⟩,⟨rfl,rfl⟩,st',fun b hb=>(hf b hb).1⟩⟩
  rw [Int.mul_one]
 done:=by
  intro X hP hw hK hc i zm s σ H E I hf st hg
  subst hP hw hK
  obtain ⟨f0,f1,f2,f3,f4,f5⟩:=hf it (by simp)
  exact wpAny_pyNext_range_end (I.ok.hd hc) st (by have:n <= i:=hg; omega) fun h' eb=>⟨rfl,I.turned (t':=s.toks) (fun b o hb e=>eb b o hb e) f0 f1 f3 f4 f5⟩
 self:=fun _ _ _ _ _ st h=>wpAny_pyIter_rangeiter st h
end
section
section
variable {X:Cx} {tg:Expr}
def zpV (K:W.Frag) (tl:TE):TI:=fun σ H R=>tl σ H fun x H1=>∃ a,x = .ref a/\(∃ xs,SqL K H1 a xs)/\R (Itl K a) H1
theorem zpL {l:Expr} {tl:TE} (hl:PE X l tl):PI X tg l (zpV X.K tl):=by
 intro zm s σ H R I h
 refine thn (hl zm s σ H _ I h) fun v s1 ⟨x,H1,I1,r1,q1⟩=>?_
 obtain ⟨a,e,⟨xs,hq⟩,q⟩:=q1
 subst e
 cases r1
 obtain ⟨its,rv,p,hz⟩:=I1.list hq
 refine wpAny_pyIter_list p.isList ?_
 refine ⟨s1.heap.objs.size,[s1.heap.objs.size],_,_,H1,rfl,I1.kept (t':=s1.toks) fun b o e=>Heap.get?_push_of_some _ e,zik a _,⟨_,Heap.get?_push_size _ rfl,rfl,rfl⟩,fun b hb=>?_,q⟩
 have e:b = s1.heap.objs.size:=by simpa using hb
 subst e
 exact I1.fpOk (Nat.le_refl _) (I1.hok.fresh (Nat.le_refl _))
def zq2 (wi:TI) (g:TG) (tb:TS):TS:=fun D σ H=>wi σ H fun J H1=>∃ W:Nat->Nat->St->Hp->Prop,(∃ m,W 0 m σ H1)/\∀ i m σ H,W i m σ H ->
 (J.stop i H/\D.nx σ H)\/(J.go i H/\∃ N:St->Hp->Prop,(∀ σ' H',N σ' H'->∃ m',m' < m/\W (i + 1) m' σ' H')/\∀ x H',J.yld i H x H'->g x σ H' fun σ2 H2=>tb { D with nx:=N,ct:=N,bk:=D.nx } σ2 H2)
def zib (fp:List Addr) (h:Heap):List (Addr × Obj):=fp.filterMap fun b=>(h.get? b).map fun o=>(b,o)
theorem zes {fp:List Addr} {h:Heap} {b:Addr} {o:Obj} (hb:b ∈ fp) (e:h.get? b = some o):(b,o) ∈ zib fp h:=List.mem_filterMap.mpr ⟨b,hb,by rw [e]; rfl⟩
theorem zlY {fp:List Addr} {h:Heap} {p:Addr × Obj} (hp:p ∈ zib fp h):p.1 ∈ fp/\h.get? p.1 = some p.2:=by
 obtain ⟨b,hb,e⟩:=List.mem_filterMap.mp hp
 cases q:h.get? b with
 | none=>rw [q] at e; cases e
 | some o =>
  rw [q] at e
  have e':(b,o) = p:=Option.some.inj e
  subst e'
  exact ⟨hb,q⟩
theorem Inv.pinned {zm:List (Addr × Obj)} {σ:St} {H:Hp} {s:Shared} {fp:List Addr} (I:Inv X zm σ H s) (hf:∀ b ∈ fp,FpOk X zm H b) (ho:∀ b ∈ fp,∃ o,s.heap.get? b = some o/\∀ v,o.data ≠ .cell v):Inv X (zm ++ zib fp s.heap) σ H s :=
 I.pins_of fun p hp=>(List.mem_append.mp hp).elim (fun z=>I.pin p (List.mem_append_right _ z)) fun z=>by
  obtain ⟨hb,e⟩:=zlY z
  obtain ⟨f0,f1,f2,_⟩:=hf p.1 hb
  obtain ⟨o,e',d⟩:=ho p.1 hb
  rw [e] at e'; cases e'
  exact ⟨e,f0,f1,f2,d⟩
theorem Inv.unpinned {zm pl:List (Addr × Obj)} {σ:St} {H:Hp} {s:Shared} (I:Inv X (zm ++ pl) σ H s):Inv X zm σ H s:=I.pins_of fun p hp=>I.pin p (List.mem_append_right _ (List.mem_append_left _ hp))
theorem zbU {iter:Expr} {body:List Stmt} {wi:TI} {g:TG} {tb:TS} {pos:Pos} (hp:PassesOwn (model X.prog X.w) X.A X.env X.xe) (hc:X.calm = true) (hi:PI X tg iter wi) (hg:PG X tg g) (hb:PSs X body tb)
  (hs:∀ x,foldedSetIterable iter X.env x = pure x:=by intro _; rfl):PS X (.For tg iter body [] pos) (zq2 wi g tb):=by
 intro zm s σ H D I h
 refine wpAny_For (thn (hi zm s σ H _ I h) fun v s1 h1=>thn h1 fun itv s2 h2=>?_) hs
 obtain ⟨it,fp,tn,J,H2,e,I2,T,st2,f2,W,⟨m0,w0⟩,turn⟩:=h2
 subst e
 -- what stays true of the iterator's objects through the loop
 have stat:∀ {H':Hp},(∀ b ∈ fp,H' b = none)->∀ b ∈ fp,FpOk X zm H' b:=fun hn b hb=>⟨hn b hb,(f2 b hb).2⟩
 refine codeAny_forLoop_any (fun n s'=>∃ i σ' H',Inv X zm σ' H' s'/\tn i s'.heap/\(∀ b ∈ fp,H' b = none)/\W i n σ' H') ?_ m0 ⟨0,σ,H2,I2,st2,fun b hb=>(f2 b hb).1,w0⟩
 rintro n s3 ⟨i,σ3,H3,I3,st3,fr3,w3⟩
 rcases turn i n σ3 H3 w3 with ⟨stop,qn⟩ | ⟨go,N,hN,step⟩
 ·refine wpAny_passesOwn hp (thn (T.done X rfl rfl rfl hc i zm s3 σ3 H3 X.xe I3 (stat fr3) st3 stop) fun r s4 ⟨hr,I4⟩=>?_)
  subst hr
  exact wpAny_execs_nil ⟨σ3,H3,I4,qn⟩
 ·refine wpAny_passesOwn hp (thn (T.item X rfl rfl rfl hc i zm s3 σ3 H3 X.xe I3 (stat fr3) st3 go) fun r s4 ⟨u,hr,h4⟩=>?_)
  subst hr
  refine wpAny_passesOwn hp (thn h4 fun _ s5 ⟨x,H5,I5,r5,y5,st5,fr5⟩=>?_)
  have I5':=I5.pinned (stat fr5) (T.obj _ _ st5)
  refine wpAny_passesOwn hp (thn (hg _ s5 σ3 H5 x u _ I5' r5 (step x H5 y5)) fun _ s6 ⟨σ6,H6,I6,q6⟩=>?_)
  refine wpAny_passesOwn hp (thn (hb _ s6 σ6 H6 _ I6 q6) fun f s7 q7=>?_)
  have again:∀ {σ7:St} {H7:Hp},Inv X (zm ++ zib fp s5.heap) σ7 H7 s7->N σ7 H7->∃ m,m < n/\∃ i σ' H',Inv X zm σ' H' s7/\tn i s7.heap/\(∀ b ∈ fp,H' b = none)/\W i m σ' H':=fun {σ7 H7} I7 n7=>by
   obtain ⟨m',hm,w7⟩:=hN σ7 H7 n7
   refine ⟨m',hm,i + 1,σ7,H7,I7.unpinned,T.keep _ _ _ st5 fun b hb o e=>(I7.pin (b,o) (List.mem_append_right _ (List.mem_append_right _ (zes hb e)))).1,fun b hb=>?_,w7⟩
   obtain ⟨o,e,d⟩:=T.obj _ _ st5 b hb
   exact (I7.pin (b,o) (List.mem_append_right _ (List.mem_append_right _ (zes hb e)))).2.1
  cases f with
  | next=>obtain ⟨σ7,H7,I7,n7⟩:=q7; exact again I7 n7
  | cont=>obtain ⟨σ7,H7,I7,n7⟩:=q7; exact again I7 n7
  | brk=>obtain ⟨σ7,H7,I7,q7⟩:=q7; exact ⟨σ7,H7,I7.unpinned,q7⟩
  | ret v=>obtain ⟨x7,σ7,H7,I7,r7,q7⟩:=q7; exact ⟨x7,σ7,H7,I7.unpinned,r7,q7⟩
end
theorem zne {K:W.Frag} {a:Addr} {xs:List V} {g:TG} {tb:TS} {D:Ends} {σ:St} {H:Hp} (Pv:Nat->St->Hp->Prop) (h0:Pv 0 σ H) (hl:∀ i σ H,i <= xs.length->Pv i σ H->SqL K H a xs)
  (hs:∀ i x σ H,xs[i]? = some x->Pv i σ H->g x σ H fun σ2 H2=>tb { D with nx:=Pv (i + 1),ct:=Pv (i + 1),bk:=D.nx } σ2 H2) (hd:∀ σ H,Pv xs.length σ H->D.nx σ H) :
  ∃ W:Nat->Nat->St->Hp->Prop,(∃ m,W 0 m σ H)/\∀ i m σ H,W i m σ H ->
   ((Itl K a).stop i H/\D.nx σ H)\/((Itl K a).go i H/\∃ N:St->Hp->Prop,(∀ σ' H',N σ' H'->∃ m',m' < m/\W (i + 1) m' σ' H')/\∀ x H',(Itl K a).yld i H x H'->g x σ H' fun σ2 H2=>tb { D with nx:=N,ct:=N,bk:=D.nx } σ2 H2):=by
 refine ⟨fun i m σ H=>m = xs.length - i/\i <= xs.length/\Pv i σ H,⟨xs.length,by simp,Nat.zero_le _,h0⟩,?_⟩
 rintro i m σ H ⟨rfl,hi,p⟩
 have q:=hl i σ H hi p
 by_cases hlt:i < xs.length
 ·refine .inr ⟨⟨xs,xs[i],q,by simp [hlt]⟩,Pv (i + 1),fun σ' H' p'=>⟨xs.length - (i + 1),by omega,rfl,hlt,p'⟩,fun x H' y=>?_⟩
  obtain ⟨e,y⟩:=y
  subst e
  exact hs i x σ _ (y xs q) p
 ·have e:i = xs.length:=by omega
  subst e
  exact .inl ⟨⟨xs,q,Nat.le_refl _⟩,hd σ H p⟩
end
section
abbrev R2:=V->V->Hp->VK->Prop
def OpR (X:Cx) (f:Value->Value->Sem Value) (r:R2):Prop :=
 ∀ (zm:List (Addr × Obj)) (s:Shared) (σ:St) (H:Hp) (x y:V) (v u:Value) (Q:VK),Inv X zm σ H s->RelV x v->RelV y u->r x y H Q ->
  wpAny (model X.prog X.w) X.A (f v u) (EP X zm σ Q) X.xe s
def UnR (X:Cx) (f:Value->Sem Value) (r:V->Hp->VK->Prop):Prop :=
 ∀ (zm:List (Addr × Obj)) (s:Shared) (σ:St) (H:Hp) (x:V) (v:Value) (Q:VK),Inv X zm σ H s->RelV x v->r x H Q ->
  wpAny (model X.prog X.w) X.A (f v) (EP X zm σ Q) X.xe s
def CallR (X:Cx) (f:Value) (r:List V->Hp->VK->Prop):Prop :=
 ∀ (zm:List (Addr × Obj)) (s:Shared) (σ:St) (H:Hp) (xs:List V) (us:List Value) (Q:VK),Inv X zm σ H s->Vals xs us->r xs H Q ->
  wpAny (model X.prog X.w) X.A (call f us) (EP X zm σ Q) X.xe s
def TruR (X:Cx) (r:V->Hp->(Bool->Hp->Prop)->Prop):Prop :=
 ∀ (zm:List (Addr × Obj)) (s:Shared) (σ:St) (H:Hp) (x:V) (v:Value) (Q:Bool->Hp->Prop),Inv X zm σ H s->RelV x v->r x H Q ->
  wpAny (model X.prog X.w) X.A (truthy v) (TP X zm σ Q) X.xe s
def tOp (r:R2) (ta tb:TE):TE:=fun σ H Q=>ta σ H fun x H1=>tb σ H1 fun y H2=>r x y H2 Q
def tUn (r:V->Hp->VK->Prop) (ta:TE):TE:=fun σ H Q=>ta σ H fun x H1=>r x H1 Q
def rI (C:Int->Int->Prop) (g:Int->Int->V):R2:=fun x y H Q=>∃ i j,x = .int i/\y = .int j/\C i j/\Q (g i j) H
def rI0 (g:Int->Int->V):R2:=fun x y H Q=>∃ i j,x = .int i/\y = .int j/\Q (g i j) H
def rU (g:Int->V):V->Hp->VK->Prop:=fun x H Q=>∃ i,x = .int i/\Q (g i) H
section
variable {X:Cx} {a b c:Expr} {ta tb tc:TE} {pos:Pos}
theorem zsp (ha:PE X a ta) (hb:PE X b tb) {zm:List (Addr × Obj)} {s:Shared} {σ:St} {H:Hp} {R:V->V->Hp->Prop} (I:Inv X zm σ H s)
  (h:ta σ H fun x H1=>tb σ H1 fun y H2=>R x y H2) {Q:Value->Shared->Prop} {f:Value->Value->Sem Value}
  (hf:∀ v u s2 x y H2,Inv X zm σ H2 s2->RelV x v->RelV y u->R x y H2->wpAny (model X.prog X.w) X.A (f v u) Q X.xe s2) :
  wpAny (model X.prog X.w) X.A (eval a X.env) (fun v s₁=>wpAny (model X.prog X.w) X.A (eval b X.env) (fun u s₂=>wpAny (model X.prog X.w) X.A (f v u) Q X.xe s₂) X.xe s₁) X.xe s:=by
 refine thn (ha zm s σ H _ I h) fun v s1 ⟨x,H1,I1,r1,q1⟩=>?_
 refine thn (hb zm s1 σ H1 _ I1 q1) fun u s2 ⟨y,H2,I2,r2,q2⟩=>?_
 exact hf v u s2 x y H2 I2 r1 r2 q2
theorem zF {op:Operator} {r:R2} (ho:OpR X (binaryOp op) r) (ha:PE X a ta) (hb:PE X b tb):PE X (.BinOp a op b pos) (tOp r ta tb):=by
 intro zm s σ H Q I h
 exact wpAny_BinOp (zsp ha hb I h fun v u s2 x y H2 I2 rx ry q=>ho zm s2 σ H2 x y v u Q I2 rx ry q)
theorem zfV {op:UnaryOp} {r:V->Hp->VK->Prop} (ho:UnR X (unaryOp op) r) (ha:PE X a ta):PE X (.UnaryOp op a pos) (tUn r ta):=by
 intro zm s σ H Q I h
 exact UnaryOp_ (thn (ha zm s σ H _ I h) fun v s1 ⟨x,H1,I1,r1,q1⟩=>ho zm s1 σ H1 x v Q I1 r1 q1)
theorem opI {f:Value->Value->Sem Value} {C:Int->Int->Prop} {g:Int->Int->Int}
  (rule:∀ (i j:Int) (t u:Tok) (s:Shared) (Q:Value->Shared->Prop) (E:Value->Shared->Prop),C i j->Q (.int (g i j) s.toks) { s with toks:=s.toks + 1 }->wpAny (model X.prog X.w) X.A (f (.int i t) (.int j u)) Q E s) :
  OpR X f (rI C fun i j=>.int (g i j)):=by
 intro zm s σ H x y v u Q I rx ry h
 obtain ⟨i,j,rfl,rfl,hc,q⟩:=h
 obtain ⟨t,rfl⟩:=rx
 obtain ⟨t',rfl⟩:=ry
 exact rule i j t t' s _ _ hc ⟨.int (g i j),H,I.tok _,⟨_,rfl⟩,q⟩
theorem zs3 {f:Value->Value->Sem Value} {g:Int->Int->Int}
  (rule:∀ (i j:Int) (t u:Tok) (s:Shared) (Q:Value->Shared->Prop) (E:Value->Shared->Prop),Q (.int (g i j) s.toks) { s with toks:=s.toks + 1 }->wpAny (model X.prog X.w) X.A (f (.int i t) (.int j u)) Q E s) :
  OpR X f (rI0 fun i j=>.int (g i j)):=by
 intro zm s σ H x y v u Q I rx ry h
 obtain ⟨i,j,rfl,rfl,q⟩:=h
 obtain ⟨t,rfl⟩:=rx
 obtain ⟨t',rfl⟩:=ry
 exact rule i j t t' s _ _ ⟨.int (g i j),H,I.tok _,⟨_,rfl⟩,q⟩
theorem zsj {f:Value->Value->Sem Value} {g:Int->Int->Bool}
  (rule:∀ (i j:Int) (t u:Tok) (s:Shared) (Q:Value->Shared->Prop) (E:Value->Shared->Prop),Q (.bool (g i j)) s->wpAny (model X.prog X.w) X.A (f (.int i t) (.int j u)) Q E s) :
  OpR X f (rI0 fun i j=>.bl (g i j)):=by
 intro zm s σ H x y v u Q I rx ry h
 obtain ⟨i,j,rfl,rfl,q⟩:=h
 obtain ⟨t,rfl⟩:=rx
 obtain ⟨t',rfl⟩:=ry
 exact rule i j t t' s _ _ ⟨.bl (g i j),H,I,rfl,q⟩
def CDivN (i j:Int):Prop:=j ≠ 0/\j.natAbs < 1073741824
def CPow (i j:Int):Prop:=0 <= j/\j <= 1000000/\i.natAbs < 2 ^ 64
theorem zrB:OpR X (binaryOp .Add) (rI0 fun i j=>.int (i + j)):=zs3 fun _ _ _ _ _ _ _ q=>add_int q
theorem zcY:OpR X (binaryOp .Sub) (rI0 fun i j=>.int (i - j)):=zs3 fun _ _ _ _ _ _ _ q=>sub_int q
theorem znk:OpR X (binaryOp .FloorDiv) (rI CDivN fun i j=>.int (i.fdiv j)):=opI fun _ _ _ _ _ _ _ hc q=>floordiv_int hc.1 q (.inl (PyProof.noPylong_small hc.2))
theorem zfw:OpR X (binaryOp .Mod) (rI (fun _ j=>0 < j) fun i j=>.int (i % j)):=opI fun i j _ _ _ _ _ hc q=>by
 have h1:(0:Int) < j:=hc
 exact mod_int' (by omega) (by rw [Int.fmod_eq_emod_of_nonneg i (by omega)]; exact q)
theorem zgU:OpR X (binaryOp .Pow) (rI CPow fun i j=>.int (i ^ j.toNat)):=opI fun _ _ _ _ _ _ _ hc q=>pow_int_small hc.1 hc.2.1 hc.2.2 q
theorem unI {f:Value->Sem Value} {g:Int->Int}
  (rule:∀ (i:Int) (t:Tok) (s:Shared) (Q:Value->Shared->Prop) (E:Value->Shared->Prop),Q (.int (g i) s.toks) { s with toks:=s.toks + 1 }->wpAny (model X.prog X.w) X.A (f (.int i t)) Q E s) :
  UnR X f (rU fun i=>.int (g i)):=by
 intro zm s σ H x v Q I rx h
 obtain ⟨i,rfl,q⟩:=h
 obtain ⟨t,rfl⟩:=rx
 exact rule i t s _ _ ⟨.int (g i),H,I.tok _,⟨_,rfl⟩,q⟩
theorem zee:UnR X (unaryOp .USub) (rU fun i=>.int (-i)):=unI fun _ _ _ _ _ q=>neg_int q
end
section
variable {X:Cx} {a b c:Expr} {ta tb tc:TE} {pos:Pos}
theorem zj3 {zm:List (Addr × Obj)} {σ:St} {H:Hp} {s:Shared} {Q:VK} {k k':Bool} (I:Inv X zm σ H s) (q:Q (.bl k) H) (e:k = k'):EP X zm σ Q (.bool k') s:=by
 subst e
 exact ⟨.bl k,H,I,rfl,q⟩
theorem zih:OpR X (compareOp .Lt) (rI0 fun i j=>.bl (decide (i < j))):=zsj fun _ _ _ _ _ _ _ q=>lt_int q
theorem zn2:OpR X (compareOp .LtE) (rI0 fun i j=>.bl (decide (i <= j))):=zsj fun _ _ _ _ _ _ _ q=>le_int q
theorem zi8:OpR X (compareOp .Gt) (rI0 fun i j=>.bl (decide (j < i))):=zsj fun _ _ _ _ _ _ _ q=>gt_int q
theorem zst:OpR X (compareOp .GtE) (rI0 fun i j=>.bl (decide (j <= i))):=zsj fun _ _ _ _ _ _ _ q=>ge_int q
theorem zrO:OpR X (compareOp .Is) (fun x y H Q=>y = .non/\Q (.bl (decide (x = .non))) H):=by
 intro zm s σ H x y v u Q I rx ry h
 obtain ⟨rfl,q⟩:=h
 cases ry
 refine is_none_gen (zj3 I q ?_)
 cases x <;> first
  | (cases rx; rfl)
  | (obtain ⟨t,rfl⟩:=rx; rfl)
theorem zpq:OpR X (compareOp .IsNot) (fun x y H Q=>y = .non/\Q (.bl (!decide (x = .non))) H):=by
 intro zm s σ H x y v u Q I rx ry h
 obtain ⟨rfl,q⟩:=h
 cases ry
 refine isnot_none_gen (zj3 I q ?_)
 cases x <;> first
  | (cases rx; rfl)
  | (obtain ⟨t,rfl⟩:=rx; rfl)
theorem zh0:OpR X (compareOp .NotIn) (fun x y H Q=>∃ i j,x = .str i/\y = .str j/\Q (.bl (!(!(Builtin.Str.occurrences j i 0 j.length 1).isEmpty))) H):=by
 intro zm s σ H x y v u Q I rx ry h
 obtain ⟨i,j,rfl,rfl,q⟩:=h
 obtain ⟨t,rfl⟩:=rx
 obtain ⟨t',rfl⟩:=ry
 exact notIn_str (zj3 I q rfl)
theorem OpR.or {f:Value->Value->Sem Value} {r r':R2} (h:OpR X f r) (h':OpR X f r'):OpR X f (fun x y H Q=>r x y H Q\/r' x y H Q):=by
 intro zm s σ H x y v u Q I rx ry q
 rcases q with q | q
 ·exact h zm s σ H x y v u Q I rx ry q
 ·exact h' zm s σ H x y v u Q I rx ry q
theorem nomark (b:Expr) {op:CmpOp} (h:op ≠ .In:=by decide) (h2:op ≠ .NotIn:=by decide):behindInMarks op b = false:=by
 have e1:(op == CmpOp.In) = false:=by cases op <;> first | rfl | exact absurd rfl h
 have e2:(op == CmpOp.NotIn) = false:=by cases op <;> first | rfl | exact absurd rfl h2
 cases b <;> simp [behindInMarks,e1,e2]
theorem zcP {op:CmpOp} {r:R2} (ho:OpR X (compareOp op) r) (ha:PE X a ta) (hb:PE X b tb) (hm:behindInMarks op b = false):PE X (.Compare a [op] [b] pos) (tOp r ta tb):=by
 intro zm s σ H Q I h
 exact wpAny_Compare1 (zsp ha hb I h fun v u s2 x y H2 I2 rx ry q=>ho zm s2 σ H2 x y v u Q I2 rx ry q) hm
def znH (t:TE):TT:=fun σ H Q=>t σ H fun x H'=>∃ k,x = .bl k/\Q k H'
theorem zU {op:CmpOp} {r:R2} (ho:OpR X (compareOp op) r) (ha:PE X a ta) (hb:PE X b tb) (hm:behindInMarks op b = false):PT X (.Compare a [op] [b] pos) (znH (tOp r ta tb)):=by
 intro zm s σ H Q I h
 refine wpAny_isTrue_Compare1 (thn (ha zm s σ H _ I h) fun v s1 ⟨x,H1,I1,r1,q1⟩=>thn (hb zm s1 σ H1 _ I1 q1) fun u s2 ⟨y,H2,I2,r2,q2⟩ =>
  thn (ho zm s2 σ H2 x y v u _ I2 r1 r2 q2) fun c s3 ⟨z,H3,I3,r3,k,e,q3⟩=>?_) hm
 subst e
 cases r3
 exact wpAny_truthy_bool ⟨H3,I3,q3⟩
def zod (r r':R2) (ta tb tc:TE):TE:=fun σ H Q=>ta σ H fun x H1=>tb σ H1 fun y H2=>r x y H2 fun z H3=>∃ k,z = .bl k /\
 (if k = true then tc σ H3 fun w' H4=>r' y w' H4 Q else Q (.bl false) H3)
theorem zjU {op op':CmpOp} {r r':R2} (ho:OpR X (compareOp op) r) (ho':OpR X (compareOp op') r') (ha:PE X a ta) (hb:PE X b tb) (hc:PE X c tc)
  (hm:lastMarks [op,op'] [b,c] = false:=by with_unfolding_all rfl):PE X (.Compare a [op,op'] [b,c] pos) (zod r r' ta tb tc):=by
 intro zm s σ H Q I h
 refine Compare_chain (thn (ha zm s σ H _ I h) fun v s1 ⟨x,H1,I1,r1,q1⟩=>chain_link (thn (hb zm s1 σ H1 _ I1 q1) fun u s2 ⟨y,H2,I2,r2,q2⟩ =>
  thn (ho zm s2 σ H2 x y v u _ I2 r1 r2 q2) fun d s3 ⟨z,H3,I3,r3,k,e,q3⟩=>?_)) hm
 subst e
 cases r3
 refine wpAny_truthy_bool ?_
 cases k with
 | false=>exact ite_ff ⟨.bl false,H3,I3,rfl,q3⟩
 | true=>exact ite_tt (chain_last (thn (hc zm s3 σ H3 _ I3 q3) fun w' s4 ⟨z',H4,I4,r4,q4⟩=>ho' zm s4 σ H4 y z' u w' Q I4 r2 r4 q4))
def TruV (K:W.Frag) (x:V) (H:Hp) (k:Bool):Prop :=
 match x with
 | .non=>k = false
 | .bl b=>k = b
 | .int i=>k = (i != 0)
 | .str y=>y.length <= sizeLine/\k = ((y.length:Int) != 0)
 | .byt y=>y.size <= sizeLine/\k = ((y.size:Int) != 0)
 | .ref p=>(∃ xs,SqL K H p xs/\k = !xs.isEmpty)\/(∃ xs,SqT K H p xs/\k = !xs.isEmpty)\/∃ kvs,H p = some (.dK kvs)/\k = !kvs.isEmpty
 | _=>False
theorem zkw {κ:Type} {kvs:List (κ × V)} {vs:List (κ × Value)} (r:KV kvs vs):(!vs.isEmpty) = !kvs.isEmpty:=by
 cases r <;> rfl
theorem zgV {xs:List V} {its:List Value} (r:Vals xs its):(!its.toArray.isEmpty) = !xs.isEmpty:=by
 cases r <;> simp
theorem line63:(sizeLine:Nat) < 2 ^ 63:=by rw [sizeLine_eq]; decide
theorem zq5:TruR X (fun x H Q=>∃ k,TruV X.K x H k/\Q k H):=by
 intro zm s σ H x v Q I rx h
 obtain ⟨k,e,q⟩:=h
 have hl:=line63
 have hs:sizeLine = 16777216:=sizeLine_eq
 cases x with
 | non =>
  cases rx
  have e':k = false:=e
  subst e'
  exact truthy_none ⟨H,I,q⟩
 | bl b =>
  cases rx
  have e':k = b:=e
  subst e'
  exact wpAny_truthy_bool ⟨H,I,q⟩
 | int i =>
  obtain ⟨t,rfl⟩:=rx
  have e':k = (i != 0):=e
  subst e'
  exact PySem.P.truthy_int ⟨H,I,q⟩
 | str y =>
  obtain ⟨t,rfl⟩:=rx
  obtain ⟨hy,e'⟩:y.length <= sizeLine/\k = ((y.length:Int) != 0):=e
  subst e'
  exact PySem.P.truthy_str (by omega) ⟨H,I.tok _,q⟩
 | byt y =>
  obtain ⟨t,rfl⟩:=rx
  obtain ⟨hy,e'⟩:y.size <= sizeLine/\k = ((y.size:Int) != 0):=e
  subst e'
  exact PySem.W.truthy_bytes (by omega) ⟨H,I.tok _,q⟩
 | ref p =>
  cases rx
  have e':(∃ xs,SqL X.K H p xs/\k = !xs.isEmpty)\/(∃ xs,SqT X.K H p xs/\k = !xs.isEmpty)\/∃ kvs,H p = some (.dK kvs)/\k = !kvs.isEmpty:=e
  rcases e' with ⟨xs,hx,e'⟩ | ⟨xs,hx,e'⟩ | ⟨kvs,hx,e'⟩
  ·subst e'
   obtain ⟨its,r,pl,hz⟩:=I.list hx
   have hlen:=r.length
   exact wpAny_truthy_list pl.isList (by simp only [List.size_toArray]; omega) ⟨H,I.tok _,by rw [zgV r]; exact q⟩
  ·subst e'
   obtain ⟨its,r,pl,hz⟩:=I.tuple hx
   have hlen:=r.length
   exact truthy_tuple pl (by simp only [List.size_toArray]; omega) ⟨H,I.tok _,by rw [zgV r]; exact q⟩
  ·subst e'
   obtain ⟨hz,hS,vs,r,m⟩:kvs.length <= sizeLine/\(p == sysModules) = false/\∃ vs,KV kvs vs/\s.heap.DictOf (zbK X.prog X.w) p vs:=I.hok p _ hx
   have hlen:kvs.length = vs.length:=Paired.length r
   exact wpAny_truthy_dict hS m (by omega) ⟨H,I.tok _,by rw [zkw r]; exact q⟩
 | _=>exact (show False from e).elim
theorem zc4 (ha:PE X a ta) (he:∀ whole,isTrue a X.env whole = (do let v <- whole; standAt a.pos; holding [v] (truthy v))) :
  PT X a (fun σ H Q=>ta σ H fun x H'=>∃ k,TruV X.K x H' k/\Q k H'):=by
 intro zm s σ H Q I h
 exact isTrue_plain (thn (ha zm s σ H _ I h) fun v s1 ⟨x,H1,I1,r1,q1⟩=>zq5 zm s1 σ H1 x v Q I1 r1 q1) (he _)
theorem zkD:OpR X (binaryOp .Add) (fun x y H Q=>∃ i j,x = .str i/\y = .str j/\i.length + j.length <= sizeLine/\Q (.str (i ++ j)) H):=by
 intro zm s σ H x y v u Q I rx ry h
 obtain ⟨i,j,rfl,rfl,hz,q⟩:=h
 obtain ⟨t,rfl⟩:=rx
 obtain ⟨t',rfl⟩:=ry
 exact add_str (fun t' tk=>⟨.str (i ++ j),H,I.tok _,⟨_,rfl⟩,q⟩) hz
theorem vals1 {x:V} {us:List Value} (r:Vals [x] us):∃ u,us = [u]/\RelV x u:=by
 cases r with
 | cons r1 r2=>cases r2; exact ⟨_,rfl,r1⟩
theorem vals2 {x y:V} {us:List Value} (r:Vals [x,y] us):∃ u w',us = [u,w']/\RelV x u/\RelV y w':=by
 cases r with
 | cons r1 r2 =>
  cases r2 with
  | cons r3 r4=>cases r4; exact ⟨_,_,rfl,r1,r3⟩
theorem zfZ (hc:X.calm = true):CallR X (.builtin "max") (fun xs H Q=>∃ i j,xs = [.int i,.int j]/\Q (.int (if j > i then j else i)) H):=by
 intro zm s σ H xs us Q I r h
 obtain ⟨i,j,rfl,q⟩:=h
 obtain ⟨u,w',rfl,⟨t,rfl⟩,⟨t',rfl⟩⟩:=vals2 r
 refine max_two_ints (I.ok.hd hc) fun h' tk k=>⟨_,H,I.kept k,?_,q⟩
 by_cases hj:j > i
 ·rw [if_pos hj,if_pos hj]; exact ⟨_,rfl⟩
 ·rw [if_neg hj,if_neg hj]; exact ⟨_,rfl⟩
theorem zlh (hc:X.calm = true):CallR X (.builtin "min") (fun xs H Q=>∃ i j,xs = [.int i,.int j]/\Q (.int (if j < i then j else i)) H):=by
 intro zm s σ H xs us Q I r h
 obtain ⟨i,j,rfl,q⟩:=h
 obtain ⟨u,w',rfl,⟨t,rfl⟩,⟨t',rfl⟩⟩:=vals2 r
 refine min_two_ints (I.ok.hd hc) fun h' tk k=>⟨_,H,I.kept k,?_,q⟩
 by_cases hj:j < i
 ·rw [if_pos hj,if_pos hj]; exact ⟨_,rfl⟩
 ·rw [if_neg hj,if_neg hj]; exact ⟨_,rfl⟩
theorem zlo:CallR X (.type "int") (fun xs H Q=>(∃ i,xs = [.int i]/\Q (.int i) H)\/∃ k,xs = [.bl k]/\Q (.int (if k then 1 else 0)) H):=by
 intro zm s σ H xs us Q I r h
 rcases h with ⟨i,rfl,q⟩ | ⟨k,rfl,q⟩
 ·obtain ⟨u,rfl,t,rfl⟩:=vals1 r
  exact call_int_int ⟨.int i,H,I,⟨_,rfl⟩,q⟩
 ·obtain ⟨u,rfl,r1⟩:=vals1 r
  cases r1
  exact call_int_bool ⟨.int (if k then 1 else 0),H,I.tok _,⟨_,rfl⟩,q⟩
end
end
section
structure ObjM (h:Heap) (x dx C:Addr) (mA:Str->Option Value):Prop where
 obj:h.get? x = some (PySem.W.instObj C dx)
 ns:h.Ns1 dx mA
 ne:dx ≠ x
theorem zmd {h:Heap} {dx:Addr} {mA:Str->Option Value} (n:h.Ns1 dx mA):∃ od,h.get? dx = some od/\∀ name,PySem.W.lookIn name od = some (mA name):=by
 obtain ⟨o,es,ep,ho,hd,hk,_,hm⟩:=n
 refine ⟨o,ho,fun name=>?_⟩
 have e:=hm name
 unfold nsFind findBy at e
 rw [<- Array.find?_toList] at e
 unfold PySem.W.lookIn
 rw [hd]
 dsimp only
 split
 ·rename_i y q
  rw [q] at e
  exact congrArg some e
 ·rename_i q
  rw [q] at e
  have a:es.toList.any (·.refKey) = false:=by
   rw [List.any_eq_false]
   intro y hy
   obtain ⟨z,t,hkey⟩:=hk y (Array.mem_toList_iff.mp hy)
   simp [DictEntry.refKey,hkey]
  have a':¬ es.toList.any (·.refKey) = true:=by rw [a]; exact Bool.false_ne_true
  rw [if_neg a']
  exact congrArg some e
theorem ObjM.look {h:Heap} {x dx C:Addr} {mA:Str->Option Value} (I:ObjM h x dx C mA):∃ od,PySem.W.InstAt h x (PySem.W.instObj C dx) C (some od)/\∀ name,PySem.W.lookIn name od = some (mA name) :=
 let ⟨od,ho,hl⟩:=zmd I.ns
 ⟨od,⟨I.obj,rfl,rfl,ho⟩,hl⟩
section
variable {P:Program} {w:World} {H H':Hp} {h h':Heap} {a C dx:Addr} {fs fs':List (Str × V)}
theorem zpr (hok:HOk P w H h) (e:H a = some (.ins C dx fs)):∃ mA,ObjM h a dx C mA/\(∀ f,RelO (fs.lookup f) (mA f))/\PySem.Within mA (fs.map (·.1))/\fs.length <= 1000/\H dx = some (.own a):=by
 obtain ⟨d,z,ne,ob,mA,n,r,q⟩:=(show ObjOk P w H h a (.ins C dx fs) from hok a _ e)
 exact ⟨mA,⟨ob,n,ne⟩,r,q,z,d⟩
end
structure Cls (K:W.Frag) (C:Addr):Prop where
 pg:PySem.W.plainGet K C Str.empty = true
 hd:PySem.W.hasDictIn K C = true
 po:PySem.W.plainOver K C = true
 sa:PySem.W.findIn K (.ref C) "__setattr__" = some (some (.builtin "object.__setattr__"))
theorem Cls.get {K:W.Frag} {C:Addr} (c:Cls K C) (f:Str):PySem.W.plainGet K C f = true:=c.pg
section
variable {X:Cx} {zm:List (Addr × Obj)} {σ:St} {H:Hp} {s:Shared} {A:Around} {E:Value->Shared->Prop} {Q:Value->Shared->Prop} {c:Value} {b:Bool}
inductive TyOf (K:W.Frag) (H:Hp):V->Value->Prop where
 | non:TyOf K H .non (.type "NoneType")
 | bl (x:Bool):TyOf K H (.bl x) (.type "bool")
 | int (i:Int):TyOf K H (.int i) (.type "int")
 | str (x:Str):TyOf K H (.str x) (.type "str")
 | flt (x:UInt64):TyOf K H (.flt x) (.type "float")
 | lst {a:Addr} {xs:List V} (e:H a = some (.lst xs)):TyOf K H (.ref a) (.type "list")
 | frz {a:Addr} {o:Obj} {xs:List V} (e:H a = some (.frz o (.lst xs))):TyOf K H (.ref a) (.type "list")
 | tup {a:Addr} {xs:List V} (e:H a = some (.tup xs)):TyOf K H (.ref a) (.type "tuple")
 | dK {a:Addr} {kvs:List (Key × V)} (e:Rd H a (.dK kvs)):TyOf K H (.ref a) (.type "dict")
 | dT {a:Addr} {kvs:List (List Key × V)} (e:Rd H a (.dT kvs)):TyOf K H (.ref a) (.type "dict")
 | ins {a C dx:Addr} {fs:List (Str × V)} (e:H a = some (.ins C dx fs)) (cl:Cls K C) (ha:PySem.W.findIn K (.ref C) "__class__" = some (some (.builtin "object.__class__")))
   (hn:PySem.W.specialIn K (.builtin "object.__class__") "__get__" = some (some (.builtin "getset_descriptor.__get__"))) (htk:PySem.W.takesIn K (.builtin "object.__class__") = some true)
   (hm:PySem.W.mroIn K C (.type "object") = some true):TyOf K H (.ref a) (.ref C)
theorem zmQ {x:V} {u t:Value} (I:Inv X zm σ H s) (rx:RelV x u) (ty:TyOf X.K H x t) (e:PySem.W.kitOne X.K t c = some b) (h:∀ tk,Q (.bool b) { s with toks:=tk }) :
  wpAny (model X.prog X.w) A (call (.builtin "isinstance") [u,c]) Q E s:=by
 cases ty with
 | non=>cases (show u = Value.none from rx); exact PySem.W.kia_one PySem.W.kitx_none I.kIn True.intro e (fun z=>nomatch z) h
 | bl y=>cases (show u = Value.bool y from rx); exact PySem.W.kia_one PySem.W.kitx_bool I.kIn True.intro e (fun z=>nomatch z) h
 | int i=>obtain ⟨t,q⟩:=(show ∃ t,u = Value.int i t from rx); cases q; exact PySem.W.kia_one PySem.W.kitx_int I.kIn True.intro e (fun z=>nomatch z) h
 | str y=>obtain ⟨t,q⟩:=(show ∃ t,u = Value.str y t from rx); cases q; exact PySem.W.kia_one PySem.W.kitx_str I.kIn True.intro e (fun z=>nomatch z) h
 | flt y=>obtain ⟨t,q⟩:=(show ∃ t,u = Value.float y t from rx); cases q; exact PySem.W.kia_one PySem.W.kitx_float I.kIn True.intro e (fun z=>nomatch z) h
 | @lst a xs ea =>
  cases (show u = Value.ref a from rx)
  obtain ⟨_,_,n,_,h1⟩:=(show ObjOk X.prog X.w H s.heap a (.lst xs) from I.hok a _ ea)
  exact PySem.W.kia_one PySem.W.kitx_list I.kIn ⟨_,h1,rfl⟩ e (fun z=>nomatch z) h
 | @frz a ob xs ea =>
  cases (show u = Value.ref a from rx)
  obtain ⟨_,_,_,n,_,h1⟩:=(show ObjOk X.prog X.w H s.heap a (.frz ob (.lst xs)) from I.hok a _ ea)
  exact PySem.W.kia_one PySem.W.kitx_list I.kIn ⟨_,h1,rfl⟩ e (fun z=>nomatch z) h
 | @tup a xs ea =>
  cases (show u = Value.ref a from rx)
  obtain ⟨_,_,_,p⟩:=(show ObjOk X.prog X.w H s.heap a (.tup xs) from I.hok a _ ea)
  obtain ⟨o,h1,h2,_⟩:=p
  exact PySem.W.kia_one PySem.W.kitx_tuple I.kIn ⟨o,h1,h2⟩ e (fun z=>nomatch z) h
 | @dK a kvs ea =>
  cases (show u = Value.ref a from rx)
  obtain ⟨_,_,vs,_,p⟩:=(show ObjOk X.prog X.w H s.heap a (.dK kvs) from ea.ok I.hok)
  obtain ⟨o,es,ep,h1,h2,_⟩:=p
  exact PySem.W.kia_one PySem.W.kitx_dict I.kIn ⟨o,h1,h2.1⟩ e (fun z=>nomatch z) h
 | @dT a kvs ea =>
  cases (show u = Value.ref a from rx)
  obtain ⟨_,_,xs,_,o,es,ep,h1,h2,_⟩:=(show ObjOk X.prog X.w H s.heap a (.dT kvs) from ea.ok I.hok)
  exact PySem.W.kia_one PySem.W.kitx_dict I.kIn ⟨o,h1,h2.1⟩ e (fun z=>nomatch z) h
 | @ins a C dx fs ea cl ha hn htk hm =>
  cases (show u = Value.ref a from rx)
  obtain ⟨mA,O,_⟩:=zpr I.hok ea
  obtain ⟨od,J,_⟩:=O.look
  exact PySem.W.kia_one (PySem.W.kitx_own (cl.get _) cl.hd ha hn htk hm) I.kIn J e (fun z=>nomatch z) h
end
end
section
structure Room (k:Nat) (A:Around):Prop where
 hd:A.handled = none
 dp:A.depth + 3 * k + 5 < recursionLimit
 un:A.units + 16 * k + 200 < cLine
theorem Room.mono {j k:Nat} {A:Around} (r:Room k A) (h:j <= k):Room j A:=⟨r.hd,by have:=r.dp; omega,by have:=r.un; omega⟩
theorem Room.deeper {k:Nat} {A:Around} (r:Room (k + 1) A) (env:Env):Room k (A.deeper env) :=
 ⟨r.hd,by have:=r.dp; show A.depth + 1 + 3 * k + 5 < _; omega,by have:=r.un; show A.units + 3 + 16 * k + 200 < _; omega⟩
theorem Room.in1 {k:Nat} {A:Around} (r:Room (k + 1) A):Room k A.in1 :=
 ⟨r.hd,by have:=r.dp; show A.depth + 3 * k + 5 < _; omega,by have:=r.un; show A.units + 1 + 16 * k + 200 < _; omega⟩
theorem Room.depth {k:Nat} {A:Around} (r:Room k A):A.depth < recursionLimit:=by have:=r.dp; omega
theorem Room.units {k:Nat} {A:Around} (r:Room k A):A.units + 64 < cLine:=by have:=r.un; omega
def zqp:TA:=fun _ H Q=>Q [] H
def zjm (ta:TE) (tr:TA):TA:=fun σ H Q=>ta σ H fun x H1=>tr σ H1 fun xs H2=>Q (x :: xs) H2
section
variable {X:Cx} {e:Expr} {es:List Expr} {te:TE} {t:TA} {pos:Pos}
theorem zf:PA X [] zqp:=fun _ _ _ _ H Q I h=>Calls.spliced_nil ⟨[],H,I,.nil,h⟩
theorem zc (ha:PE X e te) (hr:PA X es t) (hs:starEach (e :: es) X.env = (false,eval e X.env) :: starEach es X.env:=by rfl):PA X (e :: es) (zjm te t):=by
 intro pos zm s σ H Q I h
 rw [hs]
 show wpAny _ _ (spliced ((false,eval e X.env) :: backTo pos (starEach es X.env))) _ _ s
 refine Calls.spliced_cons (thn (ha zm s σ H _ I h) fun u s1 ⟨x,H1,I1,r1,q1⟩=>?_)
 exact thn (hr pos zm s1 σ H1 _ I1 q1) fun us s2 ⟨xs,H2,I2,r2,q2⟩=>⟨x :: xs,H2,I2,.cons r1 r2,q2⟩
def ztf (t:TA):TE:=fun σ H Q=>t σ H fun xs H1=>xs.length <= sizeLine/\∀ p,H1 p = none->Q (.ref p) (upd H1 p (.tup xs))
def zqo (t:TA):TE:=fun σ H Q=>t σ H fun xs H1=>xs.length <= sizeLine/\∀ p,H1 p = none->Q (.ref p) (upd H1 p (.lst xs))
theorem zap {x1} (h:PA X es t):PE X (.Tuple es x1 pos) (ztf t):=by
 intro zm s σ H Q I hq
 refine wpAny_Tuple_spliced (thn (h pos zm s σ H _ I hq) fun us s1 ⟨xs,H1,I1,r,z,q⟩=>⟨by rw [<- r.length]; exact z,?_⟩)
 have hf:H1 s1.heap.objs.size = none:=I1.hok.fresh (Nat.le_refl _)
 refine ⟨.ref s1.heap.objs.size,upd H1 s1.heap.objs.size (.tup xs),I1.laid (t':=s1.toks) (fun b u e=>Heap.get?_push_of_some _ e) (Nat.le_refl _) ?_,rfl,q _ hf⟩
 exact ⟨⟨z,_,Heap.get?_push_size _ rfl,rfl⟩,us,r,⟨_,Heap.get?_push_size _ rfl,rfl,_,rfl⟩⟩
theorem zaZ (h:PA X es t):PE X (.List es pos) (zqo t):=by
 intro zm s σ H Q I hq
 refine wpAny_List_spliced (thn (h pos zm s σ H _ I hq) fun us s1 ⟨xs,H1,I1,r,z,q⟩=>⟨by rw [<- r.length]; exact z,?_⟩)
 have hf:H1 s1.heap.objs.size = none:=I1.hok.fresh (Nat.le_refl _)
 refine ⟨.ref s1.heap.objs.size,upd H1 s1.heap.objs.size (.lst xs),I1.laid (t':=s1.toks) (fun b u e=>Heap.get?_push_of_some _ e) (Nat.le_refl _) ?_,rfl,q _ hf⟩
 exact ⟨z,us,0,r,Heap.get?_push_size _ rfl⟩
end
abbrev Sp:=List V->Hp->VK->XK->Prop
abbrev CXT:=List Env->Hp->Shared->XK->Value->Shared->Prop
structure Env0 (P:Program) (w:World) (K:W.Frag) (mg:Str->Option Value) (base:Heap) (A:Around) (outer:List Env) (s:Shared) (H:Hp):Prop where
 frames:A.frames = some outer
 mod:Mod K mg base
 bs:∀ b o,base.get? b = some o->s.heap.get? b = some o/\H b = none
 bsz:base.objs.size <= s.heap.objs.size
 funs:s.heap.FunFrames base outer
 frf:Frf (frs outer) H
 hok:HOk P w H s.heap
 bare:AllBare s.gens
def CE (outer:List Env) (P:Program) (w:World) (H:Hp) (s:Shared) (Q:VK) (u:Value) (s':Shared):Prop :=
 ∃ v H',s'.os = s.os/\AllBare s'.gens/\Un (frs outer) [] H H' s.heap s'.heap/\HOk P w H' s'.heap/\RelV v u/\Q v H'
def CR (CX:CXT) (outer:List Env) (P:Program) (w:World) (H:Hp) (s:Shared) (Q:VK) (E:XK) (r:Result) (s':Shared):Prop :=
 match r with
 | .ok (.ret u)=>CE outer P w H s Q u s'
 | .ok _=>False
 | .error e=>CX outer H s E e s'
structure FnOk (P:Program) (w:World) (K:W.Frag) (mg:Str->Option Value) (base:Heap) (CX:CXT) (k:Nat) (f:Addr) (fd:FuncData) (ps:List Str) (sp:Sp):Prop where
 len:∀ vs H Q E,sp vs H Q E->vs.length = ps.length
 run:∀ (A:Around) (outer:List Env) (s:Shared) (H:Hp) (args:Args) (us:List Value) (vs:List V) (Q:VK) (E:XK),Room k A->Env0 P w K mg base A outer s H->BindsTo s fd args (ps.zip us)->Vals vs us->sp vs H Q E ->
  codeAny (model P w) A (.call (.ref f) args) (CR CX outer P w H s Q E) s
theorem Env0.in1 {P:Program} {w:World} {K:W.Frag} {mg:Str->Option Value} {base:Heap} {A:Around} {outer:List Env} {s:Shared} {H:Hp} (e:Env0 P w K mg base A outer s H) :
  Env0 P w K mg base A.in1 outer s H:=⟨e.frames,e.mod,e.bs,e.bsz,e.funs,e.frf,e.hok,e.bare⟩
section
variable {X:Cx} {zm:List (Addr × Obj)} {σ:St} {H:Hp} {s s':Shared}
theorem Inv.env0 (I:Inv X zm σ H s):Env0 X.prog X.w X.K X.mg X.base X.A X.stack s H :=
 ⟨I.ok.frames,I.ok.mod,I.bs,Nat.le_trans I.ok.bsz I.sz,I.stack,I.stkFree,I.hok,I.bare⟩
theorem Inv.after {Q:VK} {u:Value} (I:Inv X zm σ H s) (h:CE X.stack X.prog X.w H s Q u s'):EP X zm σ Q u s':=by
 obtain ⟨v,H',os,bare,un,hok,r,q⟩:=h
 obtain ⟨hh,g,d,t,os'⟩:=s'
 obtain rfl:os' = s.os:=os
 exact ⟨v,H',I.call (h':=hh) (g':=g) (d':=d) (t':=t) (ch:=[]) un hok bare (fun b z=>absurd z (by simp)),r,q⟩
end
def zl9 (sp:Sp) (dvs:List V) (E:XK) (t:TA):TE:=fun σ H Q=>t σ H fun vs H1=>sp (vs ++ dvs) H1 Q E
def Binds (K:W.Frag) (fd:FuncData) (ps:List Str) (ds:List Value):Prop :=
 ∀ (s:Shared) (us:List Value),K.In s.heap->(us ++ ds).length = ps.length->BindsTo s fd ⟨us,[]⟩ (ps.zip (us ++ ds))
theorem Binds.all {K:W.Frag} {fd:FuncData} {ps:List Str} (h:∀ us:List Value,us.length = ps.length->bindArgs fd ⟨us,[]⟩ = pure (ps.zip us)):Binds K fd ps []:=fun s us _ hl=>by
 rw [List.append_nil] at hl ⊢
 exact .of_eq (h us hl)
def Passes (CX:CXT) (X:Cx) (E:XK):Prop:=∀ (zm:List (Addr × Obj)) (σ:St) (H:Hp) (s:Shared) (e:Value) (s':Shared),Inv X zm σ H s->CX X.stack H s E e s'->X.xe e s'
section
variable {X:Cx} {CX:CXT} {k:Nat} {f C:Addr} {fd:FuncData} {ps:List Str} {sp:Sp} {dvs:List V} {ds:List Value} {E:XK} {x m:Str} {p pos apos:Pos} {e o:Expr} {es:List Expr} {ta:TE} {t:TA}
theorem zq7 {zm:List (Addr × Obj)} {σ:St} {H:Hp} {s:Shared} {Q:VK} {us:List Value} {vs:List V} (F:FnOk X.prog X.w X.K X.mg X.base CX k f fd ps sp) (hr:Room k X.A) (hb:Binds X.K fd ps ds) (hd:Vals dvs ds) (hx:Passes CX X E)
  (I:Inv X zm σ H s) (r:Vals vs us) (h:sp (vs ++ dvs) H Q E):wpAny (model X.prog X.w) X.A (call (.ref f) us) (EP X zm σ Q) X.xe s:=by
 have r2:Vals (vs ++ dvs) (us ++ ds):=r.append hd
 have hl:(us ++ ds).length = ps.length:=by rw [<- r2.length]; exact F.len _ _ _ _ h
 refine wpAny_call (codeAny_mono (F.run X.A X.stack s H ⟨us,[]⟩ (us ++ ds) (vs ++ dvs) Q E hr I.env0 (hb s us I.kIn hl) r2 h) fun r s' hq=>?_)
 cases r with
 | error e=>exact hx zm σ H s e s' I hq
 | ok fl =>
  cases fl with
  | ret u=>exact I.after hq
  | next=>exact False.elim hq
  | brk=>exact False.elim hq
  | cont=>exact False.elim hq
theorem zmL (F:FnOk X.prog X.w X.K X.mg X.base CX k f fd ps sp) (hr:Room k X.A) (hg:Gl X x) (hm:X.mg x = some (.ref f)) (hk:PySem.W.keepIn X.K (.ref f) = true) (hb:Binds X.K fd ps ds) (hd:Vals dvs ds) (hx:Passes CX X E)
  (ha:PA X (e :: es) t) (hdb:(x == ("__debug__":Str)) = false:=by decide) (he:starEach (e :: es) X.env = (false,eval e X.env) :: starEach es X.env:=by rfl) (hpl:(backTo pos (starEach es X.env)).any (·.1) = false:=by rfl) :
  PE X (.Call (.Name x p) (e :: es) [] pos) (zl9 sp dvs E t):=by
 intro zm s σ H Q I h
 refine wpAny_Call_Name_kw (zmF I hg hm ?_ hdb)
 refine PySem.W.callWith_K (h₀:=X.base) I.ok.mod.kin hk (thn (ha pos zm s σ H _ I h) fun us s1 ⟨vs,H1,I1,r,q⟩=>⟨I1.kIn,?_⟩) he hpl
 exact zq7 F hr hb hd hx I1 r q
end
structure FnScope (N P:List Str) (sc:Scope):Prop where
 kind:sc.kind = .function
 co:sc.isCoroutine = false
 gen:sc.isGenerator = false
 nd:N.Nodup
 pre:N.take P.length = P
 par:∀ x ∈ P,sc.names.lookup x = some .local\/sc.names.lookup x = some .cell
 nofree:∀ y ∈ sc.names,y.2 ≠ .free
theorem zic {kindOf:Str->Option NameKind} {x:Str}:∀ {binds:List (Str × Value)} {m:Str->Option Value},(∀ v,(x,v) ∉ binds)->bindL kindOf binds m x = m x
 | [],_,_=>rfl
 | (n,v) :: r,m,h=>by
  unfold bindL
  rw [zic fun w hw=>h w (List.mem_cons_of_mem _ hw)]
  split
  ·have:x ≠ n:=by rintro rfl; exact h v List.mem_cons_self
   simp [this]
  ·rfl
theorem zio {kindOf:Str->Option NameKind} {x:Str}:∀ {binds:List (Str × Value)} {m:Str->Option Value},(∀ v,(x,v) ∉ binds)->bindC kindOf binds m x = m x
 | [],_,_=>rfl
 | (n,v) :: r,m,h=>by
  unfold bindC
  rw [zio fun w hw=>h w (List.mem_cons_of_mem _ hw)]
  split
  ·rfl
  ·have:x ≠ n:=by rintro rfl; exact h v List.mem_cons_self
   simp [this]
theorem zie {kindOf:Str->Option NameKind} {x:Str} {v:Value}:∀ {P:List Str} {vs:List Value} {i:Nat} {m:Str->Option Value},P.Nodup->P[i]? = some x->vs[i]? = some v->kindOf x = some .local ->
  bindL kindOf (P.zip vs) m x = some v
 | [],_,_,_,_,h,_,_=>by simp at h
 | _ :: _,[],_,_,_,_,h,_=>by simp at h
 | p :: P,w :: vs,0,m,nd,h1,h2,hk=>by
  simp at h1 h2; subst h1; subst h2
  show bindL kindOf ((p,w) :: P.zip vs) m p = _
  unfold bindL
  rw [zic fun v hv=>(List.nodup_cons.mp nd).1 (List.of_mem_zip hv).1,if_pos hk]
  simp
 | p :: P,w :: vs,i + 1,m,nd,h1,h2,hk=>by
  show bindL kindOf ((p,w) :: P.zip vs) m x = _
  unfold bindL
  exact zie (i:=i) (List.nodup_cons.mp nd).2 (by simpa using h1) (by simpa using h2) hk
theorem zh5 {kindOf:Str->Option NameKind} {x:Str} {v:Value}:∀ {P:List Str} {vs:List Value} {i:Nat} {m:Str->Option Value},P.Nodup->P[i]? = some x->vs[i]? = some v->kindOf x ≠ some .local ->
  bindC kindOf (P.zip vs) m x = some v
 | [],_,_,_,_,h,_,_=>by simp at h
 | _ :: _,[],_,_,_,_,h,_=>by simp at h
 | p :: P,w :: vs,0,m,nd,h1,h2,hk=>by
  simp at h1 h2; subst h1; subst h2
  show bindC kindOf ((p,w) :: P.zip vs) m p = _
  unfold bindC
  rw [zio fun v hv=>(List.nodup_cons.mp nd).1 (List.of_mem_zip hv).1,if_neg hk]
  simp
 | p :: P,w :: vs,i + 1,m,nd,h1,h2,hk=>by
  show bindC kindOf ((p,w) :: P.zip vs) m x = _
  unfold bindC
  exact zh5 (i:=i) (List.nodup_cons.mp nd).2 (by simpa using h1) (by simpa using h2) hk
def start (N:List Str) (vs:List V):St:=vs.map some ++ List.replicate (N.length - vs.length) none
def zmB (CX:CXT) (P:Program) (w:World) (K:W.Frag) (mg:Str->Option Value) (base:Heap) (N:List Str) (qual:Str) (scope:Scope) (f:Addr) (cd:Value) (A:Around) (outer:List Env) (s:Shared) (H:Hp) (E:XK):Cx where
 prog:=P
 w:=w
 K:=K
 mg:=mg
 base:=base
 A:=A.deeper (envOfC qual scope s.heap.objs.size f cd)
 N:=N
 s₀:=s
 H₀:=H
 env:=envOfC qual scope s.heap.objs.size f cd
 outer:=outer
 stack:=envOfC qual scope s.heap.objs.size f cd :: outer
 ex:=[]
 calm:=true
 fn:=fun _=>true
 pn:=[]
 xe:=fun e s'=>wpAny (model P w) (A.deeper (envOfC qual scope s.heap.objs.size f cd)) (leaving (envOfC qual scope s.heap.objs.size f cd) e) (fun _ s''=>CX outer H s E e s'') (fun e' s''=>CX outer H s E e' s'') s'
theorem zjW {sc:Scope} {n:Nat} {x:Str} (h:sc.names.lookup x = some .cell):∃ c,(cellsFrom n sc.names []).lookup x = some c:=by
 have q:=PySem.W.cellsFrom_some sc.names n [] (.inl h)
 exact Option.isSome_iff_exists.mp q
theorem zlG {CX:CXT} {P:Program} {w:World} {K:W.Frag} {mg:Str->Option Value} {base:Heap} {N ps:List Str} {qual:Str} {scope:Scope} {f:Addr} {cd:Value} {A:Around} {outer:List Env} {s s1:Shared} {H:Hp} {E:XK} {us:List Value} {vs:List V}
  (S:FnScope N ps scope) (hd:A.handled = none) (e0:Env0 P w K mg base A outer s H) (hl:vs.length = ps.length) (r:Vals vs us)
  (x:InCallC s s.heap.objs.size (bindL (envOfC qual scope s.heap.objs.size f cd).kindOf (ps.zip us) fun _=>none) (cellsFrom (s.heap.objs.size + 1) scope.names []) (bindC (envOfC qual scope s.heap.objs.size f cd).kindOf (ps.zip us) fun _=>none) s1) :
  Inv (zmB CX P w K mg base N qual scope f cd A outer s H E) [] (start N vs) H s1:=by
 have hpl:ps.length <= N.length:=by have:=congrArg List.length S.pre; rw [List.length_take] at this; omega
 obtain ⟨h1,tk,rfl,hk⟩:=x.done
 have noA:∀ b:Addr,b ∉ (zmB CX P w K mg base N qual scope f cd A outer s H E).ex:=fun b z=>absurd (show b ∈ ([]:List Addr) from z) (by simp)
 refine ⟨⟨e0.mod,S.kind,rfl,rfl,Nat.le_refl _,fun y z c h1 h2=>?_,fun y hy=>?_,fun y c _ h=>?_,fun _=>hd,Around.frames_deeper e0.frames,.inr ⟨rfl,rfl⟩,fun b z=>absurd z (noA b),e0.bs,e0.bsz,fun b _ _=>noA b,fun b z=>absurd z (noA b),e0.funs,e0.frf⟩,
  rfl,e0.bare,Un.kept hk,⟨_,x.toInCall.ns,fun i y v h1 h2 h3=>?_⟩,fun y c h=>⟨_,x.cell y c h⟩,e0.hok.fresh (Nat.le_refl _),fun y c h=>?_,fun p hp=>absurd (show p ∈ ([]:List (Addr × Obj)) from hp) (by simp),e0.hok.kept hk,?_⟩
 ·exact name_of_addr x.apart (PySem.mem_of_lookup h1) (PySem.mem_of_lookup h2)
 ·have hy:scope.names.lookup y = some .cell\/scope.names.lookup y = some .free:=hy
  rcases hy with hy | hy
  ·exact zjW hy
  ·exact absurd rfl (S.nofree _ (PySem.mem_of_lookup hy))
 ·exact Nat.le_of_lt (x.above y c (PySem.mem_of_lookup h))
 ·have hi:i < vs.length:=by
   unfold start at h2
   by_cases hi:i < vs.length
   ·exact hi
   ·rw [List.getElem?_append_right (by simpa using hi)] at h2
    rw [List.getElem?_replicate] at h2
    split at h2 <;> cases h2
  have ha:vs[i]? = some v:=by
   unfold start at h2
   rw [List.getElem?_append_left (by simpa using hi),List.getElem?_map] at h2
   cases e:vs[i]? with
   | none=>rw [e] at h2; cases h2
   | some a=>rw [e] at h2; cases h2; rfl
  obtain ⟨u,hu,rv⟩:=r.get ha
  have hp:ps[i]? = some y:=by
   rw [<- S.pre,List.getElem?_take_of_lt (by omega)]; exact h1
  have ndP:ps.Nodup:=by rw [<- S.pre]; exact S.nd.sublist (List.take_sublist _ _)
  refine ⟨u,rv,?_⟩
  rcases S.par y (List.mem_of_getElem? hp) with k | k
  ·exact .inl ⟨k,zie ndP hp hu k⟩
  ·obtain ⟨c,e⟩:=zjW (n:=s.heap.objs.size + 1) k
   refine .inr ⟨.inl k,c,e,?_⟩
   have q:=x.cell y c e
   rw [zh5 ndP hp hu (by show scope.names.lookup y ≠ _; rw [k]; decide)] at q
   exact q
 ·exact e0.hok.fresh (Nat.le_of_lt (x.above y c (PySem.mem_of_lookup h)))
 ·unfold start
  show _ = N.length
  rw [List.length_append,List.length_map,List.length_replicate]
  omega
theorem zqy {CX:CXT} {P:Program} {w:World} {K:W.Frag} {mg:Str->Option Value} {base:Heap} {k:Nat} {f:Addr} {name qual:Str} {params:Arguments} {body:List Stmt} {scope:Scope} {dV kV doc pm cdv ct oc:Value} {an od:Option Addr}
  {osl:Array (Option Value)} {N ps:List Str} {sp:Sp} (lk:K.lookup f = some ⟨oc,od,.func (PySem.W.fnOf name qual params body scope dV kV doc pm an cdv ct),osl⟩) (hcd:PySem.W.codeIn K cdv qual = true) (S:FnScope N ps scope)
  (len:∀ vs H Q E,sp vs H Q E->vs.length = ps.length)
  (hbody:∀ (A:Around) (outer:List Env) (s:Shared) (H:Hp) (vs:List V) (Q:VK) (E:XK),Room k (A.deeper (envOfC qual scope s.heap.objs.size f cdv))->sp vs H Q E ->
   ∃ t,PSs (zmB CX P w K mg base N qual scope f cdv A outer s H E) body t/\t { nx:=fun _ H'=>Q .non H',rt:=Q } (start N vs) H) :
  FnOk P w K mg base CX (k + 1) f (PySem.W.fnOf name qual params body scope dV kV doc pm an cdv ct) ps sp:=by
 refine ⟨len,fun A outer s H args us vs Q E hr e0 hb r hsp=>?_⟩
 have hl:=len _ _ _ _ hsp
 have KX:K.In s.heap:=e0.mod.kin.keeps fun b o e=>(e0.bs b o e).1
 have lim:s.heap.NoLimit:=e0.mod.nolimit.keeps fun b o e=>(e0.bs b o e).1
 have hkind:∀ y ∈ ps.zip us,scope.names.lookup y.1 = some .local\/(scope.names.lookup y.1 = some .cell/\((cellsFrom (s.heap.objs.size + 1) scope.names []).lookup y.1).isSome = true):=fun ⟨n,v⟩ hy=>by
  rcases S.par n (List.of_mem_zip hy).1 with q | q
  ·exact .inl q
  ·exact .inr ⟨q,PySem.W.cellsFrom_some _ _ _ (.inl q)⟩
 refine codeAny_call_function hr.depth (KX _ _ lk) rfl S.co S.gen rfl (PySem.W.codeRec_of KX hcd) (hb _ _ _ _ ?_)
 refine wpAny_newFunctionEnv_cells S.kind hkind fun env he s1 x=>?_
 subst he
 refine ⟨lim.keeps x.toInCall.keep,codeAny_func ?_⟩
 obtain ⟨t,ht,hq⟩:=hbody A outer s H vs Q E (hr.deeper _) hsp
 have I:Inv (zmB CX P w K mg base N qual scope f cdv A outer s H E) [] (start N vs) H s1:=zlG S hr.hd e0 hl r x
 refine wpAny_mono (ht [] s1 (start N vs) H _ I hq) (fun fl s' hs=>?_) fun e s' hs=>hs
 have fin:∀ {σ':St} {H':Hp} {v:V} {u:Value},Inv (zmB CX P w K mg base N qual scope f cdv A outer s H E) [] σ' H' s'->RelV v u->Q v H'->CE outer P w H s Q u s' :=
  fun {σ' H' v u} J rv q=>⟨v,H',J.os,J.bare,J.base,J.hok,rv,q⟩
 cases fl with
 | ret u =>
  obtain ⟨v,σ',H',J,rv,q⟩:=hs
  exact fin J rv q
 | next =>
  obtain ⟨σ',H',J,q⟩:=hs
  exact fin (v:=V.non) (u:=Value.none) J rfl q
 | brk =>
  obtain ⟨_,_,_,q⟩:=hs
  exact False.elim q
 | cont =>
  obtain ⟨_,_,_,q⟩:=hs
  exact False.elim q
end
section
section
variable {X:Cx} {x:Str} {p pos:Pos} {e:Expr} {es:List Expr} {t:TA} {id T:String} {r:List V->Hp->VK->Prop}
def tCB (r:List V->Hp->VK->Prop) (t:TA):TE:=fun σ H Q=>t σ H fun vs H1=>r vs H1 Q
theorem zJ (hc:CallR X (.builtin id) r) (hg:Gl X x) (hm:X.mg x = none) (hv:bootBuiltins x = some (.builtin id)) (ha:PA X (e :: es) t) (hn:x ≠ "__name__":=by decide) (hdb:(x == ("__debug__":Str)) = false:=by decide)
  (he:starEach (e :: es) X.env = (false,eval e X.env) :: starEach es X.env:=by rfl) (hpl:(backTo pos (starEach es X.env)).any (·.1) = false:=by rfl):PE X (.Call (.Name x p) (e :: es) [] pos) (tCB r t):=by
 intro zm s σ H Q I h
 refine wpAny_Call_Name_kw (ze1 I hg hm hv ?_ hn hdb)
 exact PyProof.Rows.callWith_builtin1 (thn (ha pos zm s σ H _ I h) fun us s1 ⟨vs,H1,I1,r1,q1⟩=>hc zm s1 σ H1 vs us Q I1 r1 q1) he hpl
theorem zas (hc:CallR X (.type T) r) (hg:Gl X x) (hm:X.mg x = none) (hv:bootBuiltins x = some (.type T)) (ha:PA X (e :: es) t) (hn:x ≠ "__name__":=by decide) (hdb:(x == ("__debug__":Str)) = false:=by decide)
  (he:starEach (e :: es) X.env = (false,eval e X.env) :: starEach es X.env:=by rfl) (hpl:(backTo pos (starEach es X.env)).any (·.1) = false:=by rfl):PE X (.Call (.Name x p) (e :: es) [] pos) (tCB r t):=by
 intro zm s σ H Q I h
 refine wpAny_Call_Name_kw (ze1 I hg hm hv ?_ hn hdb)
 exact PyProof.Rows.callWith_type1 (thn (ha pos zm s σ H _ I h) fun us s1 ⟨vs,H1,I1,r1,q1⟩=>hc zm s1 σ H1 vs us Q I1 r1 q1) he hpl
end
end
end L2
namespace HT
open PySem PyProof.Rows
def lexLt:List Int->List Int->Bool
 | [],[]=>false
 | [],_ :: _=>true
 | _ :: _,[]=>false
 | x :: xs,y :: ys=>if x = y then lexLt xs ys else decide (x < y)
theorem lexLt_cons (x y:Int) (xs ys:List Int):lexLt (x :: xs) (y :: ys) = if x = y then lexLt xs ys else decide (x < y):=rfl
theorem zhs:lexLt [] [] = false:=rfl
theorem zgK (y:Int) (ys:List Int):lexLt [] (y :: ys) = true:=rfl
theorem zgI (x:Int) (xs:List Int):lexLt (x :: xs) [] = false:=rfl
theorem znK (A:Around) (s:Shared) (a:Int) (t:Tok) (c:Int) (u:Tok):∃ e,SeqAt.EqAt A s (.int a t) (.int c u) e/\(e = true ↔ a = c) :=
 ⟨(a == c),SeqAt.EqAt.int_int a t c u,by simp⟩
theorem znc (A:Around) (s:Shared) (a:Int) (t:Tok) (c:Int) (u:Tok) (prog:Program) (w:World) (E:Value->Shared->Prop) (Q:Value->Shared->Prop) (h:Q (.bool (decide (a < c))) s) :
  wpAny (model prog w) A (richCompare .Lt (.int a t) (.int c u)) Q E s :=
 (PyProof.Rows.lt_int h:wpAny (model prog w) A (compareOp .Lt (.int a t) (.int c u)) Q E s)
section
open PySem.SeqAt
open PySem.AutoSeq1 (wpAny_loadPart')
open PySem.MeetsSeq PySem.MeetsSeq2 PySem.MeetsSeq3
theorem zhf (l b:Addr) (items items2:Array Value) (n n2:Nat) (dd dd2:Option Addr) (sl sl2:Array (Option Value)) (ns ms:List Int) (hi:IntsAre items.toList ns) (hj:IntsAre items2.toList ms) :
  Meets (Builtin.«tuple.__lt__» ⟨[.ref l,.ref b],[]⟩)
   (fun _ R s=>s.heap.get? l = some { cls:=.type "tuple",dict:=dd,data:=.seq items n,slots:=sl }/\s.heap.get? b = some { cls:=.type "tuple",dict:=dd2,data:=.seq items2 n2,slots:=sl2 } /\
    R (.ok (.ret (.bool (lexLt ns ms)))) s) :=
 .of_wp fun prog w A R s h=>by
  obtain ⟨hp,g,d,tk,os⟩:=s; obtain ⟨hl,hb,h⟩:=h
  have f2:=AutoSeq1.sub_tuple_tuple
  have z1:items.size = ns.length:=by rw [<- hi.length]; simp
  have z2:items2.size = ms.length:=by rw [<- hj.length]; simp
  wp_walk using wpAny_loadPart' hl,wpAny_loadPart' hb,wpAny_forIn_list _ (fun rest b s'=>b.1 = none/\s' = ⟨hp,g,d,tk,os⟩/\∃ (vs ws:List Value) (ns' ms':List Int),rest = vs.zip ws /\
   IntsAre vs ns'/\IntsAre ws ms'/\ns'.length + items2.size = ms'.length + items.size/\R (.ok (.ret (.bool (lexLt ns' ms')))) ⟨hp,g,d,tk,os⟩) _
  case turn =>
   rintro ⟨y,x⟩ rest b s' ⟨hb',rfl,vs,ws,ns',ms',hz,hvi,hwi,hlen,hR⟩
   cases hvi with
   | nil=>rw [List.zip_nil_left] at hz; cases hz
   | cons a t hvi' =>
    cases hwi with
    | nil=>rw [List.zip_nil_right] at hz; cases hz
    | cons c u hwi' =>
     rw [List.zip_cons_cons] at hz
     injection hz with hyx hrest
     injection hyx with hy hx
     subst hy hx
     rw [lexLt_cons] at hR
     simp only [List.length_cons] at hlen
     obtain ⟨e,he,hiff⟩:=znK A.in1 ⟨hp,g,d,tk,os⟩ a t c u
     refine wpAny_bind (he prog w _ _ ?_)
     cases e with
     | true =>
      rw [if_pos (hiff.mp rfl)] at hR
      wp_walk
      exact ⟨rfl,rfl,_,_,_,_,hrest,hvi',hwi',by omega,hR⟩
     | false =>
      rw [if_neg (fun q=>absurd (hiff.mpr q) Bool.false_ne_true)] at hR
      have hri:=znc A.in1 ⟨hp,g,d,tk,os⟩ a t c u prog w
      wp_walk using hri
      exact ⟨_,rfl,by simpa using hR⟩
  case fin =>
   rintro ⟨b1,b2⟩ s' ⟨hb',rfl,vs,ws,ns',ms',hz,hvi,hwi,hlen,hR⟩
   simp only at hb'
   subst hb'
   have hv:lexLt ns' ms' = decide (items.size < items2.size):=by
    cases hvi with
    | nil =>
     cases hwi with
     | nil =>
      simp only [List.length_nil] at hlen
      rw [zhs]
      exact (decide_eq_false (by omega)).symm
     | cons c u hw =>
      simp only [List.length_nil,List.length_cons] at hlen
      rw [zgK]
      exact (decide_eq_true (by omega)).symm
    | cons a t hv =>
     cases hwi with
     | nil =>
      simp only [List.length_nil,List.length_cons] at hlen
      rw [zgI]
      exact (decide_eq_false (by omega)).symm
     | cons c u hw =>
      rw [List.zip_cons_cons] at hz
      cases hz
   rw [hv] at hR
   wp_walk
   exact ⟨_,rfl,by simpa [Builtin.Tuple.tupleCompareSizes] using hR⟩
  case h =>
   exact ⟨rfl,rfl,items.toList,items2.toList,ns,ms,rfl,hi,hj,by omega,h⟩
end
section
variable {prog:Program} {w:World} {A:Around} {E:Value->Shared->Prop} {s:Shared}
theorem lt_tupInts {l b:Addr} {items items2:Array Value} {ns ms:List Int} {Q:Value->Shared->Prop} (hl:IsTup s.heap l items) (hb:IsTup s.heap b items2) (hi:IntsAre items.toList ns) (hj:IntsAre items2.toList ms)
  (hu:A.units < cLine) (h:Q (.bool (lexLt ns ms)) s):wpAny (model prog w) A (compareOp .Lt (.ref l) (.ref b)) Q E s:=by
 obtain ⟨⟨cls,dd,data,sl⟩,ho,hc,n,hd⟩:=id hl
 obtain ⟨⟨cls2,dd2,data2,sl2⟩,ho2,hc2,n2,hd2⟩:=id hb
 simp only at hc hd hc2 hd2
 subst hc hd hc2 hd2
 exact richCompare_meets_room (op:=.Lt) ⟨_,ho,rfl⟩ ⟨_,ho2,rfl⟩ PySem.F.slot_tuple_lt PySem.F.entry_tuple_lt (PySem.F.args_tuple_lt_2 _ _) (zhf l b items items2 n n2 dd dd2 sl sl2 ns ms hi hj)
  ⟨ho,ho2,show Value.bool (lexLt ns ms) ≠ Value.notImplemented/\Q (.bool (lexLt ns ms)) s from ⟨(fun x=>nomatch x),h⟩⟩ hu
theorem cat_tup {t b:Addr} {vs ws:List Value} {Q:Value->Shared->Prop} (ht:IsTup s.heap t vs.toArray) (hb:IsTup s.heap b ws.toArray) (hv:vs ≠ [])
  (h1:ws = []->Q (.ref t) s) (h2:ws ≠ []->Q (.ref s.heap.objs.size) { s with heap:=s.heap.push { cls:=.type "tuple",data:=.seq (vs ++ ws).toArray } })
  (hsz:vs.length + ws.length <= sizeLine):wpAny (model prog w) A (binaryOp .Add (.ref t) (.ref b)) Q E s:=by
 obtain ⟨⟨cls,dd,data,sl⟩,ho,hc,n,hd⟩:=id ht
 obtain ⟨⟨cls2,dd2,data2,sl2⟩,ho2,hc2,n2,hd2⟩:=id hb
 simp only at hc hd hc2 hd2
 subst hc hd hc2 hd2
 have e:vs.toArray ++ ws.toArray = (vs ++ ws).toArray:=by simp
 by_cases hw:ws = []
 ·exact concat_meets ⟨_,ho,rfl⟩ ⟨_,ho2,rfl⟩ noFill_tuple_add seq_tuple_add PySem.F.slot_tuple_add PySem.F.entry_tuple_add (PySem.F.args_tuple_add_2 _ _)
   (tuple_addW1 t b vs.toArray ws.toArray n n2 dd dd2 sl sl2 (by simpa using hv) (by simp [hw])) ⟨ho,ho2,h1 hw⟩
 ·refine concat_meets ⟨_,ho,rfl⟩ ⟨_,ho2,rfl⟩ noFill_tuple_add seq_tuple_add PySem.F.slot_tuple_add PySem.F.entry_tuple_add (PySem.F.args_tuple_add_2 _ _)
   (tuple_addW2 t b vs.toArray ws.toArray n n2 dd dd2 sl sl2 (by simpa using hv) (by simpa using hw) (by rw [List.size_toArray,List.size_toArray]; exact hsz)) ⟨ho,ho2,?_⟩
  rw [e]
  exact h2 hw
def sIx (n d:Nat):Option Int->Nat
 | none=>d
 | some v=>if v < 0 then (v + (n:Int)).toNat else min v.toNat n
theorem sIx_nat (n d k:Nat):sIx n d (some (k:Int)) = min k n:=by
 show (if (k:Int) < 0 then ((k:Int) + (n:Int)).toNat else min (k:Int).toNat n) = min k n
 rw [if_neg (by omega),Int.toNat_natCast]
theorem zrf (n d:Nat) (hd:d <= n) (o:Option Int):sIx n d o <= n:=by
 cases o with
 | none=>exact hd
 | some v =>
  show (if v < 0 then (v + (n:Int)).toNat else min v.toNat n) <= n
  by_cases hv:v < 0
  ·rw [if_pos hv]; omega
  ·rw [if_neg hv]; exact Nat.min_le_right _ _
theorem zlg (v:Int) (n d:Nat):(if v < 0 then max (v + (n:Int)) 0 else min v (n:Int)) = ((sIx n d (some v):Nat):Int):=by
 show (if v < 0 then max (v + (n:Int)) 0 else min v (n:Int)) = (((if v < 0 then (v + (n:Int)).toNat else min v.toNat n):Nat):Int)
 by_cases hv:v < 0
 ·simp only [if_pos hv]; omega
 ·simp only [if_neg hv]; omega
theorem zkB (lo hi:Option Int) (n:Nat):Builtin.Slice.sliceAdjust lo hi 1 (n:Int) = (((sIx n 0 lo:Nat):Int),((sIx n n hi:Nat):Int)):=by
 have h1:¬ ((1:Int) < 0):=by omega
 unfold Builtin.Slice.sliceAdjust
 simp only [h1,if_false]
 refine Prod.ext ?_ ?_
 ·cases lo with
  | none=>rfl
  | some v=>exact zlg v n 0
 ·cases hi with
  | none=>rfl
  | some v=>exact zlg v n n
theorem zkQ (i j:Nat):Builtin.Slice.slicePlaces (i:Int) (j:Int) 1 = j - i:=by
 unfold Builtin.Slice.slicePlaces
 have h1:(1:Int) > 0:=by omega
 simp only [h1,if_true,Int.ediv_one]
 split <;> omega
theorem zhc {v:Value} {o:Option Int} {Q:Option Int->Shared->Prop} (p:IsPart v o) (h:Q o s):wpAny (model prog w) A (Builtin.Slice.slicePartIndex v) Q E s:=by
 cases p with
 | none=>exact slicePart_none h
 | int i t=>exact slicePart_int h
theorem zdS {sl:Addr} {vl vu:Value} {lo hi:Option Int} {n:Nat} {Q:Int × Int × Nat->Shared->Prop} (hs:s.heap.IsSliceOf sl vl vu .none) (pl:IsPart vl lo) (pu:IsPart vu hi)
  (h:Q (((sIx n 0 lo:Nat):Int),1,sIx n n hi - sIx n 0 lo) s):wpAny (model prog w) A (Builtin.Slice.sliceApplied (.ref sl) (pure (n:Int))) Q E s:=by
 obtain ⟨os,hos,hcs,hds⟩:=id hs
 unfold Builtin.Slice.sliceApplied Builtin.Slice.sliceFields
 refine wpAny_bind (wpAny_bind (wpAny_field hos hds (x:=vl) rfl (wpAny_bind (wpAny_field hos hds (x:=vu) rfl (wpAny_bind (wpAny_field hos hds (x:=.none) rfl (wpAny_pure ?_)))))))
 refine wpAny_bind (slicePart_none ?_)
 show wpAny _ _ (if ((1:Int) == 0) = true then _ else _) _ _ s
 rw [if_neg (by decide)]
 refine wpAny_bind (zhc pl (wpAny_bind (zhc pu (wpAny_bind (wpAny_pure ?_)))))
 show wpAny _ _ (match Builtin.Slice.sliceAdjust lo hi 1 (n:Int) with | (lo,hi)=>pure (lo,(1:Int),Builtin.Slice.slicePlaces lo hi 1)) _ _ s
 rw [zkB lo hi n]
 show wpAny _ _ (pure (((sIx n 0 lo:Nat):Int),(1:Int),Builtin.Slice.slicePlaces ((sIx n 0 lo:Nat):Int) ((sIx n n hi:Nat):Int) 1)) _ _ s
 rw [zkQ]
 exact wpAny_pure h
theorem znq (xs:Array Value) (i k:Nat):((List.range k).filterMap fun (m:Nat)=>xs[((i:Int) + (m:Int) * 1).toNat]?).toArray = ((xs.toList.drop i).take k).toArray:=by
 have e:(fun (m:Nat)=>xs[((i:Int) + (m:Int) * 1).toNat]?) = fun m=>xs[i + m]?:=by
  funext m
  have:((i:Int) + (m:Int) * 1).toNat = i + m:=by omega
  rw [this]
 rw [e]
 have:=pick_run xs i k
 rw [List.filterMap_map] at this
 have e2:((fun x=>xs[x]?) ∘ fun x=>i + x) = fun m=>xs[i + m]?:=rfl
 rw [e2] at this
 rw [this]
theorem getItem_tuple_cut {t sl:Addr} {items:Array Value} {vl vu:Value} {lo hi:Option Int} {Q:Value->Shared->Prop} (ht:IsTup s.heap t items) (hs:s.heap.IsSliceOf sl vl vu .none) (pl:IsPart vl lo) (pu:IsPart vu hi)
  (hw:¬ (sIx items.size 0 lo = 0/\sIx items.size items.size hi = items.size))
  (h:Q (.ref s.heap.objs.size) { s with heap:=s.heap.push { cls:=.type "tuple",data:=.seq ((items.toList.drop (sIx items.size 0 lo)).take (sIx items.size items.size hi - sIx items.size 0 lo)).toArray } })
  (hsz:items.size <= sizeLine):wpAny (model prog w) A (getItem (.ref t) (.ref sl)) Q E s:=by
 have htake:sizeOk (.seq ((items.toList.drop (sIx items.size 0 lo)).take (sIx items.size items.size hi - sIx items.size 0 lo)).toArray):=by
  show ((items.toList.drop (sIx items.size 0 lo)).take (sIx items.size items.size hi - sIx items.size 0 lo)).toArray.size <= sizeLine
  rw [List.size_toArray,List.length_take,List.length_drop,Array.length_toList]
  omega
 have hj:sIx items.size items.size hi <= items.size:=zrf _ _ (Nat.le_refl _) hi
 obtain ⟨os,hos,hcs,hds⟩:=id hs
 have hTs:s.TypeIs (.ref sl) "slice":=⟨os,hos,hcs⟩
 unfold getItem
 try with_reducible refine wpAny_holding ?_
 first | refine wpAny_bind (wpAny_pure ?_) | skip
 refine wpAny_bind (wpAny_sequenceKey ht.typeIs (by decide) ?_)
 refine wpAny_bind (wpAny_callSpecial?_slot (name:=Str.ofString "__getitem__") ht.typeIs PyProof.Rows.slot_tuple_getitem
  (wpAny_call_entry PyProof.Rows.slot_tuple_getitem ht.typeIs entry_tuple_getitem ?_ (args_tuple_getitem _ _)))
 show wpAny _ _ (Builtin.Tuple.tupleItemsOf (.ref t) >>= _) _ _ s
 refine wpAny_bind (tupleItemsOf_ ht ?_)
 refine wpAny_bind (wpAny_typeOf hTs ?_)
 rw [if_pos (by decide)]
 refine wpAny_bind (zdS hs pl pu ?_)
 have hno:¬ ((((sIx items.size 0 lo:Nat):Int) == 0 && (1:Int) == 1 && (sIx items.size items.size hi - sIx items.size 0 lo) == items.size) = true):=by
  intro q
  rw [Bool.and_eq_true,Bool.and_eq_true] at q
  have q1:((sIx items.size 0 lo:Nat):Int) = 0:=eq_of_beq q.1.1
  have q2:sIx items.size items.size hi - sIx items.size 0 lo = items.size:=eq_of_beq q.2
  exact hw ⟨by omega,by omega⟩
 show wpAny _ _ (if (((sIx items.size 0 lo:Nat):Int) == 0 && (1:Int) == 1 && (sIx items.size items.size hi - sIx items.size 0 lo) == items.size) = true then _ else _) _ _ s
 rw [if_neg hno,znq]
 first
  | exact wpAny_bind (m:=Builtin.Tuple.tupleExact _) (wpAny_newObj_type (wpAny_pure ⟨_,rfl,wpAny_pure h⟩) htake)
  | exact wpAny_bind (m:=Builtin.Tuple.tupleExact _) (wpAny_newObj_type (wpAny_bind (wpAny_pure (wpAny_pure ⟨_,rfl,wpAny_pure h⟩))) htake)
  | exact wpAny_bind (wpAny_bind (m:=Builtin.Tuple.tupleExact _) (wpAny_newObj_type (wpAny_pure (wpAny_pure ⟨_,rfl,wpAny_pure h⟩)) htake))
  | exact wpAny_bind (wpAny_bind (m:=Builtin.Tuple.tupleExact _) (wpAny_newObj_type (wpAny_pure ⟨_,rfl,wpAny_pure h⟩) htake))
end
end HT
namespace L2
open PySem PySem.Spec PyProof.Rows
section
abbrev TO:=St->Hp->(Option Int->Hp->Prop)->Prop
def PO (X:Cx) (e:Option Expr) (t:TO):Prop :=
 ∀ (zm:List (Addr × Obj)) (s:Shared) (σ:St) (H:Hp) (Q:Option Int->Hp->Prop),Inv X zm σ H s->t σ H Q ->
  wpAny (model X.prog X.w) X.A (evalPart e X.env) (fun u s'=>∃ o H',Inv X zm σ H' s'/\IsPart u o/\Q o H') X.xe s
def zms:TO:=fun _ H Q=>Q none H
def zkJ (t:TE):TO:=fun σ H Q=>t σ H fun x H1=>∃ i,x = .int i/\Q (some i) H1
theorem zb1 {ns:List Int}:∀ {us:List Value},Vals (ns.map V.int) us->IntsAre us ns:=by
 induction ns with
 | nil=>intro us r; rw [List.map_nil] at r; cases r; exact .nil
 | cons n ns ih =>
  intro us r
  rw [List.map_cons] at r
  cases r with
  | cons r1 r2 =>
   obtain ⟨t,e⟩:=r1
   subst e
   exact .cons n t (ih r2)
section
variable {X:Cx} {e:Expr} {te:TE} {lo hi:Option Expr} {tl th:TO} {pos p2:Pos}
theorem zcp:PO X none zms:=by
 intro zm s σ H Q I h
 rw [evalPart_none]
 exact wpAny_pure ⟨none,H,I,.none,h⟩
theorem zbC (h:PE X e te):PO X (some e) (zkJ te):=by
 intro zm s σ H Q I hw
 rw [evalPart_some]
 refine thn (h zm s σ H _ I hw) fun u s1 ⟨x,H1,I1,r1,q1⟩=>?_
 obtain ⟨i,rfl,q⟩:=q1
 obtain ⟨t,rfl⟩:=r1
 exact ⟨some i,H1,I1,.int i t,q⟩
def SlR (X:Cx) (r:V->Option Int->Option Int->Hp->VK->Prop):Prop :=
 ∀ (zm:List (Addr × Obj)) (s:Shared) (σ:St) (H:Hp) (x:V) (v vl vu:Value) (lo hi:Option Int) (sl:Addr) (Q:VK),Inv X zm σ H s->RelV x v->s.heap.IsSliceOf sl vl vu .none->IsPart vl lo->IsPart vu hi->r x lo hi H Q ->
  ∃ T id,typeLookup (.type T) "__getitem__" = pure (some (.builtin id))/\s.TypeIs v T/\wpAny (model X.prog X.w) X.A (getItem v (.ref sl)) (EP X zm σ Q) X.xe s
theorem SlR.or {r r':V->Option Int->Option Int->Hp->VK->Prop} (h:SlR X r) (h':SlR X r'):SlR X (fun x lo hi H Q=>r x lo hi H Q\/r' x lo hi H Q):=by
 intro zm s σ H x v vl vu lo hi sl Q I rx hs pl pu q
 rcases q with q | q
 ·exact h zm s σ H x v vl vu lo hi sl Q I rx hs pl pu q
 ·exact h' zm s σ H x v vl vu lo hi sl Q I rx hs pl pu q
def tSl (r:V->Option Int->Option Int->Hp->VK->Prop) (te:TE) (tl th:TO):TE:=fun σ H Q=>te σ H fun x H1=>tl σ H1 fun l H2=>th σ H2 fun u H3=>r x l u H3 Q
theorem zbl {r:V->Option Int->Option Int->Hp->VK->Prop} (hr:SlR X r) (he:PE X e te) (hl:PO X lo tl) (hu:PO X hi th):PE X (.Subscript e (.Slice lo hi none p2) pos) (tSl r te tl th):=by
 intro zm s σ H Q I h
 refine Subscript_ (thn (he zm s σ H _ I h) fun v s1 ⟨x,H1,I1,r1,q1⟩=>?_)
 refine wpAny_Slice (thn (hl zm s1 σ H1 _ I1 q1) fun vl s2 ⟨l,H2,I2,pl,q2⟩=>thn (hu zm s2 σ H2 _ I2 q2) fun vu s3 ⟨u,H3,I3,pu,q3⟩=>?_)
 rw [evalPart_none]
 refine wpAny_pure ?_
 have I4:Inv X zm σ H3 { s3 with heap:=s3.heap.push { cls:=.type "slice",data:=.fields #[vl,vu,.none] } }:=I3.kept (t':=s3.toks) fun b ob q=>Heap.get?_push_of_some _ q
 obtain ⟨T,id,hT,ht,hg⟩:=hr zm { s3 with heap:=s3.heap.push { cls:=.type "slice",data:=.fields #[vl,vu,.none] } } σ H3 x v vl vu l u s3.heap.objs.size Q I4 r1 (Heap.IsSliceOf.new ..) pl pu q3
 show wpAny (model X.prog X.w) X.A (subscriptTail e (.Slice lo hi none p2) v (.ref s3.heap.objs.size)) (EP X zm σ Q) X.xe { s3 with heap:=s3.heap.push { cls:=.type "slice",data:=.fields #[vl,vu,.none] } }
 exact tail_any (ops:=[.ref s3.heap.objs.size,v]) ht hT hg (by with_unfolding_all rfl)
def zjC (xs:List V) (lo hi:Option Int):List V:=(xs.drop (HT.sIx xs.length 0 lo)).take (HT.sIx xs.length xs.length hi - HT.sIx xs.length 0 lo)
theorem zeT (xs:List V) (lo hi:Option Int):(zjC xs lo hi).length <= xs.length:=by
 unfold zjC
 rw [List.length_take,List.length_drop]
 omega
def zsN (K:W.Frag):V->Option Int->Option Int->Hp->VK->Prop:=fun x lo hi H Q=>∃ a xs,x = .ref a/\SqT K H a xs /\
 ¬ (HT.sIx xs.length 0 lo = 0/\HT.sIx xs.length xs.length hi = xs.length)/\∀ p,H p = none->Q (.ref p) (upd H p (.tup (zjC xs lo hi)))
theorem zoM:SlR X (zsN X.K):=by
 intro zm s σ H x v vl vu lo hi sl Q I rx hs pl pu h
 obtain ⟨a,xs,rfl,hx,hw,q⟩:=h
 cases rx
 obtain ⟨its,r,ht,hz⟩:=I.tuple hx
 have hlen:its.toArray.size = xs.length:=by rw [List.size_toArray]; exact r.length.symm
 refine ⟨"tuple",_,PyProof.Rows.slot_tuple_getitem.lookup,ht.typeIs,?_⟩
 refine HT.getItem_tuple_cut ht hs pl pu (by rw [hlen]; exact hw) ?_ (by rw [hlen]; exact hz)
 rw [hlen]
 refine ⟨.ref s.heap.objs.size,_,I.laid (t':=s.toks) (o:=.tup (zjC xs lo hi)) (fun b ob q=>Heap.get?_push_of_some _ q) (Nat.le_refl _) ?_,rfl,q _ (I.hok.fresh (Nat.le_refl _))⟩
 exact ⟨⟨Nat.le_trans (zeT xs lo hi) hz,_,Heap.get?_push_size _ rfl,rfl⟩,_,(r.drop (HT.sIx xs.length 0 lo)).take (HT.sIx xs.length xs.length hi - HT.sIx xs.length 0 lo),IsTup.new _ _⟩
def zpM (K:W.Frag):R2:=fun x y H Q=>∃ a b xs ys,x = .ref a/\y = .ref b/\SqT K H a xs/\SqT K H b ys/\xs ≠ []/\xs.length + ys.length <= sizeLine /\
 (ys = []->Q (.ref a) H)/\(ys ≠ []->∀ p,H p = none->Q (.ref p) (upd H p (.tup (xs ++ ys))))
theorem Vals.nil_iff {xs:List V} {us:List Value} (r:Vals xs us):us = [] ↔ xs = []:=by
 cases r with
 | nil=>simp
 | cons _ _=>simp
theorem zpz:OpR X (binaryOp .Add) (zpM X.K):=by
 intro zm s σ H x y v u Q I rx ry h
 obtain ⟨a,b,xs,ys,rfl,rfl,ha,hb,hx,hz,q1,q2⟩:=h
 cases rx
 cases ry
 obtain ⟨its,r1,p1,_⟩:=I.tuple ha
 obtain ⟨its2,r2,p2,_⟩:=I.tuple hb
 refine HT.cat_tup p1 p2 (fun z=>hx (r1.nil_iff.mp z)) (fun z=>⟨.ref a,H,I,rfl,q1 (r2.nil_iff.mp z)⟩) (fun z=>?_) (by rw [<- r1.length,<- r2.length]; exact hz)
 refine ⟨.ref s.heap.objs.size,_,I.laid (t':=s.toks) (o:=.tup (xs ++ ys)) (fun b ob q=>Heap.get?_push_of_some _ q) (Nat.le_refl _) ?_,rfl,q2 (fun w=>z (r2.nil_iff.mpr w)) _ (I.hok.fresh (Nat.le_refl _))⟩
 exact ⟨⟨by rw [List.length_append]; exact hz,_,Heap.get?_push_size _ rfl,rfl⟩,_,r1.append r2,IsTup.new _ _⟩
end
end
section
def ixN (n:Nat) (i:Int):Option Nat:=if 0 <= i then (if i < n then some i.toNat else none) else if -(n:Int) <= i then some (i + n).toNat else none
def atI {α:Type} (xs:List α) (i:Int):Option α:=(ixN xs.length i).bind fun j=>xs[j]?
theorem zlC {n:Nat} {i:Int} {j:Nat} (h:ixN n i = some j):seqIndex? i n = some j/\j < n/\-(n:Int) <= i/\i < n:=by
 unfold ixN at h
 by_cases h0:0 <= i
 ·rw [if_pos h0] at h
  by_cases h1:i < n
  ·rw [if_pos h1] at h
   have e:i.toNat = j:=Option.some.inj h
   exact ⟨by rw [seqIndex_of h0 h1,e],by omega,by omega,h1⟩
  ·rw [if_neg h1] at h; cases h
 ·rw [if_neg h0] at h
  by_cases h1:-(n:Int) <= i
  ·rw [if_pos h1] at h
   have e:(i + n).toNat = j:=Option.some.inj h
   exact ⟨by rw [seqIndex_neg (by omega) h1,e],by omega,h1,by omega⟩
  ·rw [if_neg h1] at h; cases h
theorem zjv {α:Type} {xs:List α} {i:Int} {v:α} (h:atI xs i = some v):∃ j,seqIndex? i xs.length = some j/\xs[j]? = some v/\j < xs.length/\-(xs.length:Int) <= i/\i < xs.length:=by
 unfold atI at h
 cases e:ixN xs.length i with
 | none=>rw [e] at h; cases h
 | some j =>
  rw [e] at h
  obtain ⟨h1,h2,h3,h4⟩:=zlC e
  exact ⟨j,h1,h,h2,h3,h4⟩
theorem zdO {α:Type} {xs:List α} {j:Nat} {v:α} (h:xs[j]? = some v):atI xs (j:Int) = some v:=by
 have hj:j < xs.length:=(List.getElem?_eq_some_iff.mp h).1
 have e:ixN xs.length (j:Int) = some j:=by
  unfold ixN
  rw [if_pos (by omega),if_pos (by omega)]; simp
 unfold atI; rw [e]; exact h
theorem zjV {α:Type} (xs:List α) (v:α):atI (xs ++ [v]) (-1) = some v:=by
 have hl:(xs ++ [v]).length = xs.length + 1:=by simp
 have e:ixN (xs ++ [v]).length (-1) = some xs.length:=by
  unfold ixN
  rw [hl,if_neg (by decide),if_pos (by omega)]
  congr 1
  omega
 unfold atI
 rw [e]
 show (xs ++ [v])[xs.length]? = some v
 simp
def PlainIx (b:Expr):Prop:=∀ o i,subscripted b false o i = operate [o,i] (getItem o i)
def IxR (X:Cx) (r:R2):Prop :=
 ∀ (value slice:Expr) (zm:List (Addr × Obj)) (s:Shared) (σ:St) (H:Hp) (x y:V) (v u:Value) (Q:VK),Inv X zm σ H s->RelV x v->RelV y u->r x y H Q ->
  subscripted slice false v u = operate [v,u] (getItem v u)->wpAny (model X.prog X.w) X.A (subscriptTail value slice v u) (EP X zm σ Q) X.xe s
def MtR (X:Cx) (id:String) (r:V->List V->Hp->VK->Prop):Prop :=
 ∀ (zm:List (Addr × Obj)) (s:Shared) (σ:St) (H:Hp) (x:V) (xs:List V) (v:Value) (us:List Value) (Q:VK),Inv X zm σ H s->RelV x v->Vals xs us->r x xs H Q ->
  wpAny (model X.prog X.w) X.A (call (.builtin id) (v :: us)) (EP X zm σ Q) X.xe s
section
variable {X:Cx} {a b:Expr} {ta tb:TE} {pos:Pos}
theorem IxR.or {r r':R2} (h:IxR X r) (h':IxR X r'):IxR X (fun x y H Q=>r x y H Q\/r' x y H Q):=by
 intro value slice zm s σ H x y v u Q I rx ry q hs
 rcases q with q | q
 ·exact h value slice zm s σ H x y v u Q I rx ry q hs
 ·exact h' value slice zm s σ H x y v u Q I rx ry q hs
theorem zW {r:R2} (hr:IxR X r) (ha:PE X a ta) (hb:PE X b tb) (hs:PlainIx b):PE X (.Subscript a b pos) (tOp r ta tb):=by
 intro zm s σ H Q I h
 exact Subscript_ (zsp ha hb I h fun v u s2 x y H2 I2 rx ry q=>hr a b zm s2 σ H2 x y v u Q I2 rx ry q (hs _ _))
def zsy (K:W.Frag):R2:=fun x y H Q=>∃ p xs i v,x = .ref p/\y = .int i/\SqL K H p xs/\atI xs i = some v/\Q v H
def zsF (K:W.Frag):R2:=fun x y H Q=>∃ p xs i v,x = .ref p/\y = .int i/\SqT K H p xs/\atI xs i = some v/\Q v H
def zsA:R2:=fun x y H Q=>∃ z i c,x = .str z/\y = .int i/\z.length <= sizeLine/\atI z.cps.toList i = some c/\Q (.str ⟨#[c]⟩) H
theorem zlT:IxR X (zsy X.K):=by
 intro value slice zm s σ H x y v u Q I rx ry h hs
 obtain ⟨p,xs,i,z,rfl,rfl,hq,he,q⟩:=h
 cases rx
 obtain ⟨t,rfl⟩:=ry
 obtain ⟨its,r,pl,hz⟩:=I.list hq
 obtain ⟨j,h1,h2,h3,h4,h5⟩:=zjv he
 obtain ⟨w,ew,rw'⟩:=r.get h2
 have hl:=r.length
 have hn:=line63
 have fin:EP X zm σ Q w s:=⟨z,H,I,rw',q⟩
 by_cases h0:0 <= i
 ·have hj:i.toNat = j:=by
   rw [seqIndex_of h0 h5] at h1
   exact Option.some.inj h1
  exact item_listR pl.isList h0 (by omega) (by rw [hj]; simpa using ew) fin hs
 ·have hj:(i + (its.toArray.size:Int)).toNat = j:=by
   rw [seqIndex_neg (by omega) h4] at h1
   rw [List.size_toArray,<- hl]
   exact Option.some.inj h1
  exact subscriptTail_builtinR (x:=w) pl.isList.typeIs slot_list_getitem.lookup
   (wpAny_getItem_list_neg (Q:=fun r s'=>r = w/\EP X zm σ Q r s') pl.isList (by omega) (by rw [List.size_toArray] <;> omega) (by omega) (by rw [hj]; simpa using ew) ⟨rfl,fin⟩) hs
theorem zrT:IxR X (zsF X.K):=by
 intro value slice zm s σ H x y v u Q I rx ry h hs
 obtain ⟨p,xs,i,z,rfl,rfl,hq,he,q⟩:=h
 cases rx
 obtain ⟨t,rfl⟩:=ry
 obtain ⟨its,r,pl,hz⟩:=I.tuple hq
 obtain ⟨j,h1,h2,h3,h4,h5⟩:=zjv he
 obtain ⟨w,ew,rw'⟩:=r.get h2
 have hl:=r.length
 have hn:=line63
 have fin:EP X zm σ Q w s:=⟨z,H,I,rw',q⟩
 exact subscriptTail_builtinR (x:=w) pl.typeIs slot_tuple_getitem.lookup
  (getItem_tuple (j:=j) (Q:=fun r s'=>r = w/\EP X zm σ Q r s') pl (by omega) (by omega) (by rw [List.size_toArray,<- hl]; exact h1) (by simpa using ew) ⟨rfl,fin⟩) hs
theorem zqV:IxR X zsA:=by
 intro value slice zm s σ H x y v u Q I rx ry h hs
 obtain ⟨z,i,c,rfl,rfl,hz,he,q⟩:=h
 obtain ⟨t,rfl⟩:=rx
 obtain ⟨t',rfl⟩:=ry
 obtain ⟨j,h1,h2,h3,h4,h5⟩:=zjv he
 have hl:z.cps.toList.length = z.length:=by simp [Str.length]
 rw [hl] at h1 h4 h5
 have hn:=line63
 exact tail_any (typeIs_str s z t) slot_str_getitem.lookup (getItem_str (c:=c) (by
  have e1:decide (i < -(2 ^ 63:Int)) = false:=decide_eq_false (by omega)
  have e2:decide (i ≥ 2 ^ 63) = false:=decide_eq_false (by omega)
  rw [e1,e2,Bool.or_false]) (by rw [h1]; simpa using h2) ⟨.str ⟨#[c]⟩,H,I.tok _,⟨_,rfl⟩,q⟩) hs
def rIx (K:W.Frag):R2:=fun x y H Q=>zsy K x y H Q\/zsF K x y H Q\/zsA x y H Q
theorem zD:IxR X (rIx X.K):=zlT.or (zrT.or zqV)
theorem zkq (its:List Value) (n j:Nat) (u:Value):Obj.mapSeq (·.setIfInBounds j u) { cls:=.type "list",data:=.seq its.toArray n } = { cls:=.type "list",data:=.seq (its.set j u).toArray n }:=by
 simp [Obj.mapSeq]
theorem Inv.lst {zm:List (Addr × Obj)} {σ:St} {H:Hp} {s:Shared} {p:Addr} {xs:List V} (I:Inv X zm σ H s) (h:H p = some (.lst xs)) :
  ∃ (its:List Value) (n:Nat),Vals xs its/\s.heap.get? p = some { cls:=.type "list",data:=.seq its.toArray n }/\xs.length <= sizeLine:=by
 obtain ⟨z,its,n,r,e⟩:=I.hok p _ h
 exact ⟨its,n,r,e,z⟩
theorem Inv.lstUpd {zm:List (Addr × Obj)} {σ:St} {H:Hp} {s:Shared} {p:Addr} {xs ys:List V} {its its':List Value} {n n':Nat} {f:Obj->Obj} (I:Inv X zm σ H s) (h:H p = some (.lst xs))
  (ho:s.heap.get? p = some { cls:=.type "list",data:=.seq its.toArray n }) (hf:f { cls:=.type "list",data:=.seq its.toArray n } = { cls:=.type "list",data:=.seq its'.toArray n' }) (r:Vals ys its') (hz:ys.length <= sizeLine) (t:Nat) :
  Inv X zm σ (upd H p (.lst ys)) { s with heap:=s.heap.update p f,toks:=t }:=by
 have e:(s.heap.update p f).get? p = some { cls:=.type "list",data:=.seq its'.toArray n' }:=by
  rw [Heap.get?_update_self f ho (by rw [hf] <;> rfl),hf]
 refine I.write (x:=p) (e:=p) (by rw [h]; trivial) (.inl rfl) (fun b u hb q=>(Heap.get?_update_other _ _ (Ne.symm hb)).trans q) ⟨_,e⟩ ?_
 exact ⟨hz,its',n',r,e⟩
def zrm:V->V->V->Hp->(Hp->Prop)->Prop:=fun o i v H Q=>∃ p xs k j,o = .ref p/\i = .int k/\H p = some (.lst xs)/\ixN xs.length k = some j/\Q (upd H p (.lst (xs.set j v)))
theorem zfK:PSet X zrm:=by
 intro zm s σ H o i v ov iv u Q I ro ri rv h
 obtain ⟨p,xs,k,j,rfl,rfl,hp,hj,q⟩:=h
 cases ro
 obtain ⟨t,rfl⟩:=ri
 obtain ⟨its,n,r,ho,hz⟩:=I.lst hp
 obtain ⟨h1,h2,h3,h4⟩:=zlC hj
 have hl:=r.length
 have hn:=line63
 have I':Inv X zm σ (upd H p (.lst (xs.set j v))) { s with heap:=s.heap.update p (Obj.mapSeq (·.setIfInBounds j u)) } :=
  I.lstUpd hp ho (zkq its n j u) (r.set rv j) (by rw [List.length_set]; exact hz) s.toks
 by_cases h0:0 <= k
 ·have hk:k.toNat = j:=by
   rw [seqIndex_of h0 h4] at h1
   exact Option.some.inj h1
  exact PySem.W.ki_setAt ho h0 (by omega) (by rw [List.size_toArray,<- hl]; exact h4) (by rw [hk]; exact ⟨_,I',q⟩)
 ·have hk:(k + (its.toArray.size:Int)).toNat = j:=by
   rw [seqIndex_neg (by omega) h3] at h1
   rw [List.size_toArray,<- hl]
   exact Option.some.inj h1
  exact PySem.W.ki_setBack ho (by omega) (by rw [List.size_toArray,<- hl]; exact h3) (by omega) (by rw [hk]; exact ⟨_,I',q⟩)
theorem ziA (lo hi:Option Int) (n:Nat):(sliceBounds lo hi none n).1 = ((HT.sIx n 0 lo:Nat):Int)/\(sliceBounds lo hi none n).2.1 = ((HT.sIx n n hi:Nat):Int)/\(sliceBounds lo hi none n).2.2 = 1:=by
 refine ⟨?_,?_,rfl⟩
 ·cases lo with
  | none=>simp [sliceBounds,HT.sIx]
  | some i =>
   simp only [sliceBounds,HT.sIx,Option.getD_none,show (1:Int) > 0 by decide,if_true]
   by_cases h:i < 0
   ·simp only [h,if_true] <;> omega
   ·simp only [h,if_false] <;> omega
 ·cases hi with
  | none=>simp [sliceBounds,HT.sIx]
  | some i =>
   simp only [sliceBounds,HT.sIx,Option.getD_none,show (1:Int) > 0 by decide,if_true]
   by_cases h:i < 0
   ·simp only [h,if_true] <;> omega
   ·simp only [h,if_false] <;> omega
theorem zhD (its:List Value) (lo hi:Option Int):slicePick its.toArray lo hi none = ((its.drop (HT.sIx its.length 0 lo)).take (HT.sIx its.length its.length hi - HT.sIx its.length 0 lo)).toArray:=by
 obtain ⟨h1,h2,h3⟩:=ziA lo hi its.toArray.size
 unfold slicePick
 rw [h1,h2,h3]
 simp only [sliceRange_one,pick_run,List.size_toArray] <;> rfl
def zqJ (K:W.Frag):V->Option Int->Option Int->Hp->VK->Prop:=fun x lo hi H Q=>∃ a xs,x = .ref a/\SqL K H a xs/\∀ p,H p = none->Q (.ref p) (upd H p (.lst (zjC xs lo hi)))
theorem zli:SlR X (zqJ X.K):=by
 intro zm s σ H x v vl vu lo hi sl Q I rx hs pl pu h
 obtain ⟨a,xs,rfl,hx,q⟩:=h
 cases rx
 obtain ⟨its,r,ht,hz⟩:=I.list hx
 have hlen:=r.length
 refine ⟨"list",_,slot_list_getitem.lookup,ht.isList.typeIs,?_⟩
 refine wpAny_getItem_list_slice ht.isList hs pl pu .none (by simp) ?_ (by rw [List.size_toArray] <;> omega)
 rw [zhD,<- hlen]
 refine ⟨.ref s.heap.objs.size,_,I.laid (t':=s.toks) (o:=.lst (zjC xs lo hi)) (fun b ob q=>Heap.get?_push_of_some _ q) (Nat.le_refl _) ?_,rfl,q _ (I.hok.fresh (Nat.le_refl _))⟩
 exact ⟨Nat.le_trans (zeT xs lo hi) hz,_,0,(r.drop (HT.sIx xs.length 0 lo)).take (HT.sIx xs.length xs.length hi - HT.sIx xs.length 0 lo),Heap.get?_push_size _ rfl⟩
theorem zfx:CallR X (.builtin "len") (fun xs H Q=>∃ p ys,xs = [.ref p]/\(SqL X.K H p ys\/SqT X.K H p ys)/\Q (.int ys.length) H):=by
 intro zm s σ H xs us Q I r h
 obtain ⟨p,ys,rfl,hq,q⟩:=h
 obtain ⟨u,rfl,rx⟩:=vals1 r
 cases rx
 have hn:=line63
 rcases hq with hq | hq
 ·obtain ⟨its,r',pl,hz⟩:=I.list hq
  have hlen:=r'.length
  exact Calls.call_len_list pl.isList (by simp only [List.size_toArray] <;> omega) ⟨.int ys.length,H,I.tok _,⟨s.toks + 1,by rw [List.size_toArray,hlen]⟩,q⟩
 ·obtain ⟨its,r',pl,hz⟩:=I.tuple hq
  have hlen:=r'.length
  exact len_tuple pl (by simp only [List.size_toArray] <;> omega) ⟨.int ys.length,H,I.tok _,⟨s.toks + 1,by rw [List.size_toArray,hlen]⟩,q⟩
theorem zin:CallR X (.builtin "len") (fun xs H Q=>∃ z,xs = [.str z]/\z.length <= sizeLine/\Q (.int z.length) H):=by
 intro zm s σ H xs us Q I r h
 obtain ⟨z,rfl,hz,q⟩:=h
 obtain ⟨u,rfl,t,rfl⟩:=vals1 r
 have hn:=line63
 exact len_str (by omega) ⟨.int z.length,H,I.tok _,⟨_,rfl⟩,q⟩
theorem CallR.or {f:Value} {r r':List V->Hp->VK->Prop} (h:CallR X f r) (h':CallR X f r'):CallR X f (fun xs H Q=>r xs H Q\/r' xs H Q):=by
 intro zm s σ H xs us Q I rs q
 rcases q with q | q
 ·exact h zm s σ H xs us Q I rs q
 ·exact h' zm s σ H xs us Q I rs q
theorem zh4:CallR X (.type "list") (fun xs H Q=>∃ p ys,xs = [.ref p]/\(SqL X.K H p ys\/SqT X.K H p ys)/\∀ l,H l = none->Q (.ref l) (upd H l (.lst ys))):=by
 intro zm s σ H xs us Q I r h
 obtain ⟨p,ys,rfl,hq,q⟩:=h
 obtain ⟨u,rfl,rx⟩:=vals1 r
 cases rx
 have fin:∀ (its:List Value),Vals ys its->ys.length <= sizeLine->∀ (h':Heap) (c':Nat),(∀ b o',s.heap.get? b = some o'->h'.get? b = some o') ->
   h'.get? s.heap.objs.size = some { cls:=.type "list",dict:=none,data:=.seq its.toArray c',slots:=#[] }->EP X zm σ Q (.ref s.heap.objs.size) { s with heap:=h' }:=fun its r' hz h' c' kp e =>
  ⟨.ref s.heap.objs.size,_,I.laid (t':=s.toks) kp (Nat.le_refl _) (show ObjOk X.prog X.w _ h' _ (.lst ys) from ⟨hz,its,c',r',e⟩),rfl,q _ (I.hok.fresh (Nat.le_refl _))⟩
 rcases hq with hq | hq
 ·obtain ⟨its,r',pl,hz⟩:=I.list hq
  have hlen:=r'.length
  obtain ⟨o,ho,hc,n,hd⟩:=pl.isList
  exact call_list_seq p (.inl rfl) ho hc hd (fun h' c' kp e=>fin its r' hz h' c' kp e) (by simp only [List.size_toArray] <;> omega)
 ·obtain ⟨its,r',pl,hz⟩:=I.tuple hq
  have hlen:=r'.length
  obtain ⟨o,ho,hc,n,hd⟩:=pl
  exact call_list_seq p (.inr rfl) ho hc hd (fun h' c' kp e=>fin its r' hz h' c' kp e) (by simp only [List.size_toArray] <;> omega)
theorem zV:CallR X (.type "tuple") (fun xs H Q=>∃ p ys,xs = [.ref p]/\((SqL X.K H p ys/\∀ l,H l = none->Q (.ref l) (upd H l (.tup ys)))\/(SqT X.K H p ys/\Q (.ref p) H))):=by
 intro zm s σ H xs us Q I r h
 obtain ⟨p,ys,rfl,h⟩:=h
 obtain ⟨u,rfl,rx⟩:=vals1 r
 cases rx
 rcases h with ⟨hq,q⟩ | ⟨hq,q⟩
 ·obtain ⟨its,r',pl,hz⟩:=I.list hq
  have hlen:=r'.length
  refine call_tuple_list pl.isList (fun h' kp=>?_) (by simp only [List.size_toArray] <;> omega)
  have I1:Inv X zm σ H { s with heap:=h' }:=I.kept (t':=s.toks) kp
  have I2:Inv X zm σ (upd H h'.objs.size (.tup ys)) { s with heap:=h'.push { cls:=.type "tuple",data:=.seq its.toArray } } :=
   I1.laid (t':=s.toks) (fun b o e=>Heap.get?_push_of_some _ e) (Nat.le_refl _) (show ObjOk X.prog X.w _ _ _ (.tup ys) from ⟨⟨hz,_,Heap.get?_push_size _ rfl,rfl⟩,its,r',IsTup.new _ _⟩)
  exact ⟨.ref h'.objs.size,_,I2,rfl,q _ (I1.hok.fresh (Nat.le_refl _))⟩
 ·obtain ⟨its,r',pl,hz⟩:=I.tuple hq
  exact call_tuple_same pl ⟨.ref p,H,I,rfl,q⟩
def tyV (K:W.Frag) (T:String) (x:V) (H:Hp):Prop:=match x with
 | .str _=>T = "str"
 | .int _=>T = "int"
 | .ref p=>(T = "list"/\∃ xs,SqL K H p xs)\/(T = "tuple"/\∃ o,K.lookup p = some o/\o.cls = .type "tuple"/\o.dict = none) \/
   (T = "dict"/\((∃ kvs,H p = some (.dK kvs))\/∃ kvs,H p = some (.dT kvs)))\/(T = "set"/\∃ S n,H p = some (.set S n))
 | _=>False
theorem zoA {zm:List (Addr × Obj)} {σ:St} {H:Hp} {s:Shared} {T:String} {x:V} {v:Value} (I:Inv X zm σ H s) (r:RelV x v) (ty:tyV X.K T x H) :
  s.TypeIs v T/\∀ a,v = .ref a->∃ ob,s.heap.get? a = some ob/\ob.dict = none:=by
 cases x with
 | str z =>
  obtain ⟨t,rfl⟩:=r
  cases (show T = "str" from ty)
  exact ⟨typeIs_str s z t,fun _ e=>nomatch e⟩
 | int i =>
  obtain ⟨t,rfl⟩:=r
  cases (show T = "int" from ty)
  exact ⟨typeIs_int s i t,fun _ e=>nomatch e⟩
 | ref p =>
  cases r
  rcases ty with ⟨rfl,xs,hq⟩ | ⟨rfl,o,hk,hc,hd⟩ | ⟨rfl,hk⟩ | ⟨rfl,S,n,hk⟩
  ·obtain ⟨its,_,pl,_⟩:=I.list hq
   refine ⟨pl.isList.typeIs,fun a e=>?_⟩
   cases e
   obtain ⟨o,n,e,c,hd,_⟩:=pl
   exact ⟨o,e,hd⟩
  ·refine ⟨⟨o,I.kIn p o hk,hc⟩,fun a e=>?_⟩
   cases e
   exact ⟨o,I.kIn _ o hk,hd⟩
  ·have z:∃ o,s.heap.get? p = some o/\o.ExactDict:=by
    rcases hk with ⟨kvs,hk⟩ | ⟨kvs,hk⟩
    ·obtain ⟨_,_,_,_,o,_,_,e,ex,_⟩:=I.hok p _ hk
     exact ⟨o,e,ex⟩
    ·obtain ⟨_,_,_,_,o,_,_,e,ex,_⟩:=I.hok p _ hk
     exact ⟨o,e,ex⟩
   obtain ⟨o,e,ex⟩:=z
   refine ⟨⟨o,e,ex.1⟩,fun a e2=>?_⟩
   cases e2
   exact ⟨o,e,ex.2.1⟩
  ·obtain ⟨o,_,_,_,e,ex,_⟩:=I.hok p _ hk
   refine ⟨⟨o,e,ex.1⟩,fun a e2=>?_⟩
   cases e2
   exact ⟨o,e,ex.2.1⟩
 | _=>exact False.elim ty
def zsY (K:W.Frag) (T:String) (r:V->List V->Hp->VK->Prop) (to:TE):TE:=fun σ H Q=>to σ H fun x H1=>tyV K T x H1/\r x [] H1 Q
def tBM (K:W.Frag) (T:String) (r:V->List V->Hp->VK->Prop) (to:TE) (t:TA):TE:=fun σ H Q=>to σ H fun x H1=>tyV K T x H1/\t σ H1 fun xs H2=>r x xs H2 Q
variable {o e:Expr} {es:List Expr} {to:TE} {t:TA} {name:Str} {apos cpos:Pos} {T id:String} {r:V->List V->Hp->VK->Prop}
theorem zri (pa:PlainAttrs T) (slot:Slot T name id) (hty:typeOf (.builtin id) = pure (.type "method_descriptor")) (hm:MtR X id r) (ho:PE X o to)
  (hbase:attributeBase o name X.env (eval o X.env) = eval o X.env:=by rfl) (hline:(apos.endLine == cpos.line) = true:=by rfl):PE X (.Call (.Attribute o name apos) [] [] cpos) (zsY X.K T r to):=by
 intro zm s σ H Q I h
 refine wpAny_Call_method0_late hbase hline (thn (ho zm s σ H _ I h) fun v s1 ⟨x,H1,I1,r1,ty,q1⟩=>?_)
 obtain ⟨h1,h2⟩:=zoA I1 r1 ty
 exact ⟨T,id,pa,slot,hty,h1,h2,Calls.callWith_builtin rfl (PySem.evalArgs_none (hm zm s1 σ H1 x [] v [] Q I1 r1 .nil q1))⟩
theorem zfG (pa:PlainAttrs T) (slot:Slot T name id) (hty:typeOf (.builtin id) = pure (.type "method_descriptor")) (hm:MtR X id r) (ho:PE X o to) (ha:PA X (e :: es) t)
  (hbase:attributeBase o name X.env (eval o X.env) = eval o X.env:=by rfl)
  (hfew:((backTo cpos (starEach (e :: es) X.env)).all (fun x=>!x.1) && (backToKw cpos (keywordEach [] X.env)).all (fun x=>x.1.isSome)
   && decide ((e :: es).length + ([]:List Keyword).length + (if ([]:List Keyword).isEmpty then 0 else 1) < 30)) = true:=by rfl)
  (hline:(apos.endLine == cpos.line) = true:=by rfl) (hs:starEach (e :: es) X.env = (false,eval e X.env) :: starEach es X.env:=by rfl) (hplain:(backTo cpos (starEach es X.env)).any (·.1) = false:=by rfl) :
  PE X (.Call (.Attribute o name apos) (e :: es) [] cpos) (tBM X.K T r to t):=by
 intro zm s σ H Q I h
 refine wpAny_Call_method_late hbase hfew hline rfl (thn (ho zm s σ H _ I h) fun v s1 ⟨x,H1,I1,r1,ty,q1⟩=>?_)
 obtain ⟨h1,h2⟩:=zoA I1 r1 ty
 refine ⟨T,id,pa,slot,hty,h1,h2,?_⟩
 have hA:=ha cpos zm s1 σ H1 _ I1 q1
 rw [hs] at hA ⊢
 refine Calls.callWith_builtin (by show (false || (backTo cpos (starEach es X.env)).any (·.1)) = false; rw [hplain] <;> rfl) (Calls.evalArgs_plain ?_)
 exact thn hA fun us s2 ⟨vs,H2,I2,r2,q2⟩=>hm zm s2 σ H2 x vs v us Q I2 r1 r2 q2
end
end
section
def MtM (X:Cx) (id:String) (r:V->List V->Hp->VK->Prop):Prop :=
 ∀ (zm:List (Addr × Obj)) (s:Shared) (σ:St) (H:Hp) (x:V) (xs:List V) (v:Value) (us:List Value) (Q:VK),Inv X zm σ H s->RelV x v->Vals xs us->r x xs H Q ->
  wpAny (model X.prog X.w) X.A (call (.builtin id) (v :: us)) (EP X zm σ Q) X.xe s
theorem Vals.one:∀ {x:V} {us:List Value},Vals [x] us->∃ u,us = [u]/\RelV x u
 | _,_,.cons r .nil=>⟨_,rfl,r⟩
theorem Vals.zero:∀ {us:List Value},Vals [] us->us = []
 | _,.nil=>rfl
theorem Vals.reverse {xs:List V} {us:List Value} (h:Vals xs us):Vals xs.reverse us.reverse:=by
 induction h with
 | nil=>exact .nil
 | cons r t ih=>rw [List.reverse_cons,List.reverse_cons]; exact Vals.append ih (.cons r .nil)
theorem Vals.rep {xs:List V} {us:List Value} (h:Vals xs us):∀ k:Nat,Vals (List.replicate k xs).flatten (List.replicate k us).flatten
 | 0=>.nil
 | k + 1=>by
  rw [List.replicate_succ,List.replicate_succ,List.flatten_cons,List.flatten_cons]
  exact Vals.append h (Vals.rep h k)
theorem zhR (its:List Value):∀ (k:Nat) (acc:List Value),
  List.foldl (fun x1 x2=>x1 ++ x2) acc.toArray (List.replicate k its.toArray) = (acc ++ (List.replicate k its).flatten).toArray
 | 0,acc=>by simp
 | k + 1,acc=>by
  have e:acc.toArray ++ its.toArray = (acc ++ its).toArray:=by simp
  have e2:(acc ++ its) ++ (List.replicate k its).flatten = acc ++ (List.replicate (k + 1) its).flatten:=by
   rw [List.replicate_succ,List.flatten_cons,List.append_assoc]
  rw [<- e2,<- zhR its k (acc ++ its),<- e,List.replicate_succ,List.foldl_cons]
section
variable {X:Cx} {zm:List (Addr × Obj)} {σ:St} {H:Hp} {s:Shared} {l b:Addr} {xs ys zs:List V}
theorem Inv.lset {its its':List Value} {n:Nat} {f:Array Value->Array Value} {t':Nat} (I:Inv X zm σ H s) (hH:H l = some (.lst xs))
  (e:s.heap.get? l = some { cls:=.type "list",data:=.seq its.toArray n }) (hf:f its.toArray = its'.toArray) (hv:Vals ys its') (hz:ys.length <= sizeLine) :
  Inv X zm σ (upd H l (.lst ys)) { s with heap:=s.heap.update l (Obj.mapSeq f),toks:=t' }:=by
 have q:=PySem.IsL.update e f
 rw [hf] at q
 refine I.write (x:=l) (e:=l) (by rw [hH]; exact trivial) (.inl rfl) (fun b' u hb hu=>(Heap.get?_update_other s.heap (Obj.mapSeq f) (Ne.symm hb)).trans hu) ⟨_,q⟩ ?_
 exact ⟨hz,its',_,hv,q⟩
theorem Inv.lnew {its:List Value} {t':Nat} (I:Inv X zm σ H s) (hv:Vals ys its) (hz:ys.length <= sizeLine) :
  Inv X zm σ (upd H s.heap.objs.size (.lst ys)) { s with heap:=s.heap.push { cls:=.type "list",data:=.seq its.toArray },toks:=t' } :=
 I.laid (fun _ _ q=>Heap.get?_push_of_some _ q) (Nat.le_refl _) ⟨hz,its,0,hv,Heap.get?_push_size _ rfl⟩
theorem Inv.fresh (I:Inv X zm σ H s):H s.heap.objs.size = none:=I.hok.fresh (Nat.le_refl _)
theorem Inv.lstM (I:Inv X zm σ H s) (hH:H l = some (.lst xs)):xs.length <= sizeLine/\∃ (its:List Value) (n:Nat),Vals xs its/\xs.length = its.length/\s.heap.get? l = some { cls:=.type "list",data:=.seq its.toArray n }:=by
 obtain ⟨z,its,n,r,e⟩:=I.hok l _ hH
 exact ⟨z,its,n,r,r.length,e⟩
theorem zjS {n:Nat} (h:n <= sizeLine):Builtin.List.listTooLong n = false:=by
 unfold Builtin.List.listTooLong
 exact decide_eq_false (by omega)
end
section
variable {X:Cx}
def zlJ:V->List V->Hp->VK->Prop:=fun x vs H Q=>∃ l xs y,x = .ref l/\vs = [y]/\H l = some (.lst xs)/\xs.length < sizeLine/\Q .non (upd H l (.lst (xs ++ [y])))
theorem zbQ:MtM X "list.append" zlJ:=by
 intro zm s σ H x vs v us Q I rx rv h
 obtain ⟨l,xs,y,rfl,rfl,hH,hz,q⟩:=h
 cases rx
 obtain ⟨u,rfl,ru⟩:=rv.one
 obtain ⟨z,its,n,r,hl,e⟩:=I.lstM hH
 refine call_meets F.slot_list_append ⟨_,e,rfl⟩ F.entry_list_append (F.args_list_append_2 _ _) (PySem.list_append l its.toArray n u (by rw [List.size_toArray]; omega)) ⟨e,?_⟩
 refine ⟨.non,_,I.lset (its':=its ++ [u]) hH e (by simp) (r.append (.cons ru .nil)) ?_,rfl,q⟩
 rw [List.length_append,List.length_singleton]
 omega
def zmC:V->List V->Hp->VK->Prop:=fun x vs H Q=>∃ l b xs zs,x = .ref l/\vs = [.ref b]/\H l = some (.lst xs)/\H b = some (.lst zs)/\xs.length + zs.length <= sizeLine/\Q .non (upd H l (.lst (xs ++ zs)))
theorem ziB:MtM X "list.extend" zmC:=by
 intro zm s σ H x vs v us Q I rx rv h
 obtain ⟨l,b,xs,zs,rfl,rfl,hH,hB,hz,q⟩:=h
 cases rx
 obtain ⟨u,rfl,ru⟩:=rv.one
 cases ru
 obtain ⟨z,its,n,r,hl,e⟩:=I.lstM hH
 obtain ⟨z2,its2,n2,r2,hl2,e2⟩:=I.lstM hB
 have hsz:its.toArray.size + its2.toArray.size <= sizeLine:=by rw [List.size_toArray,List.size_toArray]; omega
 have hlong:¬ (!its.toArray.isEmpty && Builtin.List.listTooLong (its.toArray.size + its2.toArray.size)) = true:=by
  rw [zjS hsz,Bool.and_false]
  exact Bool.false_ne_true
 refine call_meets F.slot_list_extend ⟨_,e,rfl⟩ F.entry_list_extend (F.args_list_extend_2 _ _)
  (AutoSeq1.list_extend_list_list_0 l its.toArray n b its2.toArray n2 hlong (by rw [List.size_toArray]; omega) (by omega)) ⟨e,e2,?_⟩
 refine ⟨.non,_,I.lset (its':=its ++ its2) hH e (by simp) (r.append r2) ?_,rfl,q⟩
 rw [List.length_append]
 omega
def zj1:V->List V->Hp->VK->Prop:=fun x vs H Q=>∃ l xs,x = .ref l/\vs = []/\H l = some (.lst xs)/\Q .non (upd H l (.lst xs.reverse))
theorem zkU:MtM X "list.reverse" zj1:=by
 intro zm s σ H x vs v us Q I rx rv h
 obtain ⟨l,xs,rfl,rfl,hH,q⟩:=h
 cases rx
 have hus:=rv.zero
 subst hus
 obtain ⟨z,its,n,r,hl,e⟩:=I.lstM hH
 refine call_meets F.slot_list_reverse ⟨_,e,rfl⟩ F.entry_list_reverse (F.args_list_reverse_1 _) (AutoSeq1.list_reverse_list_0 l its.toArray n (by rw [List.size_toArray]; omega)) ⟨e,?_⟩
 refine ⟨.non,_,I.lset (its':=its.reverse) hH e (by simp) r.reverse ?_,rfl,q⟩
 rw [List.length_reverse]
 omega
def zqt:R2:=fun x y H Q=>∃ l b xs zs,x = .ref l/\y = .ref b/\H l = some (.lst xs)/\H b = some (.lst zs)/\xs.length + zs.length <= sizeLine/\∀ p,H p = none->Q (.ref p) (upd H p (.lst (xs ++ zs)))
theorem zlk:OpR X (binaryOp .Add) zqt:=by
 intro zm s σ H x y v u Q I rx ry h
 obtain ⟨l,b,xs,zs,rfl,rfl,hH,hB,hz,q⟩:=h
 cases rx
 cases ry
 obtain ⟨z,its,n,r,hl,e⟩:=I.lstM hH
 obtain ⟨z2,its2,n2,r2,hl2,e2⟩:=I.lstM hB
 refine PySem.P.add_list e e2 ?_ (by rw [List.size_toArray,List.size_toArray]; omega)
 have ea:its.toArray ++ its2.toArray = (its ++ its2).toArray:=by simp
 rw [ea]
 exact ⟨.ref _,_,I.lnew (t':=s.toks) (r.append r2) (by rw [List.length_append]; omega),rfl,q _ I.fresh⟩
def zs2:R2:=fun x y H Q=>∃ l k xs,x = .ref l/\y = .int k/\H l = some (.lst xs)/\-(2 ^ 63) <= k/\k < 2 ^ 63/\xs.length * k.toNat <= sizeLine /\
 ∀ p,H p = none->Q (.ref p) (upd H p (.lst (List.replicate k.toNat xs).flatten))
theorem zpo {α:Type} (xs:List α) (k:Nat):(List.replicate k xs).flatten.length = k * xs.length:=by
 induction k with
 | zero=>simp
 | succ k ih=>rw [List.replicate_succ,List.flatten_cons,List.length_append,ih,Nat.succ_mul,Nat.add_comm]
theorem zrW:OpR X (binaryOp .Mult) zs2:=by
 intro zm s σ H x y v u Q I rx ry h
 obtain ⟨l,k,xs,rfl,rfl,hH,h1,h2,hz,q⟩:=h
 cases rx
 obtain ⟨t,rfl⟩:=ry
 obtain ⟨z,its,n,r,hl,e⟩:=I.lstM hH
 have hlen:its.toArray.size * k.toNat <= sizeLine:=by rw [List.size_toArray,<- hl]; exact hz
 have hcap:¬ its.toArray.size * k.toNat > (2 ^ 63 - 1) / 8:=by
  have:(sizeLine:Nat) <= (2 ^ 63 - 1) / 8:=by decide
  omega
 have hfit:¬ (!Builtin.List.listFitsIndex k) = true:=by
  rw [fitsIndex_both h1 h2]
  exact Bool.false_ne_true
 have hlong:¬ Builtin.List.listTooLong (its.toArray.size * k.toNat) = true:=by
  rw [zjS hlen]
  exact Bool.false_ne_true
 have hnew:List.foldl (fun x1 x2=>x1 ++ x2) #[] (List.replicate (if its.toArray.isEmpty = true then 0 else k.toNat) its.toArray) = (List.replicate k.toNat its).flatten.toArray:=by
  have f0:∀ m:Nat,List.foldl (fun x1 x2=>x1 ++ x2) #[] (List.replicate m its.toArray) = (List.replicate m its).flatten.toArray:=fun m=>by
   have:=zhR its m []
   rw [List.nil_append] at this
   exact this
  rw [f0]
  cases its with
  | nil=>simp
  | cons a r'=>rw [if_neg (by simp)]
 refine wpAny_binaryOp_repeat_ref (T:="list") (U:="int") (by decide) ⟨_,e,rfl⟩ (fun s'=>typeIs_int s' k t) noFill_list_mul F.fills_int_mul F.slot_int_rmul repeat_list F.slot_int_index.lookup
  (call_meets F.slot_int_rmul (typeIs_int s k t) F.entry_int_rmul (F.args_int_rmul_2 _ _) (int___rmul___int_list k t l its.toArray n)
   ⟨e,rfl,⟨_,e,rfl⟩,call_meets F.slot_list_mul ⟨_,e,rfl⟩ F.entry_list_mul (F.args_list_mul_2 _ _) (AutoListH.list___mul___list_int_3 l its.toArray n k t hfit hcap hlong) ⟨e,?_⟩⟩)
 rw [hnew]
 exact ⟨.ref _,_,I.lnew (t':=s.toks) (r.rep k.toNat) (by rw [zpo,Nat.mul_comm]; exact hz),rfl,q _ I.fresh⟩
end
end
section
section
variable {κ:Type} [DecidableEq κ]
def zkX (kvs:List (κ × V)) (k:κ):Option V:=(kvs.find? fun kv=>decide (kv.1 = k)).map (·.2)
def ziS (kvs:List (κ × V)) (k:κ) (v:V):List (κ × V) :=
 if (kvs.any fun kv=>decide (kv.1 = k)) = true then kvs.map (fun kv=>if kv.1 = k then (kv.1,v) else kv) else kvs ++ [(k,v)]
theorem zfR {p:κ × V} {r:List (κ × V)} {k:κ} (e:p.1 = k):zkX (p :: r) k = some p.2:=by simp [zkX,List.find?_cons,e]
theorem zfS {p:κ × V} {r:List (κ × V)} {k:κ} (e:¬ p.1 = k):zkX (p :: r) k = zkX r k:=by simp [zkX,List.find?_cons,e]
theorem zke (k:κ):∀ kvs:List (κ × V),(kvs.any fun kv=>decide (kv.1 = k)) = (zkX kvs k).isSome
 | []=>rfl
 | p :: r=>by
  rw [List.any_cons]
  by_cases e:p.1 = k
  ·simp only [zfR e,decide_eq_true e,Bool.true_or,Option.isSome_some]
  ·rw [zfS e,decide_eq_false e,Bool.false_or]; exact zke k r
theorem zgb (kvs:List (κ × V)) (k:κ) (v:V):(ziS kvs k v).length <= kvs.length + 1:=by
 unfold ziS
 split
 ·rw [List.length_map]; omega
 ·rw [List.length_append,List.length_cons,List.length_nil]; omega
theorem RelO.isSome_eq {o:Option V} {u:Option Value} (r:RelO o u):o.isSome = u.isSome:=by
 cases o with
 | none=>cases u with
  | none=>rfl
  | some _=>exact (show False from r).elim
 | some _=>cases u with
  | none=>exact (show False from r).elim
  | some _=>rfl
theorem KV.val {kvs:List (κ × V)} {vs:List (κ × Value)} (r:KV kvs vs) (k:κ):RelO (zkX kvs k) (valueAt vs k):=by
 unfold KV at r
 induction r with
 | nil=>exact True.intro
 | @cons p q ps qs h t ih =>
  obtain ⟨h1,h2⟩:=h
  by_cases e:p.1 = k
  ·have e':q.1 = k:=h1.symm.trans e
   have b:valueAt (q :: qs) k = some q.2:=by simp [valueAt,List.find?_cons,e']
   rw [zfR e,b]; exact h2
  ·have e':¬ q.1 = k:=fun z=>e (h1.trans z)
   have b:valueAt (q :: qs) k = valueAt qs k:=by simp [valueAt,List.find?_cons,e']
   rw [zfS e,b]; exact ih
theorem KV.any {kvs:List (κ × V)} {vs:List (κ × Value)} (r:KV kvs vs) (k:κ):(kvs.any fun kv=>decide (kv.1 = k)) = vs.any fun kv=>decide (kv.1 = k):=by
 unfold KV at r
 induction r with
 | nil=>rfl
 | cons h t ih=>rw [List.any_cons,List.any_cons,ih,h.1]
theorem KV.repl {kvs:List (κ × V)} {vs:List (κ × Value)} (r:KV kvs vs) (k:κ) {y:V} {u:Value} (ry:RelV y u) :
  KV (kvs.map fun kv=>if kv.1 = k then (kv.1,y) else kv) (vs.map fun kv=>if kv.1 = k then (kv.1,u) else kv):=by
 unfold KV at r ⊢
 induction r with
 | nil=>exact .nil
 | @cons p q ps qs h t ih =>
  rw [List.map_cons,List.map_cons]
  refine .cons ?_ ih
  obtain ⟨h1,h2⟩:=h
  by_cases e:p.1 = k
  ·rw [if_pos e,if_pos (h1.symm.trans e)]; exact ⟨h1,ry⟩
  ·rw [if_neg e,if_neg (fun z=>e (h1.trans z))]; exact ⟨h1,h2⟩
theorem KV.put {kvs:List (κ × V)} {vs:List (κ × Value)} (r:KV kvs vs) (k:κ) {y:V} {u:Value} (ry:RelV y u):KV (ziS kvs k y) (stored vs k u):=by
 unfold ziS stored
 rw [r.any k]
 by_cases e:(vs.any fun kv=>decide (kv.1 = k)) = true
 ·rw [if_pos e,if_pos e]; exact r.repl k ry
 ·rw [if_neg e,if_neg e]; exact Paired.snoc r ⟨rfl,ry⟩
theorem KV.length {kvs:List (κ × V)} {vs:List (κ × Value)} (r:KV kvs vs):kvs.length = vs.length:=Paired.length r
end
theorem zns {P:Program} {w:World} {k:Key} {u:Value} (r:RelV (kV k) u):(zbK P w).is k u = true:=by
 cases k with
 | inl i=>obtain ⟨t,e⟩:=(show ∃ t,u = Value.int i t from r); subst e; exact zi6 P w i t
 | inr x=>obtain ⟨t,e⟩:=(show ∃ t,u = Value.str x t from r); subst e; exact zjq P w x t
theorem ziL {P:Program} {w:World}:∀ {ks:List Key} {us:List Value},Vals (ks.map kV) us->ItemsAre (zbK P w) ks us
 | [],_,r=>by rw [List.map_nil] at r; cases r; exact .nil
 | k :: ks,_,r=>by
  rw [List.map_cons] at r
  cases r with
  | cons h t=>exact .cons (zns h) (ziL t)
abbrev KT (H:Hp):List (List Key × V)->List (List Key × Addr × Value)->Prop:=Paired fun p q=>p.1 = q.1/\H q.2.1 = some (.tup (p.1.map kV))/\RelV p.2 q.2.2
theorem KT.val {H:Hp} {kvs:List (List Key × V)} {xs:List (List Key × Addr × Value)} (r:KT H kvs xs) (k:List Key):RelO (zkX kvs k) ((atKey xs k).map (·.2)):=by
 induction r with
 | nil=>exact True.intro
 | @cons p q ps qs h t ih =>
  obtain ⟨h1,_,h2⟩:=h
  by_cases e:p.1 = k
  ·have e':q.1 = k:=h1.symm.trans e
   have b:atKey (q :: qs) k = some q.2:=by simp [atKey,List.find?_cons,e']
   rw [zfR e,b]; exact h2
  ·have e':¬ q.1 = k:=fun z=>e (h1.trans z)
   have b:atKey (q :: qs) k = atKey qs k:=by simp [atKey,List.find?_cons,e']
   rw [zfS e,b]; exact ih
theorem KT.repl {H:Hp} {kvs:List (List Key × V)} {xs:List (List Key × Addr × Value)} (r:KT H kvs xs) (k:List Key) {y:V} {u:Value} (ry:RelV y u) :
  KT H (kvs.map fun kv=>if kv.1 = k then (kv.1,y) else kv) (xs.map (putAt k u)):=by
 induction r with
 | nil=>exact .nil
 | @cons p q ps qs h t ih =>
  rw [List.map_cons,List.map_cons]
  refine .cons ?_ ih
  obtain ⟨h1,h2,h3⟩:=h
  unfold putAt
  by_cases e:p.1 = k
  ·rw [if_pos e,if_pos (h1.symm.trans e)]; exact ⟨h1,h2,ry⟩
  ·rw [if_neg e,if_neg (fun z=>e (h1.trans z))]; exact ⟨h1,h2,h3⟩
theorem KT.put {H:Hp} {kvs:List (List Key × V)} {xs:List (List Key × Addr × Value)} (r:KT H kvs xs) (k:List Key) {b:Addr} {y:V} {u:Value} (hb:H b = some (.tup (k.map kV))) (ry:RelV y u) :
  KT H (ziS kvs k y) (storedH xs k b u):=by
 have e:(kvs.any fun kv=>decide (kv.1 = k)) = (atKey xs k).isSome:=by
  rw [zke,(r.val k).isSome_eq,Option.isSome_map]
 unfold ziS storedH
 rw [e]
 by_cases q:(atKey xs k).isSome = true
 ·rw [if_pos q,if_pos q]; exact r.repl k ry
 ·rw [if_neg q,if_neg q]; exact Paired.snoc r ⟨rfl,hb,ry⟩
theorem KT.keeps {H H':Hp} {kvs:List (List Key × V)} {xs:List (List Key × Addr × Value)} (r:KT H kvs xs) (ht:∀ b ys,H b = some (.tup ys)->H' b = some (.tup ys)):KT H' kvs xs :=
 Paired.mapP r fun _ _ z=>⟨z.1,ht _ _ z.2.1,z.2.2⟩
section
variable {P:Program} {w:World} {H:Hp} {h:Heap} {a:Addr}
theorem zrG {u:HO} (ok:HOk P w H h) (e:Rd H a u):ObjOk P w H h a u:=e.ok ok
theorem zo7 {kvs:List (Key × V)} (ok:HOk P w H h) (e:Rd H a (.dK kvs)):kvs.length <= sizeLine/\(a == sysModules) = false/\∃ vs,KV kvs vs/\h.DictOf (zbK P w) a vs :=
 show ObjOk P w H h a (.dK kvs) from zrG ok e
theorem zsz {kvs:List (Key × V)} (ok:HOk P w H h) (e:H a = some (.dK kvs)):kvs.length <= sizeLine/\(a == sysModules) = false/\∃ vs,KV kvs vs/\h.DictOf (zbK P w) a vs:=zo7 ok (.inl e)
theorem zjT {ks:List Key} (ok:HOk P w H h) (e:H a = some (.tup (ks.map kV))):(tupleKind (zbK P w)).is h ks a:=by
 obtain ⟨_,its,r,o,h1,h2,n,h3⟩:=(show ObjOk P w H h a (.tup (ks.map kV)) from ok a _ e)
 exact ⟨o,its.toArray,n,h1,h2,h3,by simpa using ziL r⟩
theorem zp1 {kvs:List (List Key × V)} (ok:HOk P w H h) (e:Rd H a (.dT kvs)):kvs.length <= sizeLine/\(a == sysModules) = false /\
  ∃ xs,KT H kvs xs/\h.DictOfH (tupleKind (zbK P w)) a xs:=by
 obtain ⟨z,y,xs,r,o,es,ep,h1,h2,h3,h4,h5⟩:=(show ObjOk P w H h a (.dT kvs) from zrG ok e)
 refine ⟨z,y,xs,r,o,es,ep,h1,h2,h3,h4,fun x hx=>?_,h5⟩
 have all:∀ {l:List (List Key × V)} {m:List (List Key × Addr × Value)},KT H l m->∀ x ∈ m,(tupleKind (zbK P w)).is h x.1 x.2.1:=by
  intro l m q
  induction q with
  | nil=>intro x hx; exact nomatch hx
  | @cons p q ps qs hq t ih =>
   intro x hx
   rcases List.mem_cons.mp hx with e | hx
   ·subst e
    exact zjT ok (by rw [<- hq.1]; exact hq.2.1)
   ·exact ih x hx
 exact all r x hx
theorem zsr {kvs:List (List Key × V)} (ok:HOk P w H h) (e:H a = some (.dT kvs)):kvs.length <= sizeLine/\(a == sysModules) = false /\
  ∃ xs,KT H kvs xs/\h.DictOfH (tupleKind (zbK P w)) a xs:=zp1 ok (.inl e)
end
def DGet (H:Hp) (a:Addr) (y:V) (r:Option V):Prop :=
 (∃ kvs k,Rd H a (.dK kvs)/\y = kV k/\r = zkX kvs k)\/∃ kvs k b,Rd H a (.dT kvs)/\y = .ref b/\H b = some (.tup (k.map kV))/\r = zkX kvs k
def DPut (H:Hp) (a:Addr) (y v:V) (H':Hp):Prop :=
 (∃ kvs k,H a = some (.dK kvs)/\y = kV k/\kvs.length < sizeLine/\H' = upd H a (.dK (ziS kvs k v))) \/
 ∃ kvs k b,H a = some (.dT kvs)/\y = .ref b/\H b = some (.tup (k.map kV))/\kvs.length < sizeLine/\H' = upd H a (.dT (ziS kvs k v))
theorem DPut.k {H:Hp} {a:Addr} {kvs:List (Key × V)} {k:Key} {v:V} (e:H a = some (.dK kvs)) (hl:kvs.length < sizeLine):DPut H a (kV k) v (upd H a (.dK (ziS kvs k v))):=.inl ⟨kvs,k,e,rfl,hl,rfl⟩
theorem DPut.t {H:Hp} {a b:Addr} {kvs:List (List Key × V)} {k:List Key} {v:V} (e:H a = some (.dT kvs)) (eb:H b = some (.tup (k.map kV))) (hl:kvs.length < sizeLine) :
  DPut H a (.ref b) v (upd H a (.dT (ziS kvs k v))):=.inr ⟨kvs,k,b,e,rfl,eb,hl,rfl⟩
section
variable {X:Cx} {zm:List (Addr × Obj)} {σ:St} {H:Hp} {s:Shared} {a:Addr} {y v:V} {u r:Value} {o:Option V} {A:Around} {E:Value->Shared->Prop}
theorem Inv.big (I:Inv X zm σ H s):sysModules < s.heap.objs.size:=by
 have h:mainGlobals < s.heap.objs.size:=(I.mod.glob.keeps I.bk).lt
 exact Nat.lt_trans (by decide) h
theorem ztt {Q:Value->Shared->Prop} (hu:A.units + 1 < cLine) (I:Inv X zm σ H s) (g:DGet H a y o) (ry:RelV y u) (h:∀ s',Inv X zm σ H s'->Q (.bool o.isSome) s') :
  wpAny (model X.prog X.w) A (compareOp .In u (.ref a)) Q E s:=by
 rcases g with ⟨kvs,k,e,ey,l⟩ | ⟨kvs,k,b,e,ey,eb,l⟩
 ·subst ey
  obtain ⟨z,hd,vs,rel,dd⟩:=zo7 I.hok e
  refine wpAny_in_of (zns ry) hd dd.mapOf ?_
  rw [<- (rel.val k).isSome_eq,<- l]
  exact h _ (I.tok _)
 ·subst ey
  cases (show u = Value.ref b from ry)
  obtain ⟨z,hd,xs,rel,dd⟩:=zp1 I.hok e
  refine wpAny_in_heap (tupleKind_room_in1 hu) (zjT I.hok eb) hd dd ?_
  have q:=(rel.val k).isSome_eq
  rw [Option.isSome_map] at q
  rw [<- q,<- l]
  exact h _ (I.tok _)
theorem zp5 {Q:Value->Shared->Prop} (hu:A.units + 1 < cLine) (I:Inv X zm σ H s) (g:DGet H a y o) (ry:RelV y u) (h:∀ s',Inv X zm σ H s'->Q (.bool (!o.isSome)) s') :
  wpAny (model X.prog X.w) A (compareOp .NotIn u (.ref a)) Q E s:=by
 rcases g with ⟨kvs,k,e,ey,l⟩ | ⟨kvs,k,b,e,ey,eb,l⟩
 ·subst ey
  obtain ⟨z,hd,vs,rel,dd⟩:=zo7 I.hok e
  refine wpAny_notIn_of (zns ry) hd dd.mapOf ?_
  rw [<- (rel.val k).isSome_eq,<- l]
  exact h _ (I.tok _)
 ·subst ey
  cases (show u = Value.ref b from ry)
  obtain ⟨z,hd,xs,rel,dd⟩:=zp1 I.hok e
  refine wpAny_notIn_heap (tupleKind_room_in1 hu) (zjT I.hok eb) hd dd ?_
  have q:=(rel.val k).isSome_eq
  rw [Option.isSome_map] at q
  rw [<- q,<- l]
  exact h _ (I.tok _)
theorem zkZ {h':Heap} {t':Nat} {ob:HO} (I:Inv X zm σ H s) (mu:Mut (H a)) (hs:Heap.SameBut a s.heap h') (he:∃ q,h'.get? a = some q) (new:ObjOk X.prog X.w (upd H a ob) h' a ob) :
  Inv X zm σ (upd H a ob) { s with heap:=h',toks:=t' } :=
 I.write (x:=a) (e:=a) mu (.inl rfl) (fun b q hb z=>(hs.2 b hb).trans z) he new
theorem zrA {P:Program} {w:World} {H':Hp} {h':Heap} {kvs:List (Key × V)} {vs:List (Key × Value)} (z:kvs.length <= sizeLine) (hd:(a == sysModules) = false) (rel:KV kvs vs) (dd:h'.DictOf (zbK P w) a vs) :
  ObjOk P w H' h' a (.dK kvs):=⟨z,hd,vs,rel,dd⟩
theorem zmc {H':Hp} {Q:Unit->Shared->Prop} (hu:A.units + 1 < cLine) (I:Inv X zm σ H s) (g:DPut H a y v H') (ry:RelV y u) (rv:RelV v r) (h:∀ s',Inv X zm σ H' s'->Q () s') :
  wpAny (model X.prog X.w) A (setItem (.ref a) u r) Q E s:=by
 rcases g with ⟨kvs,k,e,ey,l,eH⟩ | ⟨kvs,k,b,e,ey,eb,l,eH⟩
 ·subst ey eH
  obtain ⟨z,hd,vs,rel,dd⟩:=zsz I.hok e
  have hz:vs.length <= sizeLine:=by rw [<- rel.length]; exact z
  have hl:(ziS kvs k v).length <= sizeLine:=by have:=zgb kvs k v; omega
  refine wpAny_setItem_pairs (hsz:=hz) (zns ry) dd fun h' dd' hs=>h _ ?_
  have he:∃ q,h'.get? a = some q:=let ⟨q,_,_,hq,_⟩:=dd'; ⟨q,hq⟩
  exact zkZ I (by rw [e]; exact True.intro) hs he (zrA hl hd (rel.put k rv) dd')
 ·subst ey eH
  cases (show u = Value.ref b from ry)
  obtain ⟨z,hd,xs,rel,dd⟩:=zsr I.hok e
  have hz:xs.length <= sizeLine:=by rw [<- Paired.length rel]; exact z
  have hl:(ziS kvs k v).length <= sizeLine:=by have:=zgb kvs k v; omega
  refine wpAny_setItem_heap (hsz:=hz) (tupleKind_room_in1 hu) (zjT I.hok eb) dd fun h' dd' hs=>h _ ?_
  obtain ⟨q,es,ep,hq,h2,h3,h4,_,h5⟩:=dd'
  refine zkZ I (by rw [e]; exact True.intro) hs ⟨q,hq⟩ ⟨hl,hd,_,(rel.put k eb rv).keeps fun c ys ec=>?_,q,es,ep,hq,h2,h3,h4,h5⟩
  rw [zS (zsm ec e (fun z=>nomatch z))]
  exact ec
end
def zrr (td ty tv:TE):TS:=fun D σ H=>tv σ H fun v H1=>td σ H1 fun x H2=>ty σ H2 fun y H3=>∃ a H4,x = .ref a/\DPut H3 a y v H4/\D.nx σ H4
section
variable {X:Cx} {o i e value:Expr} {pos pos' tpos:Pos} {td ty tv:TE}
theorem zpW (hu:X.A.units + 1 < cLine) (ho:PE X o td) (hi:PE X i ty) (hv:PE X value tv) (hs:swapsWith value (some (.Subscript o i pos')) pos.line X.env = pure false) :
  PS X (.Assign [.Subscript o i pos'] value pos) (zrr td ty tv):=by
 intro zm s σ H D I h
 refine wpAny_Assign_Subscript (thn (hv zm s σ H _ I h) fun r s1 ⟨v,H1,I1,rv,q1⟩=>thn (ho zm s1 σ H1 _ I1 q1) fun u s2 ⟨x,H2,I2,rx,q2⟩=>thn (hi zm s2 σ H2 _ I2 q2) fun iv s3 ⟨y,H3,I3,ry,a,H4,ex,g,q3⟩=>?_) hs
 subst ex
 obtain rfl:u = Value.ref a:=rx
 exact zmc hu I3 g ry rv fun s4 I4=>⟨σ,H4,I4,q3⟩
end
theorem znx {P:Program} {w:World} {H:Hp} (h:Heap) (hb:sysModules < h.objs.size):ObjOk P w H (h.push { cls:=.type "dict",data:=.dict #[] }) h.objs.size (.dT []) :=
 ⟨Nat.zero_le _,beq_eq_false_iff_ne.mpr (Ne.symm (Nat.ne_of_lt hb)),[],.nil,_,#[],0,Heap.get?_push_size _ rfl,⟨rfl,rfl,rfl⟩,rfl,rfl,List.nodup_nil⟩
def zoG:TE:=fun _ H Q=>∀ p,H p = none->Q (.ref p) (upd H p (.dT []))
section
variable {X:Cx} {pos:Pos}
theorem zmZ:PE X (.Dict [] [] pos) zoG:=fun zm s σ H Q I h =>
 wpAny_Dict_empty ⟨.ref s.heap.objs.size,_,I.laid (a:=s.heap.objs.size) (o:=.dT []) (t':=s.toks) (fun _ _ q=>Heap.get?_push_of_some _ q) (Nat.le_refl _) (znx s.heap I.big),rfl,h _ (I.hok.fresh (Nat.le_refl _))⟩
end
structure M1 (X:Cx) (o:Expr) (m:Str) (apos:Pos) (e:Expr) (cpos:Pos):Prop where
 base:attributeBase o m X.env (eval o X.env) = eval o X.env
 few:((backTo cpos (starEach [e] X.env)).all (fun x=>!x.1) && (backToKw cpos (keywordEach [] X.env)).all (fun x=>x.1.isSome)
  && decide (([e]:List Expr).length + ([]:List Keyword).length + (if ([]:List Keyword).isEmpty then 0 else 1) < 30)) = true
 line:(apos.endLine == cpos.line) = true
 trees:backTo cpos (starEach [e] X.env) = [(false,eval e X.env)]
structure M2 (X:Cx) (o:Expr) (m:Str) (apos:Pos) (e f:Expr) (cpos:Pos):Prop where
 base:attributeBase o m X.env (eval o X.env) = eval o X.env
 few:((backTo cpos (starEach [e,f] X.env)).all (fun x=>!x.1) && (backToKw cpos (keywordEach [] X.env)).all (fun x=>x.1.isSome)
  && decide (([e,f]:List Expr).length + ([]:List Keyword).length + (if ([]:List Keyword).isEmpty then 0 else 1) < 30)) = true
 line:(apos.endLine == cpos.line) = true
 trees:backTo cpos (starEach [e,f] X.env) = [(false,eval e X.env),(false,eval f X.env)]
end
end L2
namespace Att
open PySem PySem.W PySem.Calls PyProof.Rows
theorem zgh {P:Params} {h:Heap}:∀ (ns:List Int) (vs:List Value),WellAll P h vs (ns.map WData.int)->IntsAre vs ns:=by
 intro ns
 induction ns with
 | nil =>
  intro vs w
  rw [List.map_nil] at w
  cases w
  exact .nil
 | cons n ns ih =>
  intro vs w
  rw [List.map_cons] at w
  cases w with
  | cons a b =>
   cases a
   exact .cons _ _ (ih _ b)
theorem zle {l:OpenLaw} {n:Nat} (hn:l.most = some n) {P:Params} {h:Heap} {args:List WData} {vals:List Value}
  (hpre:l.row.toRowW.claim.pre args = true) (hwl:WellAll P h vals args) :
  ∃ a vs ns,vals = [Value.ref a]/\args = [WData.list (ns.map WData.int)]/\h.get? a = some { cls:=.type "list",data:=.seq vs.toArray }/\IntsAre vs ns/\ns.length <= n:=by
 have hsh:WShape.hasAll [] args [.list .int] = true:=(pre_splitW hpre).1
 have hc:l.pre.holds [] { args:=args } = true:=(pre_splitW hpre).2
 obtain ⟨d,r,rfl,h1,h2⟩:=hasAllW_cons hsh
 obtain rfl:=hasAllW_nil h2
 obtain ⟨xs,rfl,h3⟩:=hasW_list h1
 obtain ⟨ns,rfl⟩:=items_int h3
 have hlen:ns.length <= n:=by
  unfold OpenLaw.pre at hc
  have h4:(WTm.not (.lt (.lit (.int (n:Int))) (.len (.arg 0)))).holds [] { args:=[.list (ns.map .int)] } = true:=by
   have h4:=(holds_andW hc).1
   rw [hn] at h4
   exact h4
  have h5:=condW_of h4 (w_not (w_lt w_lit (w_len_list (w_arg rfl))))
  rw [List.length_map] at h5
  refine Nat.le_of_not_lt fun q=>?_
  have q':(n:Int) < ((ns.length:Nat):Int):=by omega
  first
   | (rw [decide_eq_true q'] at h5; exact absurd h5 (by decide))
   | (simp at h5; omega)
 cases hwl with
 | cons w1 w2 =>
  cases w2
  cases w1 with
  | list ho hall=>exact ⟨_,_,ns,rfl,rfl,ho,zgh ns _ hall,hlen⟩
theorem zlc (l:OpenLaw) (args:List WData):l.row.toRowW.claim.post args (.bool true) args = true :=
 postW_of (r:=l.row.toRowW) (X:=(true == true))
  (show WShape.has [] (.bool true) .bool = true by first | rfl | decide | simp [WShape.has,WShape.arms,WShape.armsAll])
  (show (WTm.eq .res (.lit (.bool true))).value [] { args:=args,res:=some (.bool true),after:=args } = some (.bool (true == true)) from w_eq_bool (w_res rfl) w_lit) rfl
theorem attach_call {l:OpenLaw} {n:Nat} {q:Program} {loose:List Str} {XP:(Str->Option Value)->Heap->Prop} {YP:World->Heap->Prop} {d:DefRec}
  (hn:l.most = some n) (hdf:d.params.defaults = [])
  (call:∀ (w:World) (s₀ s₁:Shared) (mg mb:Str->Option Value) (fa:Addr) (o:Obj) (pm cd doc:Value) (a:Addr) (vs:List Value) (ns:List Int),
   Ground q loose [] XP w s₀ mg mb s₁.heap->YP w s₁.heap ->
   s₁.heap.get? fa = some o->o.data = .func (docDef d.name d.params d.body d.scope pm cd doc)->s₁.heap.CodeRec cd d.name->mg d.name = some (.ref fa) ->
   s₁.heap.get? a = some { cls:=.type "list",data:=.seq vs.toArray }->IntsAre vs ns->ns.length <= n->s₁.gens = #[] ->
   codeAny (model l.prog w) callerA (.call (.ref fa) ⟨[.ref a],[]⟩) (fun r s'=>r = .ok (.ret (.bool true))/\OldK s₁.heap s'.heap/\s'.os = s₁.os/\AllBare s'.gens) s₁) :
  WalkO q loose XP YP l.row.toRowW d [] (fun f vs=>PySem.call f vs):=by
 intro w s₀ s₁ mg mb G Y fa o pm cd doc dV kV ho hd hcd hD hmg hg args vals as hpre hlay hrd hwl hlo
 obtain rfl:dV = .none:=Dflts.none hD hdf
 obtain rfl:kV = .none:=Dflts.noKw hD
 obtain ⟨a,vs,ns,rfl,rfl,hobj,hints,hlen⟩:=zle hn hpre hwl
 refine enter_call (codeAny_mono (call w s₀ s₁ mg mb fa o pm cd doc a vs ns G Y ho (fd_plain hd) hcd hmg hobj hints hlen hg) fun r s' hq=>?_)
 obtain ⟨rfl,h2,h3,h4⟩:=hq
 exact ⟨.inl ⟨.bool true,.bool true,[],rfl,fun _=>rfl,.bool true,zlc l _,fun _=>⟨List.Pairwise.nil,fun _ hm=>(nomatch hm)⟩⟩,h2,h3,h4⟩
end Att
namespace L2
open PySem PySem.Spec PyProof.Rows
section
theorem ziG:∀ {vs:List Value} {ns:List Int},IntsAre vs ns->Vals (ns.map V.int) vs
 | _,_,.nil=>.nil
 | _,_,.cons n t h=>.cons ⟨t,rfl⟩ (ziG h)
def Only (H:Hp):Prop:=∀ b,H b = none\/(∃ o xs,H b = some (.frz o (.lst xs)))\/∃ q ∈ tabsG,q.1.2 = b/\H b = some (.tbl q.2)
def zfg (b:Addr):Option HO:=(tabsG.find? fun q=>q.1.2 == b).map fun q=>.tbl q.2
theorem zel {b:Addr} {u:HO} (e:zfg b = some u):∃ q ∈ tabsG,q.1.2 = b/\u = .tbl q.2:=by
 unfold zfg at e
 cases h:tabsG.find? fun q=>q.1.2 == b with
 | none=>rw [h] at e; cases e
 | some q =>
  rw [h] at e
  cases e
  exact ⟨q,List.mem_of_find?_eq_some h,by simpa using List.find?_some h,rfl⟩
theorem zkp {l:List ((Addr × Addr) × Array Value)} (nd:(l.map fun q=>q.1.2).Nodup) {q:(Addr × Addr) × Array Value} (h:q ∈ l):l.find? (fun r=>r.1.2 == q.1.2) = some q:=by
 induction l with
 | nil=>cases h
 | cons p l ih =>
  rw [List.map_cons,List.nodup_cons] at nd
  rcases List.mem_cons.mp h with e | e
  ·subst e; simp
  ·have ne:¬ p.1.2 = q.1.2:=fun z=>nd.1 (by rw [z]; exact List.mem_map_of_mem (f:=fun q:(Addr × Addr) × Array Value=>q.1.2) e)
   rw [List.find?_cons_of_neg (by simpa using ne)]
   exact ih nd.2 e
theorem zh1 (nd:(tabsG.map fun q=>q.1.2).Nodup) {q:(Addr × Addr) × Array Value} (h:q ∈ tabsG):zfg q.1.2 = some (.tbl q.2):=by
 unfold zfg
 rw [zkp nd h]
 rfl
structure TabsOk (K:W.Frag) (h:Heap):Prop where
 nd:(tabsG.map fun q=>q.1.2).Nodup
 hd:∀ q ∈ tabsG,PySem.W.CodeHd h q.1.1 q.1.2
 empty:∀ q ∈ tabsG,h.get? q.1.2 = some (PySem.W.tabObj #[])
 off:∀ q ∈ tabsG,K.lookup q.1.2 = none
theorem znX {P:Program} {w:World} {K:W.Frag} {mg mb:Str->Option Value} {CX:CXT} {k:Nat} {fa a:Addr} {fd:FuncData} {x:Str} {sp:Sp} {s₁:Shared} {vs:List Value} {ns:List Int}
  (KX:K.In s₁.heap) (TT:TabsOk K s₁.heap) (hbm:BltAt s₁.heap mg) (hns:s₁.heap.Ns mainGlobals mg) (hb:s₁.heap.Ns builtinsNs mb) (hbb:∀ x:Str,x ≠ "__name__"->mb x = bootBuiltins x) (hlim:s₁.heap.NoLimit) (hg:s₁.gens = #[])
  (ha:s₁.heap.get? a = some { cls:=.type "list",data:=.seq vs.toArray }) (hi:IntsAre vs ns) (hl:ns.length <= sizeLine) (hr:Room k callerA)
  (F:∀ base:Heap,K.In base->base.Ns mainGlobals mg->FnOk P w K mg base CX k fa fd [x] sp) (hbind:∀ (s:Shared) (u:Value),BindsTo s fd ⟨[u],[]⟩ [(x,u)])
  (hsp:∀ H:Hp,Only H->SqL K H a (ns.map V.int)->sp [.ref a] H (fun v _=>v = .bl true) fun _ _ _=>False)
  (hCX:∀ H e s',CX [] H s₁ (fun _ _ _=>False) e s'->False) :
  codeAny (model P w) callerA (.call (.ref fa) ⟨[.ref a],[]⟩) (fun r s'=>r = .ok (.ret (.bool true))/\OldK s₁.heap s'.heap/\s'.os = s₁.os/\AllBare s'.gens) s₁:=by
 have rv:=ziG hi
 have lenV:=hi.length
 -- from an abstract heap in which nothing but the script may be tracked
 have core:∀ H:Hp,Only H->SqL K H a (ns.map V.int)->HOk P w H s₁.heap->(∀ b,H b ≠ none->b = a\/∃ q ∈ tabsG,q.1.2 = b)->(H a ≠ none->K.lookup a = none)->(∀ q ∈ tabsG,H q.1.2 = some (.tbl q.2)) ->
   codeAny (model P w) callerA (.call (.ref fa) ⟨[.ref a],[]⟩) (fun r s'=>r = .ok (.ret (.bool true))/\OldK s₁.heap s'.heap/\s'.os = s₁.os/\AllBare s'.gens) s₁:=by
  intro H hO hS hok hA hK hTab
  have noO:∀ {b:Addr} {o:Obj},s₁.heap.get? b = some o->o.cls ≠ .type "list"->o.cls ≠ .none->H b = none:=fun {b o} e c1 c2=>by
   cases q:H b with
   | none=>rfl
   | some u =>
    rcases hA b (by rw [q]; simp) with e' | ⟨r,hr',e'⟩
    ·subst e'
     rw [ha] at e; cases e
     exact absurd rfl c1
    ·have:=TT.empty r hr'
     rw [e',e] at this
     cases this
     exact absurd rfl c2
  have base_of:∀ {b:Addr} {o:Obj},s₁.heap.get? b = some o->H b = none->(znO s₁.heap H).get? b = some o:=fun e n=>zni e n
  have noA:∀ {b:Addr} {o:Obj} {es:Array DictEntry} {ep:Nat},s₁.heap.get? b = some o->o.data = .dict es ep->H b = none:=fun {b o es ep} e d=>by
   cases q:H b with
   | none=>rfl
   | some u =>
    rcases hA b (by rw [q]; simp) with e' | ⟨r,hr',e'⟩
    ·subst e'
     rw [ha] at e; cases e
     have d':Data.seq vs.toArray _ = Data.dict es ep:=d
     cases d'
    ·have:=TT.empty r hr'
     rw [e',e] at this
     cases this
     cases d
  have nsK:∀ {b:Addr} {m:Str->Option Value},s₁.heap.Ns b m->(znO s₁.heap H).Ns b m:=fun {b m} ⟨o,es,ep,e,d,r⟩=>⟨o,es,ep,base_of e (noA e d),d,r⟩
  have hKb:K.In (znO s₁.heap H):=fun b o e=>base_of (KX b o e) (by
   cases q:H b with
   | none=>rfl
   | some u =>
    rcases hA b (by rw [q]; simp) with e' | ⟨r,hr',e'⟩
    ·subst e'
     rw [hK (by rw [q]; simp)] at e; cases e
    ·rw [<- e',TT.off r hr'] at e; cases e)
  have hM:Mod K mg (znO s₁.heap H):=⟨hKb,nsK hns,⟨mb,nsK hb,hbb⟩,let ⟨mc,h1,h2⟩:=hlim; ⟨mc,nsK h1,h2⟩,
   let ⟨bm,ob,b1,b2,b3,b4,b5⟩:=hbm; ⟨bm,ob,b1,b2,base_of b3 (noO b3 (by rw [b4]; decide) (by rw [b4]; decide)),b4,b5⟩,
   fun q hq=>let ⟨o,vs,file,tf,flags,tg,inF,text,tt,e1,c1,r⟩:=TT.hd q hq; ⟨o,vs,file,tf,flags,tg,inF,text,tt,base_of e1 (noO e1 (by rw [c1]; decide) (by rw [c1]; decide)),c1,r⟩⟩
  have e0:Env0 P w K mg (znO s₁.heap H) callerA [] s₁ H:=⟨rfl,hM,fun b o e=>zpx e,Nat.le_of_eq (zlB _ _),trivial,⟨fun b hb=>absurd (show b ∈ ([]:List Addr) from hb) (by simp),hTab⟩,hok,.of_eq hg⟩
  refine codeAny_mono ((F _ hKb (nsK hns)).run callerA [] s₁ H ⟨[.ref a],[]⟩ [.ref a] [.ref a] _ _ hr e0 (hbind s₁ (.ref a)) (.cons rfl .nil) (hsp H hO hS)) fun r s' h=>?_
  cases r with
  | error e=>exact (hCX H e s' h).elim
  | ok fl =>
   cases fl with
   | next=>exact False.elim h
   | brk=>exact False.elim h
   | cont=>exact False.elim h
   | ret u =>
    obtain ⟨v,H',os,bare,un,hok',r',q⟩:=h
    have q':v = .bl true:=q
    subst q'
    obtain rfl:u = Value.bool true:=r'
    have all:∀ b o,s₁.heap.get? b = some o->s'.heap.get? b = some o\/∃ q ∈ tabsG,q.1.2 = b/\o = PySem.W.tabObj #[]/\∃ ps,s'.heap.get? b = some (PySem.W.tabObj ps):=fun b o e=>by
     cases q:H b with
     | none=>exact .inl (un.keep b o e q (by intro z; exact absurd (show b ∈ ([]:List Addr) from z) (by simp)) (by simp))
     | some u =>
      rcases hO b with z | ⟨ob,xs,z⟩ | ⟨r,hr',e',z⟩
      ·rw [q] at z; cases z
      ·have z2:=un.frzs b ob _ z
       obtain ⟨e1,_⟩:=hok b _ z
       obtain ⟨e2,_⟩:=hok' b _ z2
       rw [e] at e1; cases e1
       exact .inl e2
      ·obtain ⟨qs,e2,_⟩:=hok' b _ (un.tbls b _ z)
       have:=TT.empty r hr'
       rw [e',e] at this
       cases this
       exact .inr ⟨r,hr',e',rfl,qs,e2⟩
    refine ⟨rfl,⟨fun b o e=>?_,fun b o e=>?_⟩,os,bare⟩
    ·rcases all b o e with z | ⟨r,hr',rfl,rfl,ps,z⟩
     ·exact .inl z
     ·exact .inr (.inl ⟨((TT.hd r hr').tab (TT.empty r hr')).isCodeTable,rfl,#[],ps,rfl,by rw [Array.empty_append]; exact z⟩)
    ·rcases all b o e with z | ⟨r,hr',rfl,rfl,ps,z⟩
     ·exact ⟨o,z⟩
     ·exact ⟨_,z⟩
 have naT:∀ q ∈ tabsG,q.1.2 ≠ a:=fun q hq z=>by
  have:=TT.empty q hq
  rw [z,ha] at this
  cases this
 have tOk:∀ (H:Hp) (b:Addr) (u:HO),zfg b = some u->ObjOk P w H s₁.heap b u:=fun H b u z=>by
  obtain ⟨q,hq,rfl,rfl⟩:=zel z
  exact ⟨#[],TT.empty q hq,.inl rfl⟩
 cases hk:K.lookup a with
 | some o =>
  -- the script is one of the module's own objects
  have e:=KX a o hk
  rw [ha] at e
  cases e
  refine core zfg (fun b=>?_) (.inr ⟨_,vs.toArray,_,hk,rfl,rfl,rfl,by rw [List.size_toArray,lenV]; exact hl,by simpa using rv⟩) (tOk zfg) (fun b z=>?_) (fun z=>?_) fun q hq=>zh1 TT.nd hq
  ·cases q:zfg b with
   | none=>exact .inl rfl
   | some u=>obtain ⟨r,hr',e',rfl⟩:=zel q; exact .inr (.inr ⟨r,hr',e',rfl⟩)
  ·cases q:zfg b with
   | none=>exact absurd q z
   | some u=>obtain ⟨r,hr',e',_⟩:=zel q; exact .inr ⟨r,hr',e'⟩
  ·cases q:zfg a with
   | none=>exact absurd q z
   | some u=>obtain ⟨r,hr',e',_⟩:=zel q; exact absurd e' (naT r hr')
 | none =>
  refine core (fun b=>if b = a then some (.frz { cls:=.type "list",data:=.seq vs.toArray } (.lst (ns.map V.int))) else zfg b) (fun b=>?_) (.inl (.inr ⟨{ cls:=.type "list",data:=.seq vs.toArray },if_pos rfl⟩)) (fun b u z=>?_) (fun b z=>?_) (fun _=>hk) fun q hq=>(if_neg (naT q hq)).trans (zh1 TT.nd hq)
  ·by_cases hb:b = a
   ·exact .inr (.inl ⟨_,_,if_pos hb⟩)
   ·cases q:zfg b with
    | none=>exact .inl ((if_neg hb).trans q)
    | some u=>obtain ⟨r,hr',e',rfl⟩:=zel q; exact .inr (.inr ⟨r,hr',e',(if_neg hb).trans q⟩)
  ·by_cases hb:b = a
   ·have z':=(if_pos hb).symm.trans z
    cases z'
    subst hb
    exact ⟨ha,by rw [List.length_map]; exact hl,vs,_,rv,ha⟩
   ·have z':=(if_neg hb).symm.trans z
    exact tOk _ b u z'
  ·by_cases hb:b = a
   ·exact .inl hb
   ·cases q:zfg b with
    | none=>exact absurd ((if_neg hb).trans q) z
    | some u=>obtain ⟨r,hr',e',_⟩:=zel q; exact .inr ⟨r,hr',e'⟩
end
section
abbrev KOf {K:W.Frag} {h:Heap} (_:K.In h):W.Frag:=K
theorem walk_of {l:PySem.W.OpenLaw} {n k:Nat} {q:Program} {loose:List Str} {XP:(Str->Option Value)->Heap->Prop} {YP:World->Heap->Prop} {d:DefRec} {K:Params->W.Frag} {CX:World->CXT} {sp:World->Sp} {x:Str}
  (hn:l.most = some n) (hn2:n <= sizeLine) (hdf:d.params.defaults = []) (hr:Room k callerA)
  (hY:∀ (w:World) (h:Heap),YP w h->(K w.params).In h)
  (hT:∀ (w:World) (h:Heap),YP w h->TabsOk (K w.params) h)
  (F:∀ (w:World) (mg:Str->Option Value) (fa:Addr) (h:Heap),(K w.params).In h->h.Ns mainGlobals mg->mg d.name = some (.ref fa) ->
   ∃ fd:FuncData,(∀ (s:Shared) (u:Value),BindsTo s fd ⟨[u],[]⟩ [(x,u)]) /\
    ∀ base:Heap,(K w.params).In base->base.Ns mainGlobals mg->FnOk l.prog w (K w.params) mg base (CX w) k fa fd [x] (sp w))
  (hsp:∀ (w:World) (H:Hp) (a:Addr) (ns:List Int),ns.length <= n->Only H->SqL (K w.params) H a (ns.map V.int)->sp w [.ref a] H (fun v _=>v = .bl true) fun _ _ _=>False)
  (hCX:∀ (w:World) (H:Hp) (s:Shared) (e:Value) (s':Shared),CX w [] H s (fun _ _ _=>False) e s'->False) :
  PySem.W.WalkO q loose XP YP l.row.toRowW d [] (fun f vs=>PySem.call f vs):=by
 refine Att.attach_call hn hdf fun w s₀ s₁ mg mb fa o pm cd doc a vs ns G Y ho hd hcd hmg hobj hints hlen hg=>?_
 have KX:=hY w _ Y
 obtain ⟨fd,hb,hF⟩:=F w mg fa _ KX G.T.g hmg
 exact znX KX (hT w _ Y) (let ⟨bm,ob,a1,a2,a3,a4,a5,a6⟩:=G.T.bmain; ⟨bm,ob,a1,a2,a3,a4,a5,a6⟩) G.T.g G.T.b G.T.builtins G.T.nolimit hg hobj hints (Nat.le_trans hlen hn2) hr hF hb (fun H hO hS=>hsp w H a ns hlen hO hS) fun H e s'=>hCX w H s₁ e s'
end
section
def zeI (s:Stmt):Arguments:=match s with
 | .FunctionDef _ a _ _ _ _ _ _ _ _=>a
 | _=>{ posonlyargs:=[],args:=[],vararg:=none,kwonlyargs:=[],kw_defaults:=[],kwarg:=none,defaults:=[] }
def zb5 (s:Stmt):List Stmt:=match s with
 | .FunctionDef _ _ b _ _ _ _ _ _ _=>b
 | _=>[]
def zn (s:Stmt):Scope:=match s with
 | .FunctionDef _ _ _ _ _ _ sc _ _ _=>sc
 | _=>{ kind:=.function,names:=[],isGenerator:=false,isCoroutine:=false }
abbrev CX0:CXT:=fun _ _ _ _ _ _=>False
abbrev E0:XK:=fun _ _ _=>False
theorem pass0 {X:Cx}:Passes CX0 X E0:=fun _ _ _ _ _ _ _ h=>h.elim
structure Fun (K:W.Frag) (x qual:Str) (st:Stmt) (f:Addr) (fd:FuncData):Prop where
 ex:∃ (oc:Value) (od:Option Addr) (kV doc pm:Value) (an:Option Addr) (cdv ct:Value) (osl:Array (Option Value)),
  fd = PySem.W.fnOf x qual (zeI st) (zb5 st) (zn st) .none kV doc pm an cdv ct/\K.lookup f = some ⟨oc,od,.func fd,osl⟩/\PySem.W.codeIn K cdv qual = true
 kp:PySem.W.keepIn K (.ref f) = true
section
variable {P:Program} {w:World} {K:W.Frag} {mg:Str->Option Value} {base:Heap}
theorem Fun.ok {x qual:Str} {st:Stmt} {f:Addr} {fd:FuncData} {N ps:List Str} {k:Nat} {sp:Sp} (F:Fun K x qual st f fd) (S:FnScope N ps (zn st)) (len:∀ vs H Q E,sp vs H Q E->vs.length = ps.length)
  (hbody:∀ (cdv:Value) (A:Around) (outer:List Env) (s:Shared) (H:Hp) (vs:List V) (Q:VK) (E:XK),Room k (A.deeper (envOfC qual (zn st) s.heap.objs.size f cdv))->sp vs H Q E ->
   ∃ t,PSs (zmB CX0 P w K mg base N qual (zn st) f cdv A outer s H E).nox (zb5 st) t/\t { nx:=fun _ H'=>Q .non H',rt:=Q } (start N vs) H):FnOk P w K mg base CX0 (k + 1) f fd ps sp:=by
 obtain ⟨oc,od,kV,doc,pm,an,cdv,ct,osl,rfl,lk,hcd⟩:=F.ex
 refine zqy lk hcd S len fun A outer s H vs Q E hr hsp=>?_
 obtain ⟨t,h,q⟩:=hbody cdv A outer s H vs Q E hr hsp
 exact ⟨t,h.nox,q⟩
theorem Fun.binds {x qual:Str} {st:Stmt} {f:Addr} {fd:FuncData} {ps:List Str} (F:Fun K x qual st f fd)
  (h:∀ (kV doc pm:Value) (an:Option Addr) (cdv ct:Value) (us:List Value),us.length = ps.length->bindArgs (PySem.W.fnOf x qual (zeI st) (zb5 st) (zn st) .none kV doc pm an cdv ct) ⟨us,[]⟩ = pure (ps.zip us)):Binds K fd ps []:=by
 obtain ⟨oc,od,kV,doc,pm,an,cdv,ct,osl,rfl,lk,hcd⟩:=F.ex
 exact .all (h kV doc pm an cdv ct)
theorem zoU {x qual:Str} {st:Stmt} {f:Addr} {oc:Value} {od an:Option Addr} {osl:Array (Option Value)} {kV doc pm cdv ct:Value} (l:K.lookup f = some ⟨oc,od,.func (PySem.W.fnOf x qual (zeI st) (zb5 st) (zn st) .none kV doc pm an cdv ct),osl⟩)
  (c:PySem.W.codeIn K cdv qual = true) (k:PySem.W.keepIn K (.ref f) = true):Fun K x qual st f (PySem.W.fnOf x qual (zeI st) (zb5 st) (zn st) .none kV doc pm an cdv ct):=⟨⟨oc,od,kV,doc,pm,an,cdv,ct,osl,rfl,l,c⟩,k⟩
end
theorem zsK {A:Around} {k:Nat} (hr:Room k A):A.units + 1 < cLine:=Nat.lt_of_le_of_lt (Nat.add_le_add_left (by decide:1 <= 64) _) hr.units
theorem small1000 {n:Nat} (h:n <= 1000):n < sizeLine:=Nat.lt_of_le_of_lt h (by decide)
section
variable {X:Cx}
theorem pv (i:Nat) {x:Str} {pos:Pos} (hN:X.N[i]? = some x:=by rfl) (hv:Vis X.env.scope x:=by first | exact Or.inl rfl | exact Or.inr (Or.inl rfl) | exact Or.inr (Or.inr rfl)) (hd:(x == ("__debug__":Str)) = false:=by decide)
  (hcd:(x == ("__classdict__":Str)) = false:=by decide):PE X (.Name x pos) (zmR i):=zrL hN hv hd hcd
end
theorem zmE {A B:Prop} (h:B):if false = true then A else B:=by
 rw [if_neg Bool.false_ne_true]
 exact h
theorem zlL {A B:Prop} (h:A):if true = true then A else B:=by
 rw [if_pos rfl]
 exact h
theorem ite2 {c A B:Prop} [Decidable c] (h1:c->A) (h2:¬ c->B):if c then A else B:=by
 by_cases h:c
 ·rw [if_pos h]
  exact h1 h
 ·rw [if_neg h]
  exact h2 h
def Same (H H':Hp):Prop:=∀ b o,H b = some o->H' b = some o
theorem Same.refl (H:Hp):Same H H:=fun _ _ h=>h
theorem Same.trans {H H1 H2:Hp} (a:Same H H1) (b:Same H1 H2):Same H H2:=fun c o h=>b c o (a c o h)
theorem Same.seq {K:W.Frag} {H H':Hp} {a:Addr} {xs:List V} (e:Same H H') (h:SqL K H a xs):SqL K H' a xs:=by
 rcases h with (h | ⟨o,h⟩) | h
 ·exact .inl (.inl (e _ _ h))
 ·exact .inl (.inr ⟨o,e _ _ h⟩)
 ·exact .inr h
end
section
section
variable {X:Cx}
def CDivX (i j:Int):Prop:=0 < j/\j.natAbs.log2 < 9000
theorem zm6:OpR X (binaryOp .FloorDiv) (rI CDivX fun i j=>.int (i / j)):=opI fun i j _ _ _ _ _ hc q=>by
 have h1:(0:Int) < j:=hc.1
 exact floordiv_int (by omega) (by rw [Int.fdiv_eq_ediv_of_nonneg i (by omega)]; exact q) (.inl (PyProof.noPylong_of_log2 hc.2))
theorem zp0:OpR X (binaryOp .Mult) (rI IntMulOk fun i j=>.int (i * j)):=opI fun _ _ _ _ _ _ _ hc q=>mul_int q hc
theorem zmy {k:Int} {n:Nat} (h:k.natAbs < 2 ^ n):Builtin.Int.intBits k <= n:=by
 unfold Builtin.Int.intBits
 split
 ·exact Nat.zero_le _
 ·rename_i h0
  have hk:k.natAbs ≠ 0:=by
   intro z
   apply h0
   rw [Int.natAbs_eq_zero.mp z]
   rfl
  have:=(Nat.log2_lt hk).mpr h
  omega
theorem zso {i j:Int} (n m:Nat) (hi:i.natAbs < 2 ^ n) (hj:j.natAbs < 2 ^ m) (hn:n <= 2 ^ 20:=by decide) (hm:m <= 2 ^ 20:=by decide):IntMulOk i j :=
 .of_bits (Nat.le_trans (zmy hi) hn) (Nat.le_trans (zmy hj) hm)
theorem zev {i j:Int} (h1:-(2 ^ 64) < i) (h2:i < 2 ^ 64):IntMulOk i j:=.of_left (intBits_le_64 h1 h2)
theorem zmo {i j:Int} (h1:-(2 ^ 64) < j) (h2:j < 2 ^ 64):IntMulOk i j:=.of_right (intBits_le_64 h1 h2)
theorem zb0 {n:Int} {k:Nat} (h0:0 < n) (h:n < 2 ^ k):n.natAbs.log2 < k:=by
 refine (Nat.log2_lt (by omega)).mpr ?_
 have e:((2 ^ k:Nat):Int) = (2:Int) ^ k:=by simp
 omega
end
def kD:Key->PyData
 | .inl i=>.int i
 | .inr x=>.str x
def DOf (H:Hp) (a:Addr) (ks:List PyData) (vs:List V):Prop :=
 (∃ (ob:Obj) (m:List (Key × V)),H a = some (.frz ob (.dK m))/\ks = m.map (fun p=>kD p.1)/\vs = m.map (·.2)) \/
 ∃ (ob:Obj) (p:List Key × V) (m:List (List Key × V)),H a = some (.frz ob (.dT (p :: m)))/\ks = (p :: m).map (fun p=>.tuple (p.1.map kD))/\vs = (p :: m).map (·.2)
mutual
def Has (H:Hp):PyData->V->Prop
 | .none,v=>v = .non
 | .bool b,v=>v = .bl b
 | .int i,v=>v = .int i
 | .str x,v=>v = .str x
 | .list ds,v=>∃ a vs,v = .ref a/\H a = some (.lst vs)/\HasL H ds vs
 | .tuple ds,v=>∃ a vs,v = .ref a/\H a = some (.tup vs)/\HasL H ds vs
 | .dict kvs,v=>∃ a vs,v = .ref a/\DOf H a (kvs.map (·.1)) vs/\HasV H kvs vs
def HasL (H:Hp):List PyData->List V->Prop
 | [],vs=>vs = []
 | d :: ds,vs=>∃ v r,vs = v :: r/\Has H d v/\HasL H ds r
def HasV (H:Hp):List (PyData × PyData)->List V->Prop
 | [],vs=>vs = []
 | p :: ps,vs=>∃ v r,vs = v :: r/\HasP H p v/\HasV H ps r
def HasP (H:Hp):PyData × PyData->V->Prop
 | (_,d),v=>Has H d v
end
mutual
theorem Has.mono {H H':Hp} (s:Same H H'):∀ (d:PyData) (v:V),Has H d v->Has H' d v
 | .none,_,h=>by simp only [Has] at h ⊢; exact h
 | .bool _,_,h=>by simp only [Has] at h ⊢; exact h
 | .int _,_,h=>by simp only [Has] at h ⊢; exact h
 | .str _,_,h=>by simp only [Has] at h ⊢; exact h
 | .list ds,v,h=>by
  simp only [Has] at h ⊢
  obtain ⟨a,vs,e,q,l⟩:=h
  exact ⟨a,vs,e,s _ _ q,HasL.mono s ds vs l⟩
 | .tuple ds,v,h=>by
  simp only [Has] at h ⊢
  obtain ⟨a,vs,e,q,l⟩:=h
  exact ⟨a,vs,e,s _ _ q,HasL.mono s ds vs l⟩
 | .dict kvs,v,h=>by
  simp only [Has] at h ⊢
  obtain ⟨a,vs,e,q,l⟩:=h
  refine ⟨a,vs,e,?_,HasV.mono s kvs vs l⟩
  rcases q with ⟨ob,m,e1,e2⟩ | ⟨ob,p,m,e1,e2⟩
  ·exact .inl ⟨ob,m,s _ _ e1,e2⟩
  ·exact .inr ⟨ob,p,m,s _ _ e1,e2⟩
theorem HasL.mono {H H':Hp} (s:Same H H'):∀ (ds:List PyData) (vs:List V),HasL H ds vs->HasL H' ds vs
 | [],_,h=>by simp only [HasL] at h ⊢; exact h
 | d :: ds,vs,h=>by
  simp only [HasL] at h ⊢
  obtain ⟨v,r,e,q,l⟩:=h
  exact ⟨v,r,e,Has.mono s d v q,HasL.mono s ds r l⟩
theorem HasV.mono {H H':Hp} (s:Same H H'):∀ (ds:List (PyData × PyData)) (vs:List V),HasV H ds vs->HasV H' ds vs
 | [],_,h=>by simp only [HasV] at h ⊢; exact h
 | d :: ds,vs,h=>by
  simp only [HasV] at h ⊢
  obtain ⟨v,r,e,q,l⟩:=h
  exact ⟨v,r,e,HasP.mono s d v q,HasV.mono s ds r l⟩
theorem HasP.mono {H H':Hp} (s:Same H H'):∀ (p:PyData × PyData) (v:V),HasP H p v->HasP H' p v
 | (_,d),v,h=>by
  simp only [HasP] at h ⊢
  exact Has.mono s d v h
end
section
variable {H:Hp} {v:V}
theorem zdw:Has H .none v ↔ v = .non:=by simp only [Has]
theorem zc6 {b:Bool}:Has H (.bool b) v ↔ v = .bl b:=by simp only [Has]
theorem zbX {i:Int}:Has H (.int i) v ↔ v = .int i:=by simp only [Has]
theorem zdu {x:Str}:Has H (.str x) v ↔ v = .str x:=by simp only [Has]
theorem zba {ds:List PyData}:Has H (.list ds) v ↔ ∃ a vs,v = .ref a/\H a = some (.lst vs)/\HasL H ds vs:=by simp only [Has]
theorem zaJ {ds:List PyData}:Has H (.tuple ds) v ↔ ∃ a vs,v = .ref a/\H a = some (.tup vs)/\HasL H ds vs:=by simp only [Has]
theorem zhq {kvs:List (PyData × PyData)}:Has H (.dict kvs) v ↔ ∃ a vs,v = .ref a/\DOf H a (kvs.map (·.1)) vs/\HasV H kvs vs:=by simp only [Has]
theorem zn3 {vs:List V}:HasV H [] vs ↔ vs = []:=by simp only [HasV]
theorem zix {p:PyData × PyData} {ds:List (PyData × PyData)} {vs:List V}:HasV H (p :: ds) vs ↔ ∃ v r,vs = v :: r/\Has H p.2 v/\HasV H ds r:=by
 obtain ⟨k,d⟩:=p
 simp only [HasV,HasP]
theorem zR {vs:List V}:HasL H [] vs ↔ vs = []:=by simp only [HasL]
theorem zH {d:PyData} {ds:List PyData} {vs:List V}:HasL H (d :: ds) vs ↔ ∃ v r,vs = v :: r/\Has H d v/\HasL H ds r:=by simp only [HasL]
theorem HasL.length:∀ {ds:List PyData} {vs:List V},HasL H ds vs->vs.length = ds.length
 | [],_,h=>by rw [zR.mp h]; rfl
 | d :: ds,vs,h=>by
  obtain ⟨v,r,e,_,l⟩:=zH.mp h
  rw [e,List.length_cons,List.length_cons,HasL.length l]
theorem HasL.get:∀ {ds:List PyData} {vs:List V} {i:Nat} {d:PyData},HasL H ds vs->ds[i]? = some d->∃ v,vs[i]? = some v/\Has H d v
 | [],_,_,_,_,e=>by simp at e
 | c :: ds,vs,0,d,h,e=>by
  obtain ⟨v,r,rfl,q,_⟩:=zH.mp h
  simp at e
  subst e
  exact ⟨v,rfl,q⟩
 | c :: ds,vs,i + 1,d,h,e=>by
  obtain ⟨v,r,rfl,_,l⟩:=zH.mp h
  obtain ⟨u,e1,e2⟩:=HasL.get (i:=i) (d:=d) l (by simpa using e)
  exact ⟨u,by simpa using e1,e2⟩
theorem HasL.append:∀ {ds es:List PyData} {vs us:List V},HasL H ds vs->HasL H es us->HasL H (ds ++ es) (vs ++ us)
 | [],es,vs,us,h,h'=>by rw [zR.mp h]; exact h'
 | d :: ds,es,vs,us,h,h'=>by
  obtain ⟨v,r,rfl,q,l⟩:=zH.mp h
  exact zH.mpr ⟨v,r ++ us,rfl,q,HasL.append l h'⟩
theorem ziH:∀ (ns:List Int),HasL H (ns.map .int) (ns.map V.int)
 | []=>zR.mpr rfl
 | n :: ns=>zH.mpr ⟨_,_,rfl,zbX.mpr rfl,ziH ns⟩
end
def tyD:PyData->String
 | .none=>"NoneType" | .bool _=>"bool" | .int _=>"int" | .str _=>"str" | .list _=>"list" | .tuple _=>"tuple" | .dict _=>"dict"
theorem Has.ty {K:W.Frag} {H:Hp} {d:PyData} {v:V} (h:Has H d v):TyOf K H v (.type (tyD d)):=by
 cases d with
 | none=>rw [zdw.mp h]; exact .non
 | bool b=>rw [zc6.mp h]; exact .bl b
 | int i=>rw [zbX.mp h]; exact .int i
 | str x=>rw [zdu.mp h]; exact .str x
 | list ds=>obtain ⟨a,vs,rfl,e,_⟩:=zba.mp h; exact .lst e
 | tuple ds=>obtain ⟨a,vs,rfl,e,_⟩:=zaJ.mp h; exact .tup e
 | dict kvs =>
  obtain ⟨a,vs,rfl,e,_⟩:=zhq.mp h
  rcases e with ⟨ob,m,e,_⟩ | ⟨ob,p,m,e,_⟩
  ·exact .dK (.inr ⟨ob,e⟩)
  ·exact .dT (.inr ⟨ob,e⟩)
def zsc:List String:=["NoneType","bool","int","str","list","tuple","dict"]
def znJ:List String:=["int","bool","str","list","tuple","dict"]
def zmU (t c:String):Bool:=t == c || (t == "bool" && c == "int")
def zpw (d:PyData) (c:String):Bool:=zmU (tyD d) c
theorem zo9 (d:PyData):tyD d ∈ zsc:=by cases d <;> simp [tyD,zsc]
theorem zpF (K:W.Frag) {t c:String} (ht:t ∈ zsc) (hc:c ∈ znJ):PySem.W.kitOne K (.type t) (.type c) = some (zmU t c):=by
 simp only [zsc,znJ,List.mem_cons,List.not_mem_nil,or_false] at ht hc
 rcases ht with rfl | rfl | rfl | rfl | rfl | rfl | rfl <;> rcases hc with rfl | rfl | rfl | rfl | rfl | rfl <;> rfl
def zsP:List V->Hp->VK->Prop
 | [x,.ty c],H,Q=>∃ d,Has H d x/\c ∈ znJ/\Q (.bl (zpw d c)) H
 | _,_,_=>False
theorem zpG {H:Hp} {d:PyData} {x:V} {c:String} {Q:VK} (h:Has H d x) (hc:c ∈ znJ) (q:Q (.bl (zpw d c)) H):zsP [x,.ty c] H Q:=⟨d,h,hc,q⟩
section
variable {X:Cx}
theorem zhn:CallR X (.builtin "isinstance") zsP:=by
 intro zm s σ H xs us Q I r h
 match xs,h with
 | [x,.ty c],h =>
  obtain ⟨d,hx,hc,q⟩:=h
  obtain ⟨u,w',rfl,ru,rw'⟩:=vals2 r
  cases (show w' = Value.type c from rw')
  exact zmQ I ru hx.ty (zpF X.K (zo9 d) hc) fun tk=>⟨.bl _,H,I.tok tk,rfl,q⟩
end
def sp1 (p:V->Hp->VK->Prop):Sp:=fun vs H Q _=>match vs with | [x]=>p x H Q | _=>False
def sp2 (p:V->V->Hp->VK->Prop):Sp:=fun vs H Q _=>match vs with | [x,y]=>p x y H Q | _=>False
theorem zlm {p:V->Hp->VK->Prop}:∀ (vs:List V) (H:Hp) (Q:VK) (E:XK),sp1 p vs H Q E->∃ x,vs = [x]/\p x H Q:=by
 intro vs H Q E h
 match vs,h with
 | [x],h=>exact ⟨x,rfl,h⟩
theorem zld {p:V->V->Hp->VK->Prop}:∀ (vs:List V) (H:Hp) (Q:VK) (E:XK),sp2 p vs H Q E->∃ x y,vs = [x,y]/\p x y H Q:=by
 intro vs H Q E h
 match vs,h with
 | [x,y],h=>exact ⟨x,y,rfl,h⟩
structure Dd (K:W.Frag) (mg:Str->Option Value) (x:Str) (st:Stmt) (ps:List Str):Prop where
 ex:∃ f fd,Fun K x x st f fd/\mg x = some (.ref f)/\Binds K fd ps []
structure Df (P:Program) (w:World) (K:W.Frag) (mg:Str->Option Value) (base:Heap) (x:Str) (ps:List Str) (k:Nat) (sp:Sp):Prop where
 ex:∃ f fd,FnOk P w K mg base CX0 k f fd ps sp/\mg x = some (.ref f)/\PySem.W.keepIn K (.ref f) = true/\Binds K fd ps []
section
variable {P:Program} {w:World} {K:W.Frag} {mg:Str->Option Value} {base:Heap} {x a b c d e:Str} {st:Stmt} {N:List Str} {k:Nat}
theorem Df.of {ps:List Str} {sp:Sp} (D:Dd K mg x st ps) (S:FnScope N ps (zn st)) (len:∀ vs H Q E,sp vs H Q E->vs.length = ps.length)
  (hbody:∀ (f:Addr) (cdv:Value) (A:Around) (outer:List Env) (s:Shared) (H:Hp) (vs:List V) (Q:VK) (E:XK),Room k (A.deeper (envOfC x (zn st) s.heap.objs.size f cdv))->sp vs H Q E ->
   ∃ t,PSs (zmB CX0 P w K mg base N x (zn st) f cdv A outer s H E).nox (zb5 st) t/\t { nx:=fun _ H'=>Q .non H',rt:=Q } (start N vs) H):Df P w K mg base x ps (k + 1) sp:=by
 obtain ⟨f,fd,F,hm,hb⟩:=D.ex
 exact ⟨f,fd,F.ok S len (hbody f),hm,F.kp,hb⟩
theorem Df.of2 {p:V->V->Hp->VK->Prop} (D:Dd K mg x st [a,b]) (S:FnScope N [a,b] (zn st)) (σ0:V->V->St) (hs:∀ v u,start N [v,u] = σ0 v u)
  (hbody:∀ (f:Addr) (cdv:Value) (A:Around) (outer:List Env) (s:Shared) (H:Hp) (v u:V) (Q:VK) (E:XK),Room k (A.deeper (envOfC x (zn st) s.heap.objs.size f cdv))->p v u H Q ->
   ∃ t,PSs (zmB CX0 P w K mg base N x (zn st) f cdv A outer s H E).nox (zb5 st) t/\t { nx:=fun _ H'=>Q .non H',rt:=Q } (σ0 v u) H):Df P w K mg base x [a,b] (k + 1) (sp2 p):=by
 refine Df.of D S (fun vs H Q E h=>?_) fun f cdv A outer s H vs Q E hr h=>?_
 ·obtain ⟨x,y,rfl,_⟩:=zld vs H Q E h
  rfl
 ·obtain ⟨x,y,rfl,h⟩:=zld vs H Q E h
  rw [hs]
  exact hbody f cdv A outer s H x y Q E hr h
end
def tC2 (p:V->V->Hp->VK->Prop) (ta tb:TE):TE:=fun σ H Q=>ta σ H fun x H1=>tb σ H1 fun y H2=>p x y H2 Q
section
variable {X:Cx} {x a b c d e':Str} {k j:Nat} {pos pos':Pos} {e1 e2 e3 e4 e5:Expr} {t1 t2 t3 t4 t5:TE}
theorem zqT {p:V->V->Hp->VK->Prop} (D:Df X.prog X.w X.K X.mg X.base x [a,b] k (sp2 p)) (hr:Room j X.A) (hk:k <= j) (h1:PE X e1 t1) (h2:PE X e2 t2) (hg:Gl X x:=by rfl) (hdb:(x == ("__debug__":Str)) = false:=by decide)
  (q1:starEach [e1,e2] X.env = (false,eval e1 X.env) :: starEach [e2] X.env:=by rfl) (q2:starEach [e2] X.env = (false,eval e2 X.env) :: starEach [] X.env:=by rfl)
  (hpl:(backTo pos (starEach [e2] X.env)).any (·.1) = false:=by rfl):PE X (.Call (.Name x pos') [e1,e2] [] pos) (tC2 p t1 t2):=by
 obtain ⟨f,fd,F,hm,kp,hb⟩:=D.ex
 intro zm s σ H Q I h
 exact zmL (dvs:=[]) (ds:=[]) (E:=E0) F (hr.mono hk) hg hm kp hb .nil pass0 (zc h1 (zc h2 zf q2) q1) hdb q1 hpl zm s σ H Q I h
end
theorem Dd.mk' {K:W.Frag} {h:Heap} {mg:Str->Option Value} (X:K.In h) (G:h.Ns mainGlobals mg) {x:Str} {st:Stmt} {ps:List Str} {f:Addr} {oc:Value} {od an:Option Addr} {osl:Array (Option Value)} {kV doc pm cdv ct:Value}
  (a:PySem.W.nsIn K mainGlobals x = some (some (.ref f))) (l:K.lookup f = some ⟨oc,od,.func (PySem.W.fnOf x x (zeI st) (zb5 st) (zn st) .none kV doc pm an cdv ct),osl⟩)
  (c:PySem.W.codeIn K cdv x = true) (k:PySem.W.keepIn K (.ref f) = true)
  (hb:∀ (kV doc pm:Value) (an:Option Addr) (cdv ct:Value) (us:List Value),us.length = ps.length->bindArgs (PySem.W.fnOf x x (zeI st) (zb5 st) (zn st) .none kV doc pm an cdv ct) ⟨us,[]⟩ = pure (ps.zip us)):Dd K mg x st ps :=
 ⟨f,_,zoU (st:=st) l c k,PySem.W.mg_of X G a,(zoU (st:=st) l c k).binds hb⟩
theorem zbr:bootBuiltins "len" = some (.builtin "len"):=by decide +kernel
theorem zdy:bootBuiltins "isinstance" = some (.builtin "isinstance"):=by decide +kernel
theorem ziC:bootBuiltins "max" = some (.builtin "max"):=by decide +kernel
theorem zhb:bootBuiltins "min" = some (.builtin "min"):=by decide +kernel
theorem zo2:bootBuiltins "int" = some (.type "int"):=by decide +kernel
theorem zo3:bootBuiltins "bool" = some (.type "bool"):=by decide +kernel
theorem zmn:bootBuiltins "list" = some (.type "list"):=by decide +kernel
theorem za2:bootBuiltins "tuple" = some (.type "tuple"):=by decide +kernel
section
variable {H:Hp} {Q:VK}
theorem znr {i:Nat} {σ:St}:zmR i σ H Q ↔ match σ[i]? with | some (some v)=>Q v H | _=>False:=by
 unfold zmR
 constructor
 ·rintro ⟨v,e,q⟩
  rw [e]
  exact q
 ·intro h
  split at h
  ·rename_i v e
   exact ⟨v,e,h⟩
  ·exact h.elim
theorem zl8 {g:Int->Int->V} {i j:Int}:rI0 g (.int i) (.int j) H Q ↔ Q (g i j) H :=
 ⟨fun ⟨_,_,e1,e2,q⟩=>by cases e1; cases e2; exact q,fun q=>⟨i,j,rfl,rfl,q⟩⟩
theorem zsJ {p:Bool->Prop} {b:Bool}:(∃ c,V.bl b = V.bl c/\p c) ↔ p b:=⟨fun ⟨_,e,q⟩=>by cases e; exact q,fun q=>⟨b,rfl,q⟩⟩
end
section
variable {K:W.Frag} {H:Hp} {Q:VK} {x y:V} {d:PyData} {ds:List PyData}
def zsL (K:W.Frag):List V->Hp->VK->Prop:=fun xs H Q=>∃ p ys,xs = [.ref p]/\(SqL K H p ys\/SqT K H p ys)/\Q (.int ys.length) H
end
section
variable {X:Cx}
theorem zlS:CallR X (.builtin "len") (zsL X.K):=zfx
end
def hid (a:Addr) (H:Hp):Hp:=fun b=>if b = a then none else H b
theorem zq1 {a b:Addr} {H:Hp} (h:b ≠ a):hid a H b = H b:=if_neg h
theorem znl {a:Addr} {H:Hp}:hid a H a = none:=if_pos rfl
theorem Same.laid {H:Hp} {p:Addr} {o:HO} (h:H p = none):Same H (upd H p o):=fun b u e=>by
 rw [zS (zO e h)]
 exact e
section
variable {X:Cx} {zm:List (Addr × Obj)} {σ:St} {H:Hp} {s:Shared} {a:Addr} {m:List (Key × V)}
def ztv (i:Nat) (t:TS):TS:=fun D σ H=>t { D with nx:=fun σ' H'=>∃ a m,σ'[i]? = some (some (.ref a))/\H' a = some (.dK m)/\∀ ob,D.nx σ' (upd H' a (.frz ob (.dK m))) } σ H
end
end
section
theorem zmK (d:PyData):zpw d "int" = match d with | .int _=>true | .bool _=>true | _=>false:=by cases d <;> first | rfl | (show zmU _ _ = _; simp [zmU,tyD])
theorem zj8 (d:PyData):zpw d "bool" = match d with | .bool _=>true | _=>false:=by cases d <;> first | rfl | (show zmU _ _ = _; simp [zmU,tyD])
theorem zhW (d:PyData):zpw d "tuple" = match d with | .tuple _=>true | _=>false:=by cases d <;> first | rfl | (show zmU _ _ = _; simp [zmU,tyD])
theorem zjN (d:PyData):zpw d "list" = match d with | .list _=>true | _=>false:=by cases d <;> first | rfl | (show zmU _ _ = _; simp [zmU,tyD])
def vw:List Addr->Hp->Hp
 | [],H=>H
 | a :: r,H=>hid a (vw r H)
def zp7 (K:W.Frag):V->V->Hp->VK->Prop:=fun x y H Q=>∃ (a:Addr) (ns:List Int) (i:Int),x = .ref a/\y = .int i/\SqL K H a (ns.map V.int)/\0 <= i/\∀ n,Q (.int n) H
theorem zpT {ns:List Int} {i:Int} (h0:0 <= i) (h1:i < ((ns.map V.int).length:Int)):∃ n,atI (ns.map V.int) i = some (.int n):=by
 obtain ⟨k,rfl⟩:=Int.eq_ofNat_of_zero_le h0
 have hk:k < ns.length:=by rw [List.length_map] at h1; omega
 exact ⟨ns[k],zdO (by rw [List.getElem?_map,List.getElem?_eq_getElem hk]; rfl)⟩
theorem znp {ns:List Int} {lo hi:Option Int} {x:V} (h:x ∈ zjC (ns.map V.int) lo hi):∃ n,x = .int n:=by
 have h1:=List.mem_of_mem_drop (List.mem_of_mem_take h)
 obtain ⟨n,_,e⟩:=List.mem_map.mp h1
 exact ⟨n,e.symm⟩
theorem Fun.bind1 {K:W.Frag} {x a:Str} {st:Stmt} {f:Addr} {fd:FuncData} (F:Fun K x x st f fd)
  (h:∀ (kV doc pm:Value) (an:Option Addr) (cdv ct:Value) (u:Value),bindArgs (PySem.W.fnOf x x (zeI st) (zb5 st) (zn st) .none kV doc pm an cdv ct) ⟨[u],[]⟩ = pure [(a,u)]):∀ (s:Shared) (u:Value),BindsTo s fd ⟨[u],[]⟩ [(a,u)]:=by
 obtain ⟨oc,od,kV,doc,pm,an,cdv,ct,osl,rfl,lk,hcd⟩:=F.ex
 exact fun s u=>.of_eq (h kV doc pm an cdv ct u)
def zsB (K:W.Frag):V->Hp->VK->Prop:=fun x H Q=>∃ (a:Addr) (ns:List Int),x = .ref a/\SqL K H a (ns.map V.int)/\ns.length <= 63/\∀ H',Q (.bl true) H'
theorem walk_law {l:PySem.W.OpenLaw} {k:Nat} {q:Program} {loose:List Str} {XP:(Str->Option Value)->Heap->Prop} {YP:World->Heap->Prop} {d:DefRec} {K:Params->W.Frag} (hn:l.most = some 63) (hdf:d.params.defaults = [])
  (hr:Room k callerA) (hY:∀ (w:World) (h:Heap),YP w h->(K w.params).In h) (hT:∀ (w:World) (h:Heap),YP w h->TabsOk (K w.params) h)
  (F:∀ (w:World) (mg:Str->Option Value) (fa:Addr) (h:Heap),(K w.params).In h->h.Ns mainGlobals mg->mg d.name = some (.ref fa) ->
   ∃ fd:FuncData,(∀ (s:Shared) (u:Value),BindsTo s fd ⟨[u],[]⟩ [("script",u)])/\∀ base:Heap,(K w.params).In base->base.Ns mainGlobals mg->FnOk l.prog w (K w.params) mg base CX0 k fa fd ["script"] (sp1 (zsB (K w.params)))) :
  PySem.W.WalkO q loose XP YP l.row.toRowW d [] (fun f vs=>PySem.call f vs) :=
 L2.walk_of (n:=63) (k:=k) (x:="script") (CX:=fun _=>CX0) (sp:=fun w=>sp1 (zsB (K w.params))) hn (by decide) hdf hr hY hT F (fun _ _ a ns hl _ hS=>⟨a,ns,rfl,hS,hl,fun _=>rfl⟩) fun _ _ _ _ _ z=>z
theorem Fun.ok1 {P:Program} {w:World} {K:W.Frag} {mg:Str->Option Value} {base:Heap} {x a:Str} {st:Stmt} {f:Addr} {fd:FuncData} {N:List Str} {k:Nat} {p:V->Hp->VK->Prop} (F:Fun K x x st f fd) (S:FnScope N [a] (zn st)) (σ0:V->St) (hs:∀ v,start N [v] = σ0 v)
  (hbody:∀ (cdv:Value) (A:Around) (outer:List Env) (s:Shared) (H:Hp) (v:V) (Q:VK) (E:XK),Room k (A.deeper (envOfC x (zn st) s.heap.objs.size f cdv))->p v H Q ->
   ∃ t,PSs (zmB CX0 P w K mg base N x (zn st) f cdv A outer s H E).nox (zb5 st) t/\t { nx:=fun _ H'=>Q .non H',rt:=Q } (σ0 v) H):FnOk P w K mg base CX0 (k + 1) f fd [a] (sp1 p):=by
 refine F.ok S (fun vs H Q E h=>?_) fun cdv A outer s H vs Q E hr h=>?_
 ·obtain ⟨x,rfl,_⟩:=zlm vs H Q E h
  rfl
 ·obtain ⟨x,rfl,h⟩:=zlm vs H Q E h
  rw [hs]
  exact hbody cdv A outer s H x Q E hr h
end
section
mutual
theorem Has.reads {X:Cx} {zm:List (Addr × Obj)} {σ:St} {H:Hp} {s:Shared} (I:Inv X zm σ H s):∀ (d:PyData) (v:V) (u:Value),Has H d v->d.canLay0 = true->RelV v u->∃ as,Reads s.heap u d as
 | .none,v,u,h,_,r=>by
  rw [zdw.mp h] at r
  cases (show u = Value.none from r)
  exact ⟨_,.none⟩
 | .bool b,v,u,h,_,r=>by
  rw [zc6.mp h] at r
  cases (show u = Value.bool b from r)
  exact ⟨_,.bool b⟩
 | .int i,v,u,h,_,r=>by
  rw [zbX.mp h] at r
  obtain ⟨t,q⟩:=(show ∃ t,u = Value.int i t from r)
  cases q
  exact ⟨_,.int i t⟩
 | .str x,v,u,h,_,r=>by
  rw [zdu.mp h] at r
  obtain ⟨t,q⟩:=(show ∃ t,u = Value.str x t from r)
  cases q
  exact ⟨_,.str x t⟩
 | .list ds,v,u,h,c,r=>by
  obtain ⟨a,vs,rfl,e,l⟩:=zba.mp h
  cases (show u = Value.ref a from r)
  obtain ⟨_,its,n,rv,e1⟩:=(show ObjOk X.prog X.w H s.heap a (.lst vs) from I.hok a _ e)
  obtain ⟨as,q⟩:=HasL.reads I ds vs its l (by simpa only [PyData.canLay0] using c) rv
  exact ⟨_,.list e1 rfl rfl (by simpa using q)⟩
 | .tuple ds,v,u,h,c,r=>by
  obtain ⟨a,vs,rfl,e,l⟩:=zaJ.mp h
  cases (show u = Value.ref a from r)
  obtain ⟨_,its,rv,o,e1,e2,n,e3⟩:=(show ObjOk X.prog X.w H s.heap a (.tup vs) from I.hok a _ e)
  obtain ⟨as,q⟩:=HasL.reads I ds vs its l (by simpa only [PyData.canLay0] using c) rv
  exact ⟨_,.tuple e1 e2 e3 (by simpa using q)⟩
 | .dict _,_,_,_,c,_=>by simp [PyData.canLay0] at c
theorem HasL.reads {X:Cx} {zm:List (Addr × Obj)} {σ:St} {H:Hp} {s:Shared} (I:Inv X zm σ H s):∀ (ds:List PyData) (vs:List V) (us:List Value),HasL H ds vs->PyData.canLayAll0 ds = true->Vals vs us->∃ as,ReadsAll s.heap us ds as
 | [],vs,us,h,_,r=>by
  rw [zR.mp h] at r
  cases r
  exact ⟨_,.nil⟩
 | d :: ds,vs,us,h,c,r=>by
  obtain ⟨v,w',rfl,h1,h2⟩:=zH.mp h
  have c':d.canLay0 = true/\PyData.canLayAll0 ds = true:=by simpa [PyData.canLayAll0] using c
  cases r with
  | cons r1 r2 =>
   obtain ⟨as,q1⟩:=Has.reads I d v _ h1 c'.1 r1
   obtain ⟨bs,q2⟩:=HasL.reads I ds w' _ h2 c'.2 r2
   exact ⟨_,.cons q1 q2⟩
end
def zsS:R2:=fun x y H Q=>∃ d e,Has H d x/\Has H e y/\SeqAt.shaped d = true/\SeqAt.shaped e = true/\Q (.bl (PyData.eqv d e)) H
def zs5:R2:=fun x y H Q=>∃ d e,Has H d x/\Has H e y/\SeqAt.shaped d = true/\SeqAt.shaped e = true/\Q (.bl (!PyData.eqv d e)) H
section
variable {X:Cx}
theorem zce (hu:X.A.units + 64 < cLine):OpR X (compareOp .Eq) zsS:=by
 intro zm s σ H x y v u Q I rx ry h
 obtain ⟨d,e,hd,he,sd,se,q⟩:=h
 obtain ⟨as,q1⟩:=Has.reads I d x v hd (SeqAt.canLay_of_shaped sd) rx
 obtain ⟨bs,q2⟩:=Has.reads I e y u he (SeqAt.canLay_of_shaped se) ry
 exact eq_dataH q1 q2 sd se hu ⟨.bl _,H,I,rfl,q⟩
theorem zoi (hu:X.A.units + 64 < cLine):OpR X (compareOp .NotEq) zs5:=by
 intro zm s σ H x y v u Q I rx ry h
 obtain ⟨d,e,hd,he,sd,se,q⟩:=h
 obtain ⟨as,q1⟩:=Has.reads I d x v hd (SeqAt.canLay_of_shaped sd) rx
 obtain ⟨bs,q2⟩:=Has.reads I e y u he (SeqAt.canLay_of_shaped se) ry
 exact ne_dataH q1 q2 sd se hu ⟨.bl _,H,I,rfl,q⟩
end
section
variable {prog:Program} {w:World} {A:Around} {E:Value->Shared->Prop} {s:Shared} {l:Addr}
theorem zkK {xs:Array (Int × Tok)} {Q:Value->Shared->Prop} (hh:A.handled = none) (hl:s.heap.IsTuple l (intItems xs)) (hne:0 < xs.size)
  (h:∀ v h' tk,(intItems xs)[argBest (fun i j=>decide (numAt xs i < numAt xs j)) (xs.size - 1)]? = some v->(∀ b o,s.heap.get? b = some o->h'.get? b = some o)->Q v { s with heap:=h',toks:=tk }) :
  wpAny (model prog w) A (call (.builtin "min") [.ref l]) Q E s:=by
 have hlt:l < s.heap.objs.size:=by obtain ⟨o,e,_⟩:=hl; exact Heap.lt_size e
 refine call_min_walk (wpAny_pyIter_tuple hl ?_)
 refine ⟨_,[_,l],[_],_,_,_,_,rfl,Walks.tuple (A:=A.in1) hh _ l (Nat.ne_of_lt hlt) (intItems xs),⟨⟨_,Heap.get?_push_size _ rfl,rfl,rfl⟩,hl.push _⟩,fun c hc=>?_,by simpa [intItems] using hne,CmpOf.ints_lt (numAt xs) (fun _ _=>intItems_at),fun v h' tk hP hk=>?_⟩
 ·show c < (s.heap.push _).objs.size
  rw [Heap.size_push]
  rcases List.mem_cons.mp hc with rfl | hc
  ·exact Nat.lt_succ_self _
  ·rcases List.mem_cons.mp hc with rfl | hc
   ·exact Nat.lt_succ_of_lt hlt
   ·cases hc
 ·refine h v h' tk (by simpa [intItems] using hP) fun b o e=>hk b o (fun hm=>?_) (Heap.get?_push_of_some _ e)
  rcases List.mem_cons.mp hm with e1 | hm
  ·exact absurd (e1 ▸ Heap.lt_size e) (Nat.lt_irrefl _)
  ·cases hm
theorem zkG {xs:Array (Int × Tok)} {Q:Value->Shared->Prop} (hh:A.handled = none) (hl:s.heap.IsTuple l (intItems xs)) (hne:0 < xs.size)
  (h:∀ v h' tk,(intItems xs)[argBest (fun i j=>decide (numAt xs i > numAt xs j)) (xs.size - 1)]? = some v->(∀ b o,s.heap.get? b = some o->h'.get? b = some o)->Q v { s with heap:=h',toks:=tk }) :
  wpAny (model prog w) A (call (.builtin "max") [.ref l]) Q E s:=by
 have hlt:l < s.heap.objs.size:=by obtain ⟨o,e,_⟩:=hl; exact Heap.lt_size e
 refine call_max_walk (wpAny_pyIter_tuple hl ?_)
 refine ⟨_,[_,l],[_],_,_,_,_,rfl,Walks.tuple (A:=A.in1) hh _ l (Nat.ne_of_lt hlt) (intItems xs),⟨⟨_,Heap.get?_push_size _ rfl,rfl,rfl⟩,hl.push _⟩,fun c hc=>?_,by simpa [intItems] using hne,CmpOf.ints_gt (numAt xs) (fun _ _=>intItems_at),fun v h' tk hP hk=>?_⟩
 ·show c < (s.heap.push _).objs.size
  rw [Heap.size_push]
  rcases List.mem_cons.mp hc with rfl | hc
  ·exact Nat.lt_succ_self _
  ·rcases List.mem_cons.mp hc with rfl | hc
   ·exact Nat.lt_succ_of_lt hlt
   ·cases hc
 ·refine h v h' tk (by simpa [intItems] using hP) fun b o e=>hk b o (fun hm=>?_) (Heap.get?_push_of_some _ e)
  rcases List.mem_cons.mp hm with e1 | hm
  ·exact absurd (e1 ▸ Heap.lt_size e) (Nat.lt_irrefl _)
  ·cases hm
theorem zgs {vs:List Value} {ns:List Int} (hi:IntsAre vs ns):∃ xs:Array (Int × Tok),vs.toArray = intItems xs/\ns = xs.toList.map (·.1):=by
 obtain ⟨xs,e⟩:=hi.allInts.items
 exact ⟨xs,e,by rw [<- hi.numsOf,<- nums_intItems,<- e]⟩
end
def zsI (K:W.Frag):List V->Hp->VK->Prop:=fun xs H Q=>∃ p ns,xs = [.ref p]/\(SqL K H p (ns.map V.int)\/SqT K H p (ns.map V.int))/\ns ≠ []/\∀ m,m ∈ ns->(∀ a,a ∈ ns->m <= a)->Q (.int m) H
def ztd (K:W.Frag):List V->Hp->VK->Prop:=fun xs H Q=>∃ p ns,xs = [.ref p]/\(SqL K H p (ns.map V.int)\/SqT K H p (ns.map V.int))/\ns ≠ []/\∀ m,m ∈ ns->(∀ a,a ∈ ns->a <= m)->Q (.int m) H
section
variable {X:Cx}
theorem zlK (hc:X.calm = true):CallR X (.builtin "min") (zsI X.K):=by
 intro zm s σ H xs us Q I r h
 obtain ⟨p,ns,rfl,hq,hne,q⟩:=h
 obtain ⟨u,rfl,rx⟩:=vals1 r
 cases (show u = Value.ref p from rx)
 have done:∀ (ys:Array (Int × Tok)) (v:Value) (h':Heap) (tk:Nat),ns = ys.toList.map (·.1)->0 < ys.size->(intItems ys)[argBest (fun i j=>decide (numAt ys i < numAt ys j)) (ys.size - 1)]? = some v ->
   (∀ b o,s.heap.get? b = some o->h'.get? b = some o)->EP X zm σ Q v { s with heap:=h',toks:=tk }:=by
  intro ys v h' tk hns hsz hv hk
  obtain ⟨t,rfl⟩:=intItems_at hv
  obtain ⟨h1,h2⟩:=argBest_lt (numAt ys) (ys.size - 1)
  refine ⟨.int _,H,I.kept (t':=tk) hk,⟨t,rfl⟩,q _ ?_ fun a ha=>?_⟩
  ·rw [hns,numAt_eq]; exact getD_mem (by rw [List.length_map,Array.length_toList]; omega)
  ·rw [hns] at ha
   obtain ⟨j,hj,rfl⟩:=mem_getD ha
   rw [List.length_map,Array.length_toList] at hj
   rw [<- numAt_eq]; exact h2 j (by omega)
 rcases hq with hq | hq
 ·obtain ⟨its,rv,pl,_⟩:=I.list hq
  obtain ⟨ys,e,hns⟩:=zgs (zb1 rv)
  have hsz:0 < ys.size:=by
   cases ys with
   | mk l=>cases l with
    | nil=>exact absurd hns hne
    | cons _ _=>exact Nat.succ_pos _
  exact min_intList (I.ok.hd hc) (by rw [<- e]; exact pl.isList) hsz fun v h' tk hv hk=>done ys v h' tk hns hsz hv hk
 ·obtain ⟨its,rv,pl,_⟩:=I.tuple hq
  obtain ⟨ys,e,hns⟩:=zgs (zb1 rv)
  have hsz:0 < ys.size:=by
   cases ys with
   | mk l=>cases l with
    | nil=>exact absurd hns hne
    | cons _ _=>exact Nat.succ_pos _
  exact zkK (I.ok.hd hc) (by rw [<- e]; exact pl) hsz fun v h' tk hv hk=>done ys v h' tk hns hsz hv hk
theorem zii (hc:X.calm = true):CallR X (.builtin "max") (ztd X.K):=by
 intro zm s σ H xs us Q I r h
 obtain ⟨p,ns,rfl,hq,hne,q⟩:=h
 obtain ⟨u,rfl,rx⟩:=vals1 r
 cases (show u = Value.ref p from rx)
 have done:∀ (ys:Array (Int × Tok)) (v:Value) (h':Heap) (tk:Nat),ns = ys.toList.map (·.1)->0 < ys.size->(intItems ys)[argBest (fun i j=>decide (numAt ys i > numAt ys j)) (ys.size - 1)]? = some v ->
   (∀ b o,s.heap.get? b = some o->h'.get? b = some o)->EP X zm σ Q v { s with heap:=h',toks:=tk }:=by
  intro ys v h' tk hns hsz hv hk
  obtain ⟨t,rfl⟩:=intItems_at hv
  obtain ⟨h1,h2⟩:=argBest_gt (numAt ys) (ys.size - 1)
  refine ⟨.int _,H,I.kept (t':=tk) hk,⟨t,rfl⟩,q _ ?_ fun a ha=>?_⟩
  ·rw [hns,numAt_eq]; exact getD_mem (by rw [List.length_map,Array.length_toList]; omega)
  ·rw [hns] at ha
   obtain ⟨j,hj,rfl⟩:=mem_getD ha
   rw [List.length_map,Array.length_toList] at hj
   rw [<- numAt_eq]; exact h2 j (by omega)
 rcases hq with hq | hq
 ·obtain ⟨its,rv,pl,_⟩:=I.list hq
  obtain ⟨ys,e,hns⟩:=zgs (zb1 rv)
  have hsz:0 < ys.size:=by
   cases ys with
   | mk l=>cases l with
    | nil=>exact absurd hns hne
    | cons _ _=>exact Nat.succ_pos _
  exact max_intList (I.ok.hd hc) (by rw [<- e]; exact pl.isList) hsz fun v h' tk hv hk=>done ys v h' tk hns hsz hv hk
 ·obtain ⟨its,rv,pl,_⟩:=I.tuple hq
  obtain ⟨ys,e,hns⟩:=zgs (zb1 rv)
  have hsz:0 < ys.size:=by
   cases ys with
   | mk l=>cases l with
    | nil=>exact absurd hns hne
    | cons _ _=>exact Nat.succ_pos _
  exact zkG (I.ok.hd hc) (by rw [<- e]; exact pl) hsz fun v h' tk hv hk=>done ys v h' tk hns hsz hv hk
end
section
variable {K:W.Frag} {o:List Addr} {σ:St} {H0:Hp} {t t1 t2 t3 t4 t5:TE} {ta:TA} {tt tu:TT} {d d1 d2 d3 d4 d5:PyData} {ds:List PyData} {b c:Bool}
def zl1:PyData->Bool
 | .none=>true
 | _=>false
theorem zid {H:Hp} {v:V} (h:Has H d v):decide (v = .non) = zl1 d:=by
 cases d with
 | none=>rw [zdw.mp h]; rfl
 | bool _=>rw [zc6.mp h]; rfl
 | int _=>rw [zbX.mp h]; rfl
 | str _=>rw [zdu.mp h]; rfl
 | list _=>obtain ⟨a,vs,rfl,_⟩:=zba.mp h; rfl
 | tuple _=>obtain ⟨a,vs,rfl,_⟩:=zaJ.mp h; rfl
 | dict _=>obtain ⟨a,vs,rfl,_⟩:=zhq.mp h; rfl
def zth:R2:=fun x y H Q=>y = .non/\Q (.bl (decide (x = .non))) H
def zqU:R2:=fun x y H Q=>y = .non/\Q (.bl (!decide (x = .non))) H
theorem zgt {X:Cx}:OpR X (compareOp .Is) zth:=zrO
theorem zhp {X:Cx}:OpR X (compareOp .IsNot) zqU:=zpq
end
def spD (a b:Int):PyData:=.tuple [.int a,.int b]
end
section
theorem zln {K:W.Frag} {a:Addr} {ns:List Int} {N:Int} {j:Nat} {tb:TS} {D:Ends} {σ:St} {H:Hp} (P:St->Prop) (h0:σ[0]? = some (some (.ref a))) (hS:SqL K H a (ns.map V.int)) (hlen:ns.length <= 63) (hP:P σ)
  (turn:∀ (n:Int) (σ:St) (H1 H2:Hp),P σ->Same H H1->Same H1 H2->tb { D with nx:=fun σ' H'=>Same H1 H'/\P σ',ct:=fun σ' H'=>Same H1 H'/\P σ',bk:=D.nx } (σ.set j (some (.int n))) H2)
  (done:∀ (σ:St) (H1:Hp),P σ->Same H H1->D.nx σ H1) :
  zq2 (zpV K (tOp zqt (zqo (zjm (tC2 (zp7 K) (zmR 0) (tC (.int 0))) zqp)) (tSl (zqJ K) (zmR 0) (zkJ (tC (.int 1))) (zkJ (tC (.int N)))))) (zjb j) tb D σ H:=by
 refine ⟨_,h0,a,ns,0,rfl,rfl,hS,by decide,fun n0=>⟨by show 1 <= sizeLine; decide,fun p hp=>?_⟩⟩
 have s1:Same H (upd H p (.lst [.int n0])):=Same.laid hp
 refine ⟨_,h0,_,rfl,_,rfl,a,_,rfl,s1.seq hS,fun p2 hp2=>?_⟩
 have s2:=s1.trans (Same.laid (o:=.lst (zjC (ns.map V.int) (some 1) (some N))) hp2)
 have np:p ≠ p2:=zO zav hp2
 have hz:(zjC (ns.map V.int) (some 1) (some N)).length <= 63:=Nat.le_trans (zeT _ _ _) (by rw [List.length_map]; exact hlen)
 refine ⟨p,p2,_,_,rfl,rfl,by rw [zS np,zav],zav,Nat.le_of_lt (small1000 (by simp only [List.length_cons,List.length_nil]; omega)),fun p3 hp3=>?_⟩
 have s3:=s2.trans (Same.laid (o:=.lst ([V.int n0] ++ zjC (ns.map V.int) (some 1) (some N))) hp3)
 refine ⟨p3,rfl,⟨_,.of zav⟩,zne (K:=K) (a:=p3) (xs:=[V.int n0] ++ zjC (ns.map V.int) (some 1) (some N)) (fun i σ' H'=>Same _ H'/\P σ') ⟨Same.refl _,hP⟩ (fun i σ H4 _ ⟨s4,_⟩=>.of (s4 _ _ zav)) ?_ ?_⟩
 ·rintro i x σ' H4 hi ⟨s4,p4⟩
  obtain ⟨n,rfl⟩:∃ n,x = .int n:=by
   rcases List.mem_append.mp (List.mem_of_getElem? hi) with m | m
   ·exact ⟨n0,List.mem_singleton.mp m⟩
   ·exact znp m
  exact turn n σ' _ H4 p4 s3 s4
 ·rintro σ' H4 ⟨s4,p4⟩
  exact done σ' H4 p4 (s3.trans s4)
end
section
section
variable {prog:Program} {w:World} {A:Around} {E:Value->Shared->Prop} {R:Result->Shared->Prop} {s:Shared}
theorem zhY {elt target iter:Expr} {ifs:List Expr} {scope:Scope} {pos:Pos} {it acc:Value} {env:Env} (I:Nat->Shared->Prop)
  (turn:∀ n s,I n s->wpAny (model prog w) A (pyNext it) (fun r s₁=>match r with
   | none=>R (.ok .next) s₁
   | some v=>wpAny (model prog w) A (letOwnedTupleGo target it v) (fun _ s₀=>wpAny (model prog w) A (assign target env v) (fun _ s₂ =>
     wpAny (model prog w) A (forIn ifs true fun c r=>if r = true then do let ok <- isTrue c env (eval c env); pure (ForInStep.yield ok) else pure (ForInStep.yield r)) (fun ok s₃ =>
      if ok = true then wpAny (model prog w) A (eval elt env) (fun x s₄ =>
       wpAny (model prog w) A (call (.builtin "list.append") [acc,x]) (fun _ s₅=>∃ m,m < n/\I m s₅) (fun _ _=>False) s₄) (fun _ _=>False) s₃
      else ∃ m,m < n/\I m s₃) (fun _ _=>False) s₂) (fun _ _=>False) s₀) (fun _ _=>False) s₁) (fun _ _=>False) s)
  (n:Nat) (h:I n s) :
  codeAny (model prog w) A (.compLoop (.ListComp elt [⟨target,iter,ifs,0⟩] scope pos) 0 it acc env) R s:=by
 have up:∀ {α:Type} {t:Sem α} {Q:α->Shared->Prop} {E':Value->Shared->Prop} {s':Shared},wpAny (model prog w) A t Q (fun _ _=>False) s'->wpAny (model prog w) A t Q E' s':=fun h=>wpAny_mono h (fun _ _ q=>q) fun _ _ z=>z.elim
 refine codeAny_loop rfl I (fun n s hI=>?_) n h
 show wpAny _ A ((compTurn (.ListComp elt [⟨target,iter,ifs,0⟩] scope pos) 0 it acc env).onRaise (fun x=>do noteFrame x env; theTreesLotGoes x)) _ _ s
 refine wpAny_noted ?_
 rw [compTurn_list]
 refine wpAny_bind (wpAny_standAt (wpAny_bind (thn (up (turn n s hI)) fun r s₁ h₁=>?_)))
 cases r with
 | none=>exact wpAny_pure h₁
 | some v =>
  refine wpAny_bind (thn (up h₁) fun _ s₀ h₀=>?_)
  refine wpAny_bind (thn (up h₀) fun _ s₂ h₂=>wpAny_bind (thn (up h₂) fun ok s₃ h₃=>?_))
  cases ok with
  | false=>exact wpAny_pure ⟨rfl,h₃⟩
  | true =>
   exact wpAny_bind (wpAny_bind (thn (up h₃) fun x s₄ h₄=>wpAny_bind (thn (up h₄) fun _ s₅ h₅=>wpAny_pure (wpAny_pure ⟨rfl,h₅⟩))))
end
def zcg (X:Cx) (scope:Scope) (cl:List (Str × Addr)) (C:Addr) (s₃:Shared) (H₃:Hp) (fp:List Addr) (N:List Str):Cx where
 prog:=X.prog
 w:=X.w
 K:=X.K
 mg:=X.mg
 base:=X.base
 A:=X.A
 N:=N
 s₀:=s₃
 H₀:=H₃
 env:=compEnvC scope cl C X.env
 outer:=X.stack
 stack:=X.stack
 ex:=fp
 fn:=fun _=>false
 calm:=X.calm
 pn:=[]
 xe:=fun _ _=>False
def PTs (X:Cx) (ifs:List Expr) (t:TT):Prop :=
 ∀ (zm:List (Addr × Obj)) (s:Shared) (σ:St) (H:Hp) (Q:Bool->Hp->Prop),Inv X zm σ H s->t σ H Q ->
  wpAny (model X.prog X.w) X.A (forIn ifs true fun c r=>if r = true then do let ok <- isTrue c X.env (eval c X.env); pure (ForInStep.yield ok) else pure (ForInStep.yield r)) (TP X zm σ Q) X.xe s
def zrs:TT:=fun _ H Q=>Q true H
theorem zaG {X:Cx}:PTs X [] zrs:=fun _ _ _ H _ I h=>wpAny_tests_nil ⟨H,I,h⟩
theorem ziZ {X:Cx} {c:Expr} {t:TT} (h:PT X c t):PTs X [c] t:=fun zm s σ H Q I hw=>wpAny_tests_one (h zm s σ H Q I hw)
def tau (caps:List (Option Nat)) (σ:St):St:=caps.map fun o=>o.bind fun i=>(σ[i]?).join
def zjl (caps:List (Option Nat)) (wi:TI) (g:TG) (tt:TT) (te:TE):TE:=fun σ H Q=>wi σ H fun J H1=>∀ D,H1 D = none->∃ W:Nat->Nat->St->Hp->Prop,(∃ m,W 0 m (tau caps σ) (upd H1 D (.lst []))) /\
 ∀ i m τ H2,W i m τ H2->(J.stop i H2/\Q (.ref D) H2)\/(J.go i H2/\∀ x H3,J.yld i H2 x H3->g x τ H3 fun τ4 H4=>tt τ4 H4 fun b H5 =>
  if b = true then te τ4 H5 fun v H6=>∃ xs,H6 D = some (.lst xs)/\xs.length < sizeLine/\∃ m',m' < m/\W (i + 1) m' τ4 (upd H6 D (.lst (xs ++ [v]))) else ∃ m',m' < m/\W (i + 1) m' τ4 H5)
structure CompOk (X:Cx) (scope:Scope) (cl:List (Str × Addr)) (N:List Str) (caps:List (Option Nat)):Prop where
 clos:closureFor scope X.env = pure cl
 sub:∀ x c,cl.lookup x = some c->X.env.cells.lookup x = some c
 kind:scope.kind = .function
 cell:∀ y ∈ scope.names,y.2 ≠ .cell
 names:∀ y ∈ scope.names,y.2 = .local->scope.names.lookup y.1 = some .local
 has:∀ x,((relabel scope X.env).names.lookup x = some .cell\/(relabel scope X.env).names.lookup x = some .free)->∃ c,cl.lookup x = some c
 cap:∀ (j i:Nat) (x:Str),caps[j]? = some (some i)->N[j]? = some x->X.N[i]? = some x/\Vis X.env.scope x/\¬ X.env.kindOf x = some .local/\∃ c,cl.lookup x = some c/\((relabel scope X.env).names.lookup x = some .cell\/(relabel scope X.env).names.lookup x = some .free)
 len:caps.length = N.length
section
variable {X:Cx} {scope:Scope} {cl:List (Str × Addr)} {N:List Str} {caps:List (Option Nat)} {tg iter elt:Expr} {ifs:List Expr} {pos:Pos} {wi:TI} {g:TG} {tt:TT} {te:TE}
theorem zku {zm:List (Addr × Obj)} {σ:St} {H:Hp} {s:Shared} {fp:List Addr} {h₁:Heap} {t':Nat} (c:CompOk X scope cl N caps) (I:Inv X zm σ H s) (f:∀ b ∈ fp,FpOk X zm H b) (fo:∀ b ∈ fp,∃ o,s.heap.get? b = some o)
  (hns:h₁.Ns s.heap.objs.size (fun _=>none)) (hk:∀ b o,s.heap.get? b = some o->h₁.get? b = some o) :
  Inv (zcg X scope cl s.heap.objs.size s H fp N) [] (tau caps σ) H { s with heap:=h₁,toks:=t' }:=by
 have lt:∀ b ∈ fp,b < s.heap.objs.size:=fun b hb=>by obtain ⟨o,e⟩:=fo b hb; exact Heap.lt_size e
 have cells:∀ x k,cl.lookup x = some k->∃ v,s.heap.IsCell k v:=fun x k e=>I.cell x k (c.sub x k e)
 refine ⟨⟨I.ok.mod,c.kind,I.ok.glob,I.ok.blt,Nat.le_refl _,fun x y k h1 h2=>I.ok.inj x y k (c.sub x k h1) (c.sub y k h2),fun x hx=>c.has x hx,fun x k h _=>absurd (show false = true from h) (by decide),I.ok.hd,I.ok.frames,.inl rfl,
  fun b hb=>⟨Nat.ne_of_lt (lt b hb),fun x k e=>(f b hb).2.2.2.2.1 x k (c.sub x k e)⟩,I.bs,Nat.le_trans I.ok.bsz I.sz,fun b o e hb=>?_,fun b hb z=>?_,I.stack,I.stkFree⟩,
  rfl,I.bare,Un.kept hk,⟨_,hns,fun j x v h1 h2 h3=>?_⟩,fun x k e=>?_,I.hok.fresh (Nat.le_refl _),fun x k e=>I.freeC x k (c.sub x k e),fun p hp=>absurd (show p ∈ ([]:List (Addr × Obj)) from hp) (by simp),I.hok.kept hk,?_⟩
 ·rcases (f b hb).2.2.2.1 with q | q
  ·exact I.ok.noex b o e q
  ·exact absurd (Nat.lt_of_lt_of_le (Heap.lt_size e) (Nat.le_trans I.ok.bsz q)) (Nat.lt_irrefl _)
 ·rcases List.mem_cons.mp (I.stkSub b z) with q | q
  ·exact (f b hb).2.1 q
  ·exact (f b hb).2.2.1 q
 ·have h2':(caps.map fun o=>o.bind fun i=>(σ[i]?).join)[j]? = some (some v):=h2
  rw [List.getElem?_map] at h2'
  cases e:caps[j]? with
  | none=>rw [e] at h2'; cases h2'
  | some oi =>
   rw [e] at h2'
   have h2'':(oi.bind fun i=>(σ[i]?).join) = some v:=Option.some.inj h2'
   cases oi with
   | none=>cases h2''
   | some i =>
    have h4:(σ[i]?).join = some v:=h2''
    have h5:σ[i]? = some (some v):=by
     cases q:σ[i]? with
     | none=>rw [q] at h4; cases h4
     | some w'=>rw [q] at h4; exact congrArg some h4
    obtain ⟨k1,k2,k3,cc,k4,k5⟩:=c.cap j i x e h1
    obtain ⟨m,hn,hl⟩:=I.loc
    obtain ⟨u,r,l⟩:=hl i x v k1 h5 k2
    refine ⟨u,r,.inr ⟨k5,cc,k4,?_⟩⟩
    rcases l with ⟨q,_⟩ | ⟨_,c',hc',hcell⟩
    ·exact (k3 q).elim
    ·rw [c.sub x cc k4] at hc'
     cases hc'
     exact hcell.keeps hk
 ·obtain ⟨v,q⟩:=cells x k e
  exact ⟨v,q.keeps hk⟩
 ·show (caps.map _).length = N.length
  rw [List.length_map]
  exact c.len
theorem zlX {zm:List (Addr × Obj)} {σ τ:St} {H H':Hp} {s s':Shared} {h':Heap} {fp:List Addr} (I:Inv X zm σ H s) (f:∀ b ∈ fp,FpOk X zm H b) (J:Inv (zcg X scope cl s.heap.objs.size s H fp N) [] τ H' s') (hs:Heap.SameBut s.heap.objs.size s'.heap h') :
  Inv X zm σ H' { s' with heap:=h' }:=by
 have hC:H' s.heap.objs.size = none:=J.free
 have keep:∀ b o,b ≠ s.heap.objs.size->s'.heap.get? b = some o->h'.get? b = some o:=fun b o nb e=>hs.extBut b o nb e
 have u1:Un (frs X.stack) (s.heap.objs.size :: fp) H H' s.heap s'.heap:=Un.mono J.base (fun b hb=>hb) (fun b hb=>List.mem_cons_of_mem _ hb)
 have u2:Un (frs X.stack) (s.heap.objs.size :: fp) H' H' s'.heap h' :=
  ⟨fun b o e _ _ hx=>keep b o (fun z=>hx (by rw [z]; exact List.mem_cons_self)) e,fun b o e _ _ hx=>⟨o.slots,keep b o (fun z=>hx (by rw [z]; exact List.mem_cons_self)) e⟩,fun _ _ _ n _=>n,fun b o e hx=>⟨o,keep b o (fun z=>hx (by rw [z]; exact List.mem_cons_self)) e⟩,fun _ _ q=>q,fun _ _ _ q=>q,fun _ _ q=>q⟩
 have hok:HOk X.prog X.w H' h':=fun a o e=>(J.hok a o e).stay (fun b u hb q=>keep b u (fun z=>by
  rcases hb with hb | hb
  ·rw [<- hb,z,hC] at e; cases e
  ·rw [z,hC] at hb; cases hb) q) (fun b q=>q) fun b xs q=>q
 refine I.call' (s':={ s' with heap:=h' }) (ch:=s.heap.objs.size :: fp) J.os (u1.trans u2) hok J.bare fun b hb=>?_
 rcases List.mem_cons.mp hb with rfl | hb
 ·refine ⟨.inr I.sz,Nat.ne_of_gt I.lt,fun x k e z=>?_,fun p hp z=>?_⟩
  ·obtain ⟨v,q⟩:=I.cell x k e
   exact absurd q.lt (by rw [z]; exact Nat.lt_irrefl _)
  ·exact absurd (Heap.lt_size (I.pin p hp).1) (by rw [z]; exact Nat.lt_irrefl _)
 ·obtain ⟨f0,f1,f2,f3,f4,f5⟩:=f b hb
  exact ⟨f3,f1,f4,f5⟩
theorem zg8 {zm:List (Addr × Obj)} {σ:St} {H2:Hp} {s2:Shared} {it:Addr} {fp:List Addr} {tn:Nat->Heap->Prop} {J:It} {RR:Value->Addr->Result->Shared->Prop} {E:Value->Shared->Prop} (hc:X.calm = true) (c:CompOk X scope cl N caps)
  (I2:Inv X zm σ H2 s2) (T:Turn X.prog X.w X.K tg J fp it tn) (st2:tn 0 s2.heap) (f2:∀ b ∈ fp,FpOk X zm H2 b)
  (hg:∀ C s H fp,PG (zcg X scope cl C s H fp N) tg g) (ht:∀ C s H fp,PTs (zcg X scope cl C s H fp N) ifs tt) (he:∀ C s H fp,PE (zcg X scope cl C s H fp N) elt te)
  (Q:VK) (hq:∀ D,H2 D = none->∃ W:Nat->Nat->St->Hp->Prop,(∃ m,W 0 m (tau caps σ) (upd H2 D (.lst []))) /\
   ∀ i m τ H2,W i m τ H2->(J.stop i H2/\Q (.ref D) H2)\/(J.go i H2/\∀ x H3,J.yld i H2 x H3->g x τ H3 fun τ4 H4=>tt τ4 H4 fun b H5 =>
    if b = true then te τ4 H5 fun v H6=>∃ xs,H6 D = some (.lst xs)/\xs.length < sizeLine/\∃ m',m' < m/\W (i + 1) m' τ4 (upd H6 D (.lst (xs ++ [v]))) else ∃ m',m' < m/\W (i + 1) m' τ4 H5))
  (hRR:∀ (D C:Addr) (H':Hp) (s':Shared) (m:Str->Option Value),s'.heap.Ns C m->FpOk X zm H' C->(∀ h',Heap.SameBut C s'.heap h'->Inv X zm σ H' { s' with heap:=h' })->Q (.ref D) H'->RR (.ref D) C (.ok .next) s') :
  wpAny (model X.prog X.w) X.A (newList []) (fun acc s₃=>wpAny (model X.prog X.w) X.A (newFunctionEnv scope X.env.globals cl [] X.env.qual none .none (some X.env)) (fun cenv s₄ =>
   codeAny (model X.prog X.w) X.A (.compStart (.ListComp elt [⟨tg,iter,ifs,0⟩] scope pos) 0 (.ref it) acc { cenv with scope:=relabel scope X.env }) (RR acc cenv.locals) s₄) E s₃) E s2:=by
 have hD:H2 s2.heap.objs.size = none:=I2.hok.fresh (Nat.le_refl _)
 obtain ⟨W,⟨m0,w0⟩,turn⟩:=hq s2.heap.objs.size hD
 have I3:Inv X zm σ (upd H2 s2.heap.objs.size (.lst [])) { s2 with heap:=s2.heap.push { cls:=.type "list",data:=.seq ([]:List Value).toArray } }:=I2.laid (t':=s2.toks) (fun b u e=>Heap.get?_push_of_some _ e) (Nat.le_refl _) ⟨Nat.zero_le _,[],0,.nil,Heap.get?_push_size _ rfl⟩
 have fo:∀ b ∈ fp,∃ o,s2.heap.get? b = some o:=fun b hb=>by obtain ⟨o,e,_⟩:=T.obj 0 _ st2 b hb; exact ⟨o,e⟩
 have f3:∀ b ∈ fp,FpOk X zm (upd H2 s2.heap.objs.size (.lst [])) b:=fun b hb=>by
  obtain ⟨o,e⟩:=fo b hb
  refine ⟨?_,(f2 b hb).2⟩
  rw [zS (Nat.ne_of_lt (Heap.lt_size e))]
  exact (f2 b hb).1
 refine wpAny_newObj_type (wpAny_newFunctionEnv c.cell (by intro y hy; simp at hy) (fun h₁ hns₁ hsb₁=>?_) c.kind)
 have hk:∀ b o,(s2.heap.push { cls:=.type "list",data:=.seq ([]:List Value).toArray }).get? b = some o->h₁.get? b = some o:=fun b o e=>hsb₁.extBut b o (Nat.ne_of_lt (Heap.lt_size e)) (Heap.get?_push_of_some _ e)
 have st4:tn 0 h₁:=T.keep 0 _ _ st2 fun b _ o e=>hk b o (Heap.get?_push_of_some _ e)
 have I4:=zku (t':=s2.toks + ([]:List (Str × Value)).length) c I3 f3 (fun b hb=>by obtain ⟨o,e⟩:=fo b hb; exact ⟨o,Heap.get?_push_of_some _ e⟩) hns₁ hk
 have fpok:∀ {H':Hp},(∀ b ∈ fp,H' b = none)->∀ b ∈ fp,FpOk (zcg X scope cl (s2.heap.push { cls:=.type "list",data:=.seq ([]:List Value).toArray }).objs.size { s2 with heap:=s2.heap.push { cls:=.type "list",data:=.seq ([]:List Value).toArray } } (upd H2 s2.heap.objs.size (.lst [])) fp N) [] H' b:=fun hn b hb =>
  ⟨hn b hb,(I4.ok.exf b hb).1,I4.ok.exfs b hb,.inl hb,(I4.ok.exf b hb).2,fun p hp=>absurd (show p ∈ ([]:List (Addr × Obj)) from hp) (by simp)⟩
 have loop:codeAny (model X.prog X.w) X.A (.compLoop (.ListComp elt [⟨tg,iter,ifs,0⟩] scope pos) 0 (.ref it) (.ref s2.heap.objs.size) (compEnvC scope cl (s2.heap.push { cls:=.type "list",data:=.seq ([]:List Value).toArray }).objs.size X.env))
   (RR (.ref s2.heap.objs.size) (s2.heap.push { cls:=.type "list",data:=.seq ([]:List Value).toArray }).objs.size) { s2 with heap:=h₁,toks:=s2.toks + ([]:List (Str × Value)).length }:=by
  refine zhY (fun n s'=>∃ i τ H',Inv (zcg X scope cl (s2.heap.push { cls:=.type "list",data:=.seq ([]:List Value).toArray }).objs.size { s2 with heap:=s2.heap.push { cls:=.type "list",data:=.seq ([]:List Value).toArray } } (upd H2 s2.heap.objs.size (.lst [])) fp N) [] τ H' s'/\tn i s'.heap/\(∀ b ∈ fp,H' b = none)/\W i n τ H') ?_ m0 ⟨0,_,_,I4,st4,fun b hb=>(f3 b hb).1,w0⟩
  rintro n s5 ⟨i,τ,H5,I5,st5,fr5,w5⟩
  rcases turn i n τ H5 w5 with ⟨stop,qn⟩ | ⟨go,step⟩
  ·refine thn (T.done (zcg X scope cl (s2.heap.push { cls:=.type "list",data:=.seq ([]:List Value).toArray }).objs.size { s2 with heap:=s2.heap.push { cls:=.type "list",data:=.seq ([]:List Value).toArray } } (upd H2 s2.heap.objs.size (.lst [])) fp N) rfl rfl rfl hc i [] s5 τ H5 (fun _ _=>False) I5 (fpok fr5) st5 stop) fun r s6 ⟨hr,I6⟩=>?_
   subst hr
   obtain ⟨m,hn,_⟩:=id I6.loc
   exact hRR _ _ H5 s6 m hn (I3.fpOk (Nat.le_refl _) I6.free) (fun h' hs=>zlX I3 f3 I6 hs) qn
  ·refine thn (T.item (zcg X scope cl (s2.heap.push { cls:=.type "list",data:=.seq ([]:List Value).toArray }).objs.size { s2 with heap:=s2.heap.push { cls:=.type "list",data:=.seq ([]:List Value).toArray } } (upd H2 s2.heap.objs.size (.lst [])) fp N) rfl rfl rfl hc i [] s5 τ H5 (fun _ _=>False) I5 (fpok fr5) st5 go) fun r s6 ⟨u,hr,h6⟩=>?_
   subst hr
   refine thn h6 fun _ s7 ⟨x,H7,I7,r7,y7,st7,fr7⟩=>?_
   have I7':=I7.pinned (fpok fr7) (T.obj _ _ st7)
   refine thn (hg _ _ _ _ _ s7 τ H7 x u _ I7' r7 (step x H7 y7)) fun _ s8 ⟨τ8,H8,I8,q8⟩=>?_
   refine thn (ht _ _ _ _ _ s8 τ8 H8 _ I8 q8) fun ok s9 ⟨H9,I9,q9⟩=>?_
   have again:∀ {H':Hp} {s':Shared} {m:Nat},Inv (zcg X scope cl (s2.heap.push { cls:=.type "list",data:=.seq ([]:List Value).toArray }).objs.size { s2 with heap:=s2.heap.push { cls:=.type "list",data:=.seq ([]:List Value).toArray } } (upd H2 s2.heap.objs.size (.lst [])) fp N) ([] ++ zib fp s7.heap) τ8 H' s'->(m < n/\W (i + 1) m τ8 H') ->
     ∃ m,m < n/\∃ i τ H',Inv (zcg X scope cl (s2.heap.push { cls:=.type "list",data:=.seq ([]:List Value).toArray }).objs.size { s2 with heap:=s2.heap.push { cls:=.type "list",data:=.seq ([]:List Value).toArray } } (upd H2 s2.heap.objs.size (.lst [])) fp N) [] τ H' s'/\tn i s'.heap/\(∀ b ∈ fp,H' b = none)/\W i m τ H':=fun {H' s' m} I' q=>by
    refine ⟨m,q.1,i + 1,τ8,H',I'.unpinned,T.keep _ _ _ st7 fun b hb o e=>(I'.pin (b,o) (List.mem_append_right _ (List.mem_append_right _ (zes hb e)))).1,fun b hb=>?_,q.2⟩
    obtain ⟨o,e,d⟩:=T.obj _ _ st7 b hb
    exact (I'.pin (b,o) (List.mem_append_right _ (List.mem_append_right _ (zes hb e)))).2.1
   cases ok with
   | false =>
    rw [if_neg Bool.false_ne_true] at q9 ⊢
    obtain ⟨m',hm,w9⟩:=q9
    exact again I9 ⟨hm,w9⟩
   | true =>
    rw [if_pos rfl] at q9 ⊢
    refine thn (he _ _ _ _ _ s9 τ8 H9 _ I9 q9) fun v s10 ⟨z,H10,I10,r10,xs,hx,hz,m',hm,w10⟩=>?_
    refine thn (zbQ _ s10 τ8 H10 (.ref s2.heap.objs.size) [z] (.ref s2.heap.objs.size) [v] (fun _ H11=>W (i + 1) m' τ8 H11) I10 rfl (.cons r10 .nil) ⟨_,xs,z,rfl,rfl,hx,hz,w10⟩) fun _ s11 ⟨_,H11,I11,_,w11⟩=>?_
    exact again I11 ⟨hm,w11⟩
 exact codeAny_compStart_list loop (T.self _ 0 _ _ _ st4 loop)
theorem zbd (hx:∀ e s,X.xe e s->False) (hc:X.calm = true) (c:CompOk X scope cl N caps) (hi:PI X tg iter wi) (hg:∀ C s H fp,PG (zcg X scope cl C s H fp N) tg g) (ht:∀ C s H fp,PTs (zcg X scope cl C s H fp N) ifs tt) (he:∀ C s H fp,PE (zcg X scope cl C s H fp N) elt te)
  (hs:∀ x,foldedSetIterable iter X.env x = pure x:=by intro _; rfl):PE X (.ListComp elt [⟨tg,iter,ifs,0⟩] scope pos) (zjl caps wi g tt te):=by
 intro zm s σ H Q I h
 rw [eval_ListComp]
 refine wpAny_comprehension_free (use:=none) rfl hs c.clos c.kind c.names (thn (hi zm s σ H _ I h) fun v s1 h1=>thn h1 fun itv s2 h2=>?_)
 obtain ⟨it,fp,tn,J,H2,e,I2,T,st2,f2,q2⟩:=h2
 subst e
 exact zg8 (RR:=fun acc C=>compPost (model X.prog X.w) X.A X.xe none (EP X zm σ Q) acc C) hc c I2 T st2 f2 hg ht he Q q2 fun D C H' s' m hn _ hb q=>⟨m,hn,fun h' hs=>⟨.ref D,H',hb h' hs,rfl,q⟩⟩
theorem zd6 {i:Nat} {y:Str} {py spos:Pos} (hx:∀ e s,X.xe e s->False) (hc:X.calm = true) (c:CompOk X scope cl N caps) (hN:X.N.Nodup) (hyi:X.N[i]? = some y) (hl:X.env.scope.names.lookup y = some .local) (hi:PI X tg iter wi) (hg:∀ C s H fp,PG (zcg X scope cl C s H fp N) tg g)
  (ht:∀ C s H fp,PTs (zcg X scope cl C s H fp N) ifs tt) (he:∀ C s H fp,PE (zcg X scope cl C s H fp N) elt te)
  (hsw:swapsWith (.ListComp elt [⟨tg,iter,ifs,0⟩] scope pos) (some (.Name y py)) spos.line X.env = pure true:=by rfl)
  (hs:∀ x,foldedSetIterable iter X.env x = pure x:=by intro _; rfl):PS X (.Assign [.Name y py] (.ListComp elt [⟨tg,iter,ifs,0⟩] scope pos) spos) (zr7 (zjl caps wi g tt te) (zjb i)):=by
 intro zm s σ H D I h
 rw [exec_Assign_Name_used _ _ _ _ hsw]
 refine wpAny_bind (wpAny_standAt (wpAny_bind ?_))
 show wpAny _ X.A (do let _ <- comprehension (.ListComp elt [⟨tg,iter,ifs,0⟩] scope pos) scope X.env _ (newList []) false (eval iter X.env) (some (assign (.Name y py) X.env))) _ _ s
 refine wpAny_bind (wpAny_mono (wpAny_comprehension_free (use:=some (assign (.Name y py) X.env)) (Q:=fun _ s'=>SP X zm D .next s') rfl hs c.clos c.kind c.names (thn (hi zm s σ H _ I h) fun v s1 h1=>thn h1 fun itv s2 h2=>?_)) (fun _ s' hq=>wpAny_pure (wpAny_pure hq)) fun _ _ e=>e)
 obtain ⟨it,fp,tn,J,H2,e,I2,T,st2,f2,q2⟩:=h2
 subst e
 refine zg8 (RR:=fun acc C=>compPost (model X.prog X.w) X.A X.xe (some (assign (.Name y py) X.env)) (fun _ s'=>SP X zm D .next s') acc C) hc c I2 T st2 f2 hg ht he (fun v H'=>D.nx (σ.set i (some v)) H') q2 fun Da C H' s' m hn f hb q=>?_
 obtain ⟨o,es,ep,ho,hd,r⟩:=hn
 have I':Inv X zm σ H' s':=hb s'.heap (Heap.SameBut.refl _ _)
 have I'':Inv X (zm ++ [(C,o)]) σ H' s':=I'.pins_of fun p hp=>(List.mem_append.mp hp).elim (fun z=>I'.pin p (List.mem_append_right _ z)) fun z=>by
  cases List.mem_singleton.mp z
  exact ⟨ho,f.1,f.2.1,f.2.2.1,fun v e=>by rw [hd] at e; cases e⟩
 refine wpAny_assign_Name (zhK I'' hN hyi (.inl hl) (show RelV (V.ref Da) (Value.ref Da) from rfl) (fun s2 J2=>?_) (.inr hl))
 refine ⟨m,⟨o,es,ep,(J2.pin (C,o) (List.mem_append_right _ (List.mem_append_right _ (List.mem_singleton.mpr rfl)))).1,hd,r⟩,fun h' hs=>?_⟩
 exact ⟨_,H',J2.unpinned.turned (t':=s2.toks) (fun b ob nb e=>hs.extBut b ob nb e) f.1 f.2.1 f.2.2.2.1 f.2.2.2.2.1 f.2.2.2.2.2,q⟩
end
def zjz (env:Env):List (Str × NameKind)->List (Str × Addr)->List (Str × Addr)
 | [],acc=>acc
 | (n,k) :: r,acc=>zjz env r (if k == .free then (n,(env.cells.lookup n).getD 0) :: acc else acc)
theorem zhi {env:Env} {x:Str} {c:Addr}:∀ {names:List (Str × NameKind)} {acc:List (Str × Addr)},(x,c) ∈ zjz env names acc->(x,c) ∈ acc\/((x,NameKind.free) ∈ names/\c = (env.cells.lookup x).getD 0)
 | [],_,h=>.inl h
 | (n,k) :: r,acc,h=>by
  rcases zhi (names:=r) h with h | ⟨h,e⟩
  ·by_cases hk:k == .free
   ·rw [if_pos hk] at h
    rcases List.mem_cons.mp h with h | h
    ·cases h
     have:k = .free:=by simpa using hk
     subst this
     exact .inr ⟨List.mem_cons_self,rfl⟩
    ·exact .inl h
   ·rw [if_neg hk] at h
    exact .inl h
  ·exact .inr ⟨List.mem_cons_of_mem _ h,e⟩
theorem zkm {env:Env} {p:Str × Addr}:∀ {names:List (Str × NameKind)} {acc:List (Str × Addr)},p ∈ acc->p ∈ zjz env names acc
 | [],_,h=>h
 | (n,k) :: r,acc,h=>zkm (names:=r) (by split <;> first | exact List.mem_cons_of_mem _ h | exact h)
theorem zfL {env:Env} {x:Str}:∀ {names:List (Str × NameKind)} {acc:List (Str × Addr)},(x,NameKind.free) ∈ names->∃ c,(x,c) ∈ zjz env names acc
 | (n,k) :: r,acc,h=>by
  rcases List.mem_cons.mp h with h | h
  ·cases h
   exact ⟨_,zkm (names:=r) (by rw [if_pos (by decide)]; exact List.mem_cons_self)⟩
  ·exact zfL (names:=r) h
theorem zcA {β:Type} {x:Str} {c:β}:∀ {l:List (Str × β)},(x,c) ∈ l->∃ c',l.lookup x = some c'
 | (n,v) :: r,h=>by
  cases e:x == n with
  | true=>exact ⟨v,by rw [List.lookup_cons,e]⟩
  | false =>
   rcases List.mem_cons.mp h with h | h
   ·cases h
    simp at e
   ·obtain ⟨c',q⟩:=zcA (l:=r) h
    exact ⟨c',by rw [List.lookup_cons,e]; exact q⟩
theorem ze9 {env:Env} {scope:Scope} (h:∀ y ∈ scope.names,y.2 = .free->(env.cells.lookup y.1).isSome = true):closureFor scope env = pure (zjz env scope.names []):=by
 have go:∀ (names:List (Str × NameKind)) (acc:List (Str × Addr)),(∀ y ∈ names,y.2 = .free->(env.cells.lookup y.1).isSome = true) ->
   (forIn names acc (fun (x:Str × NameKind) (cs:List (Str × Addr))=>(if x.2 == .free then (do let c <- cellOf env x.1; pure (ForInStep.yield ((x.1,c) :: cs))) else pure (ForInStep.yield cs):Sem (ForInStep (List (Str × Addr)))))) = (pure (zjz env names acc):Sem (List (Str × Addr))):=by
  intro names
  induction names with
  | nil=>intro acc _; rfl
  | cons y r ih =>
   intro acc hy
   obtain ⟨n,k⟩:=y
   rw [List.forIn_cons]
   by_cases hk:k == .free
   ·have hs:=hy (n,k) List.mem_cons_self (by simpa using hk)
    obtain ⟨c,hc⟩:=Option.isSome_iff_exists.mp hs
    have hc':env.cells.lookup n = some c:=hc
    simp only [hk,if_true,cellOf,hc',pure_bind,zjz,Option.getD_some]
    exact ih _ fun y hy'=>hy y (List.mem_cons_of_mem _ hy')
   ·simp only [hk,Bool.false_eq_true,if_false,pure_bind,zjz]
    exact ih _ fun y hy'=>hy y (List.mem_cons_of_mem _ hy')
 have g:=go scope.names [] h
 exact (bind_pure _).trans g
def zaQ (DN:List Str) (dsc sc:List (Str × NameKind)) (N:List Str) (caps:List (Option Nat)):Bool :=
 (caps.length == N.length) && sc.all (fun y=>y.2 != .cell && (y.2 != .free || dsc.lookup y.1 == some .cell) && (y.2 != .local || sc.lookup y.1 == some .local)) &&
 (caps.zip N).all fun p=>match p.1 with | none=>true | some i=>DN[i]? == some p.2 && dsc.lookup p.2 == some .cell && sc.lookup p.2 == some .free
theorem zeh {dsc:List (Str × NameKind)} {env:Env} {x:Str} {k:NameKind}:∀ {names:List (Str × NameKind)},(names.map fun (n,k)=>if (k == .free && env.scope.kind == .function && env.kindOf n == some .cell) then (n,.cell) else (n,k)).lookup x = some k ->
  ∃ k',names.lookup x = some k'/\(k' = k\/(k' = .free/\k = .cell))
 | [],h=>by simp at h
 | (n,k0) :: r,h=>by
  cases e:x == n with
  | true =>
   refine ⟨k0,by rw [List.lookup_cons,e],?_⟩
   rw [List.map_cons] at h
   dsimp only at h
   split at h
   ·rename_i hc
    rw [List.lookup_cons,e] at h
    have:k0 = .free:=by simp at hc; exact hc.1.1
    cases h
    exact .inr ⟨this,rfl⟩
   ·rw [List.lookup_cons,e] at h
    cases h
    exact .inl rfl
  | false =>
   rw [List.map_cons] at h
   dsimp only at h
   have h':(r.map fun (n,k)=>if (k == NameKind.free && env.scope.kind == .function && env.kindOf n == some .cell) then (n,NameKind.cell) else (n,k)).lookup x = some k:=by
    split at h <;> (rw [List.lookup_cons,e] at h; exact h)
   obtain ⟨k',q,z⟩:=zeh (dsc:=dsc) h'
   exact ⟨k',by rw [List.lookup_cons,e]; exact q,z⟩
theorem zg3 {env:Env} {x:Str} (h1:env.scope.kind = .function) (h2:env.kindOf x = some .cell):∀ {names:List (Str × NameKind)},names.lookup x = some .free ->
  (names.map fun (n,k)=>if (k == .free && env.scope.kind == .function && env.kindOf n == some .cell) then (n,.cell) else (n,k)).lookup x = some .cell
 | [],h=>by simp at h
 | (n,k0) :: r,h=>by
  rw [List.map_cons]
  cases e:x == n with
  | true =>
   rw [List.lookup_cons,e] at h
   cases h
   have en:x = n:=by simpa using e
   subst en
   dsimp only
   rw [if_pos (by rw [h1,h2]; decide),List.lookup_cons,e]
  | false =>
   rw [List.lookup_cons,e] at h
   have ih:=zg3 h1 h2 (names:=r) h
   dsimp only
   split <;> (rw [List.lookup_cons,e]; exact ih)
theorem zT {X:Cx} {dsc:Scope} {L:Nat} {scope:Scope} {N:List Str} {caps:List (Option Nat)} (hd:X.env.scope = dsc) (hc:X.env.cells = cellsFrom L dsc.names []) (hdk:dsc.kind = .function) (hk:scope.kind = .function) (h:zaQ X.N dsc.names scope.names N caps = true) :
  CompOk X scope (zjz X.env scope.names []) N caps:=by
 subst hd
 simp only [zaQ,Bool.and_eq_true,List.all_eq_true,beq_iff_eq] at h
 obtain ⟨⟨hl,hs⟩,hz⟩:=h
 have hfree:∀ y ∈ scope.names,y.2 = .free->X.env.scope.names.lookup y.1 = some .cell:=fun y hy e=>by
  have q:=(hs y hy).1.2
  rw [e] at q
  simpa using q
 have hcell:∀ y ∈ scope.names,y.2 ≠ .cell:=fun y hy e=>by
  have q:=(hs y hy).1.1
  rw [e] at q
  simp at q
 have hsome:∀ x,X.env.scope.names.lookup x = some .cell->(X.env.cells.lookup x).isSome = true:=fun x e=>by
  rw [hc]
  exact PySem.W.cellsFrom_some _ _ _ (.inl e)
 have sub:∀ x c,(zjz X.env scope.names []).lookup x = some c->X.env.cells.lookup x = some c:=fun x c e=>by
  rcases zhi (PySem.mem_of_lookup e) with q | ⟨q,ec⟩
  ·cases q
  ·obtain ⟨c',hc'⟩:=Option.isSome_iff_exists.mp (hsome x (hfree _ q rfl))
   rw [ec,hc']
   rfl
 refine ⟨ze9 fun y hy e=>hsome y.1 (hfree y hy e),sub,hk,hcell,fun y hy e=>?_,fun x hx=>?_,fun j i x h1 h2=>?_,hl⟩
 ·have q:=(hs y hy).2
  rw [e] at q
  simpa using q
 ·have fin:(x,NameKind.free) ∈ scope.names->∃ c,(zjz X.env scope.names []).lookup x = some c:=fun m=>by
   obtain ⟨c,hm⟩:=zfL (env:=X.env) (acc:=[]) m
   exact zcA hm
  rcases hx with hx | hx
  ·obtain ⟨k',q,z⟩:=zeh (dsc:=[]) hx
   rcases z with rfl | ⟨rfl,_⟩
   ·exact absurd rfl (hcell _ (PySem.mem_of_lookup q))
   ·exact fin (PySem.mem_of_lookup q)
  ·obtain ⟨k',q,z⟩:=zeh (dsc:=[]) hx
   rcases z with rfl | ⟨_,z⟩
   ·exact fin (PySem.mem_of_lookup q)
   ·cases z
 ·have hm:(some i,x) ∈ caps.zip N:=by
   have:(caps.zip N)[j]? = some (some i,x):=by rw [List.getElem?_zip_eq_some]; exact ⟨h1,h2⟩
   exact List.mem_of_getElem? this
  have q:=hz _ hm
  simp only [Bool.and_eq_true,beq_iff_eq] at q
  obtain ⟨⟨q1,q2⟩,q3⟩:=q
  obtain ⟨c,hmc⟩:=zfL (env:=X.env) (acc:=[]) (PySem.mem_of_lookup q3)
  obtain ⟨c',hc'⟩:=zcA hmc
  refine ⟨q1,.inr (.inl q2),fun z=>?_,c',hc',.inl (zg3 hdk q2 q3)⟩
  have z':X.env.scope.names.lookup x = some .local:=z
  rw [q2] at z'
  cases z'
end
section
section
variable {X:Cx}
def zrc:R2:=fun x y H Q=>∃ z n,x = .str z/\y = .int n/\z.length <= 1000/\n <= 1000/\-1000 <= n/\Q (.str (PySem.Txt.mul z n)) H
theorem zqK {z:Str} {n:Int} (h1:z.length <= 1000) (h2:n <= 1000) (h3:-1000 <= n):PySem.MulOk z n:=by
 refine ⟨by simp; omega,fun a _ b=>?_,fun a _=>?_⟩
 ·have e:(1000:Int) <= (2 ^ 63 - 1) / n:=by
   rw [Int.le_ediv_iff_mul_le (by omega)]
   have:=Int.mul_le_mul_of_nonneg_left h2 (show (0:Int) <= 1000 by decide)
   omega
  omega
 ·have e:z.length * n.toNat <= 1000 * 1000:=Nat.mul_le_mul h1 (by omega)
  unfold Builtin.Str.tooLong
  simp only [decide_eq_false_iff_not,Nat.not_lt]
  exact Nat.le_trans e (by decide)
theorem zqn:OpR X (binaryOp .Mult) zrc:=by
 intro zm s σ H x y v u Q I rx ry h
 obtain ⟨z,n,rfl,rfl,h1,h2,h3,q⟩:=h
 obtain ⟨t,rfl⟩:=rx
 obtain ⟨t',rfl⟩:=ry
 exact PySem.SB.mul (zqK h1 h2 h3) fun _ k=>⟨.str _,H,I.tok _,⟨_,rfl⟩,q⟩
def ztg:V->Option Int->Option Int->Hp->VK->Prop:=fun x lo hi H Q=>∃ z,x = .str z/\z.length <= sizeLine/\Q (.str (PySem.Txt.slice z lo hi)) H
theorem zrd:SlR X ztg:=by
 intro zm s σ H x v vl vu lo hi sl Q I rx hs pl pu h
 obtain ⟨z,rfl,hz,q⟩:=h
 obtain ⟨t,rfl⟩:=rx
 refine ⟨"str",_,F.slot_str_getitem.lookup,typeIs_str _ _ _,?_⟩
 have fin:∀ (a b:Option (Int × Tok)),a.map (·.1) = lo->b.map (·.1) = hi->s.heap.IsSlice sl a b none->wpAny (model X.prog X.w) X.A (getItem (.str z t) (.ref sl)) (EP X zm σ Q) X.xe s:=fun a b e1 e2 hsl=>by
  subst e1 e2
  exact wpAny_getItem_str_slice (l:=a) (u:=b) (st:=none) hsl rfl (post_val_or_str ⟨Nat.le_trans (PySem.Txt.slice_le z _ _) hz,fun _ k=>⟨.str _,H,I.tok _,⟨_,rfl⟩,q⟩⟩)
 cases pl with
 | none =>
  cases pu with
  | none=>exact fin none none rfl rfl hs
  | int j tj=>exact fin none (some (j,tj)) rfl rfl hs
 | int i ti =>
  cases pu with
  | none=>exact fin (some (i,ti)) none rfl rfl hs
  | int j tj=>exact fin (some (i,ti)) (some (j,tj)) rfl rfl hs
theorem zg5:∀ {zs:List Str} {us:List Value},Vals (zs.map V.str) us->StrsAre us zs
 | [],_,.nil=>.nil
 | z :: zs,_,.cons r t=>by
  obtain ⟨tk,rfl⟩:=r
  exact .cons z tk (zg5 t)
def zrz (K:W.Frag):V->List V->Hp->VK->Prop:=fun x vs H Q=>∃ z a zs,x = .str z/\vs = [.ref a]/\SqL K H a (zs.map V.str)/\z.length <= 16/\zs.length <= 1000/\(∀ y ∈ zs,y.length <= 1000)/\Q (.str (PySem.Txt.join z zs)) H
theorem ziO {zs:List Str} (h:∀ y ∈ zs,y.length <= 1000):(zs.map (·.length)).sum <= zs.length * 1000:=by
 induction zs with
 | nil=>simp
 | cons z zs ih =>
  have h1:=h z List.mem_cons_self
  have h2:=ih fun y hy=>h y (List.mem_cons_of_mem _ hy)
  simp only [List.map_cons,List.sum_cons,List.length_cons,Nat.add_mul,Nat.one_mul]
  omega
theorem zqj:MtR X "str.join" (zrz X.K):=by
 intro zm s σ H x vs v us Q I rx rv h
 obtain ⟨z,a,zs,rfl,rfl,hq,hz,hn,hl,q⟩:=h
 obtain ⟨t,rfl⟩:=rx
 obtain ⟨u,rfl,r1⟩:=rv.one
 cases r1
 obtain ⟨its,r,pl,hsz⟩:=I.list hq
 have hs:=ziO hl
 refine join_listW pl.isList (by simpa using zg5 r) hz (by omega) fun _ k=>⟨.str _,H,I.tok _,⟨_,rfl⟩,q⟩
end
section
variable {K:W.Frag} {o:List Addr} {σ:St} {H0:Hp} {t:TE} {ta:TA} {ds:List PyData}
def zfI (lo:Int) (n:Nat):List PyData:=(List.range n).map fun k:Nat=>.int (lo + k)
theorem zaj {lo:Int} {n:Nat}:(zfI lo n).length = n:=by simp [zfI]
theorem zcV {lo:Int} {n i:Nat} {d:PyData} (h:(zfI lo n)[i]? = some d):i < n/\d = .int (lo + i):=by
 have hi:i < n:=by
  have:=List.getElem?_eq_some_iff.mp h
  obtain ⟨hl,_⟩:=this
  rwa [zaj] at hl
 refine ⟨hi,?_⟩
 simp only [zfI,List.getElem?_map,List.getElem?_range hi,Option.map_some,Option.some.injEq] at h
 exact h.symm
end
theorem znR {y:Str} {zs:List Str} (hy:y.length <= 16) (hz:∀ z ∈ zs,z.length <= 1000):(PySem.Txt.join y zs).length <= zs.length * 1016:=by
 show (Builtin.Str.glued y zs).length <= _
 rw [StrLaws.glued_eq_join]
 cases zs with
 | nil=>exact Nat.zero_le _
 | cons a r =>
  rw [len_join_cons]
  have h1:=ziO hz
  have h2:r.length * y.length <= r.length * 16:=Nat.mul_le_mul_left _ hy
  simp only [List.length_cons] at h1 ⊢
  omega
def zef {α:Type} (xs:List α) (lo hi:Option Int):List α:=(xs.drop (HT.sIx xs.length 0 lo)).take (HT.sIx xs.length xs.length hi - HT.sIx xs.length 0 lo)
theorem HasL.drop {H:Hp}:∀ {ds:List PyData} {vs:List V} (n:Nat),HasL H ds vs->HasL H (ds.drop n) (vs.drop n)
 | ds,vs,0,h=>h
 | [],vs,n + 1,h=>by rw [zR.mp h]; exact zR.mpr rfl
 | d :: ds,vs,n + 1,h=>by
  obtain ⟨v,r,rfl,_,l⟩:=zH.mp h
  exact HasL.drop n l
theorem HasL.take {H:Hp}:∀ {ds:List PyData} {vs:List V} (n:Nat),HasL H ds vs->HasL H (ds.take n) (vs.take n)
 | ds,vs,0,h=>zR.mpr rfl
 | [],vs,n + 1,h=>by rw [zR.mp h]; exact zR.mpr rfl
 | d :: ds,vs,n + 1,h=>by
  obtain ⟨v,r,rfl,q,l⟩:=zH.mp h
  exact zH.mpr ⟨v,_,rfl,q,HasL.take n l⟩
theorem HasL.cut {H:Hp} {ds:List PyData} {vs:List V} (lo hi:Option Int) (h:HasL H ds vs):HasL H (zef ds lo hi) (zjC vs lo hi):=by
 unfold zef zjC
 rw [h.length]
 exact (h.drop _).take _
theorem HasL.rev {H:Hp}:∀ {ds:List PyData} {vs:List V},HasL H ds vs->HasL H ds.reverse vs.reverse
 | [],vs,h=>by rw [zR.mp h]; exact zR.mpr rfl
 | d :: ds,vs,h=>by
  obtain ⟨v,r,rfl,q,l⟩:=zH.mp h
  rw [List.reverse_cons,List.reverse_cons]
  exact (HasL.rev l).append (zH.mpr ⟨v,[],rfl,q,zR.mpr rfl⟩)
end
section
theorem zoZ:∀ {l:List Addr} {H:Hp} {b:Addr} {u:HO},vw l H b = some u ↔ b ∉ l/\H b = some u
 | [],H,b,u=>by simp [vw]
 | a :: r,H,b,u=>by
  show hid a (vw r H) b = some u ↔ _
  by_cases h:b = a
  ·subst h; simp [znl]
  ·rw [zq1 h,zoZ]; simp [h]
def vx (h o:List Addr) (H:Hp):Hp:=vw (h ++ o) H
theorem zah {h o:List Addr} {H:Hp} {b:Addr} {u:HO}:vx h o H b = some u ↔ b ∉ h/\b ∉ o/\H b = some u:=by
 unfold vx
 rw [zoZ]
 simp [and_assoc]
theorem zaE {h o:List Addr} {H:Hp}:Same (vx h o H) H:=fun b u e=>(zah.mp e).2.2
theorem zfj {h o:List Addr} {H H':Hp} (s:Same H H'):Same (vx h o H) (vx h o H'):=fun b u e=>by
 obtain ⟨h1,h2,h3⟩:=zah.mp e
 exact zah.mpr ⟨h1,h2,s b u h3⟩
structure Ex (o:List Addr) (H:Hp) (o':List Addr) (H':Hp):Prop where
 pre:∃ r,o' = o ++ r
 kp:∀ b u,b ∉ o->H b = some u->b ∉ o'/\H' b = some u
section
variable {h o o' o'':List Addr} {H H' H'':Hp} {S:List (List PyData)} {p a:Addr}
theorem Ex.refl:Ex o H o H:=⟨⟨[],by simp⟩,fun _ _ a b=>⟨a,b⟩⟩
theorem Ex.trans (a:Ex o H o' H') (b:Ex o' H' o'' H''):Ex o H o'' H'':=by
 obtain ⟨⟨r,e⟩,ka⟩:=a
 obtain ⟨⟨t,e'⟩,kb⟩:=b
 refine ⟨⟨r ++ t,by rw [e',e,List.append_assoc]⟩,fun b u h1 h2=>?_⟩
 obtain ⟨h3,h4⟩:=ka b u h1 h2
 exact kb b u h3 h4
theorem Ex.vx (e:Ex o H o' H'):Same (L2.vx h o H) (L2.vx h o' H'):=fun b u q=>by
 obtain ⟨h1,h2,h3⟩:=zah.mp q
 obtain ⟨h4,h5⟩:=e.kp b u h2 h3
 exact zah.mpr ⟨h1,h4,h5⟩
structure ExH (h o:List Addr) (H:Hp) (o':List Addr) (H':Hp):Prop where
 pre:∃ r,o' = o ++ r
 kp:∀ b u,b ∉ h->b ∉ o->H b = some u->b ∉ o'/\H' b = some u
theorem Ex.hid (e:Ex o H o' H'):ExH h o H o' H':=⟨e.pre,fun b u _=>e.kp b u⟩
theorem ExH.refl:ExH h o H o H:=Ex.refl.hid
theorem ExH.trans (a:ExH h o H o' H') (b:ExH h o' H' o'' H''):ExH h o H o'' H'':=by
 obtain ⟨⟨r,e⟩,ka⟩:=a
 obtain ⟨⟨t,e'⟩,kb⟩:=b
 refine ⟨⟨r ++ t,by rw [e',e,List.append_assoc]⟩,fun b u h0 h1 h2=>?_⟩
 obtain ⟨h3,h4⟩:=ka b u h0 h1 h2
 exact kb b u h0 h3 h4
theorem ExH.vx (e:ExH h o H o' H'):Same (L2.vx h o H) (L2.vx h o' H'):=fun b u q=>by
 obtain ⟨h1,h2,h3⟩:=zah.mp q
 obtain ⟨h4,h5⟩:=e.kp b u h1 h2 h3
 exact zah.mpr ⟨h1,h4,h5⟩
theorem Ex.of_same (s:Same H H'):Ex o H o H':=⟨⟨[],by simp⟩,fun b u h e=>⟨h,s b u e⟩⟩
theorem zd4 {α:Type} {l t:List α} {k:Nat} {a:α} (q:l[k]? = some a):(l ++ t)[k]? = some a:=by
 obtain ⟨hk,_⟩:=List.getElem?_eq_some_iff.mp q
 rw [List.getElem?_append_left hk]
 exact q
def exO (a C:Addr) (d:Option Addr):HO:=.ext fun h=>∃ o,h.get? a = some o/\o.cls = .ref C/\o.dict = d/\∃ vs,o.data = .fields vs
def xw (dx:Addr) (fs:List (Str × V)):HO:=.ext fun h=>∃ mA,h.Ns1 dx mA/\(∀ f,RelO (fs.lookup f) (mA f))/\PySem.Within mA (fs.map (·.1))
def HasE (H:Hp) (C:Addr) (fs:List (Str × PyData)) (v:V):Prop:=∃ a d,v = .ref a/\H a = some (exO a C d)/\∀ f dt,fs.lookup f = some dt->∃ dx vs u,d = some dx/\H dx = some (xw dx vs)/\vs.lookup f = some u/\Has H dt u
theorem HasE.mono {H H':Hp} {C:Addr} {fs:List (Str × PyData)} {v:V} (s:Same H H') (q:HasE H C fs v):HasE H' C fs v:=by
 obtain ⟨a,d,e,ha,hf⟩:=q
 refine ⟨a,d,e,s _ _ ha,fun f dt l=>?_⟩
 obtain ⟨dx,vs,u,e1,e2,e3,e4⟩:=hf f dt l
 exact ⟨dx,vs,u,e1,s _ _ e2,e3,Has.mono s _ _ e4⟩
inductive XV where
 | d (d:PyData)
 | l (k:Nat)
 | o (v:V)
 | x (C:Addr) (fs:List (Str × PyData))
def HasX (h o:List Addr) (H:Hp):XV->V->Prop
 | .d d,v=>Has (vx h o H) d v
 | .l k,v=>∃ a,o[k]? = some a/\v = .ref a
 | .o w,v=>v = w
 | .x C fs,v=>HasE (vx h o H) C fs v
theorem HasX.mono (e:Ex o H o' H'):∀ {x:XV} {v:V},HasX h o H x v->HasX h o' H' x v
 | .d d,v,q=>Has.mono e.vx d v q
 | .l k,v,⟨a,q,r⟩=>by
  obtain ⟨t,rfl⟩:=e.pre
  exact ⟨a,zd4 q,r⟩
 | .o w,v,q=>q
 | .x C fs,v,q=>HasE.mono e.vx q
def HasXs (h o:List Addr) (H:Hp):List XV->List V->Prop
 | [],vs=>vs = []
 | x :: xs,vs=>∃ v r,vs = v :: r/\HasX h o H x v/\HasXs h o H xs r
theorem HasXs.mono (e:Ex o H o' H'):∀ {xs:List XV} {vs:List V},HasXs h o H xs vs->HasXs h o' H' xs vs
 | [],_,q=>q
 | x :: xs,vs,⟨v,r,e1,q,l⟩=>⟨v,r,e1,q.mono e,HasXs.mono e l⟩
abbrev Sto:=List (List PyData)
inductive MO where
 | l (vs:List V)
 | k (m:List (Key × V))
 | t (m:List (List Key × V))
def MO.ho:MO->HO
 | .l vs=>.lst vs
 | .k m=>.dK m
 | .t m=>.dT m
structure RepS (h o:List Addr) (H:Hp) (S:Sto):Prop where
 len:S.length = o.length
 nd:o.Nodup
 dis:∀ a ∈ o,a ∉ h
 hal:∀ b ∈ h,∃ u:MO,H b = some u.ho
 cont:∀ (k:Nat) (a:Addr) (ds:List PyData),o[k]? = some a->S[k]? = some ds->∃ vs,H a = some (.lst vs)/\HasL (vx h o H) ds vs
theorem znM {α β:Type} {l:List α} {t:List β} {k:Nat} {a:α} (hl:t.length = l.length) (q:l[k]? = some a):∃ b,t[k]? = some b:=by
 obtain ⟨hk,_⟩:=List.getElem?_eq_some_iff.mp q
 exact ⟨t[k]'(by omega),List.getElem?_eq_getElem _⟩
theorem RepS.oal (r:RepS h o H S):∀ a ∈ o,∃ u,H a = some (.lst u):=fun a ha=>by
 obtain ⟨k,hk⟩:=List.mem_iff_getElem?.mp ha
 obtain ⟨ds,e⟩:=znM r.len hk
 obtain ⟨vs,e',_⟩:=r.cont k a ds hk e
 exact ⟨_,e'⟩
theorem RepS.oam (r:RepS h o H S):∀ a ∈ o,∃ u:MO,H a = some u.ho:=fun a ha=>let ⟨u,e⟩:=r.oal a ha; ⟨.l u,e⟩
theorem RepS.fresh (r:RepS h o H S) (hp:H p = none):p ∉ h/\p ∉ o:=by
 constructor
 ·intro m
  obtain ⟨u,e⟩:=r.hal p m
  rw [hp] at e
  cases e
 ·intro m
  obtain ⟨u,e⟩:=r.oal p m
  rw [hp] at e
  cases e
theorem RepS.same (r:RepS h o H S) (s:Same H H'):RepS h o H' S where
 len:=r.len
 nd:=r.nd
 dis:=r.dis
 hal:=fun b m=>by obtain ⟨u,e⟩:=r.hal b m; exact ⟨u,s b _ e⟩
 cont:=fun k a ds e1 e2=>by
  obtain ⟨vs,e3,l⟩:=r.cont k a ds e1 e2
  exact ⟨vs,s _ _ e3,HasL.mono (zfj s) _ _ l⟩
theorem RepS.laid {u:HO} (r:RepS h o H S) (hp:H p = none):vx h o (upd H p u) p = some u:=by
 obtain ⟨h1,h2⟩:=r.fresh hp
 exact zah.mpr ⟨h1,h2,zav⟩
theorem Ex.new {u:HO} (r:RepS h o H S) (hp:H p = none):Ex o H (o ++ [p]) (upd H p u):=by
 refine ⟨⟨[p],rfl⟩,fun b w hb e=>?_⟩
 have ne:b ≠ p:=zO e hp
 exact ⟨by simp [hb,ne],by rw [zS ne]; exact e⟩
theorem zdt {α:Type} {l:List α} {a:α} (h:l.Nodup) (n:a ∉ l):(l ++ [a]).Nodup:=by
 rw [List.nodup_append]
 refine ⟨h,by simp,fun x hx y hy e=>?_⟩
 rw [List.mem_singleton] at hy
 subst hy
 subst e
 exact n hx
theorem RepS.new {ds:List PyData} {vs:List V} (r:RepS h o H S) (hp:H p = none) (l:HasL (vx h o H) ds vs):RepS h (o ++ [p]) (upd H p (.lst vs)) (S ++ [ds]):=by
 obtain ⟨h1,h2⟩:=r.fresh hp
 have ex:Ex o H (o ++ [p]) (upd H p (.lst vs)):=Ex.new r hp
 refine ⟨by simp [r.len],zdt r.nd h2,fun a ha=>?_,fun b hb=>?_,fun k a es e1 e2=>?_⟩
 ·rcases List.mem_append.mp ha with ha | ha
  ·exact r.dis a ha
  ·rw [List.mem_singleton.mp ha]; exact h1
 ·obtain ⟨u,e⟩:=r.hal b hb
  exact ⟨u,by rw [zS (zO e hp)]; exact e⟩
 ·by_cases hk:k < o.length
  ·rw [List.getElem?_append_left hk] at e1
   rw [List.getElem?_append_left (by rw [r.len]; exact hk)] at e2
   obtain ⟨ws,e3,l3⟩:=r.cont k a es e1 e2
   refine ⟨ws,?_,l3.mono ex.vx⟩
   rw [zS (zO e3 hp)]
   exact e3
  ·have hk':k = o.length:=by
    obtain ⟨q,_⟩:=List.getElem?_eq_some_iff.mp e1
    rw [List.length_append,List.length_singleton] at q
    omega
   subst hk'
   rw [List.getElem?_concat_length] at e1
   rw [<- r.len,List.getElem?_concat_length] at e2
   cases e1
   cases e2
   exact ⟨vs,zav,l.mono ex.vx⟩
theorem Ex.upd {k:Nat} {u:HO} (e:o[k]? = some a):Ex o H o (L2.upd H a u) :=
 ⟨⟨[],by simp⟩,fun b w hb eb=>⟨hb,by rw [zS (fun z=>hb (by rw [z]; exact List.mem_of_getElem? e))]; exact eb⟩⟩
theorem ze3 {l:List Addr} (h:l.Nodup) {i j:Nat} {a:Addr} (e1:l[i]? = some a) (e2:l[j]? = some a):i = j:=by
 obtain ⟨hi,e1⟩:=List.getElem?_eq_some_iff.mp e1
 obtain ⟨hj,e2⟩:=List.getElem?_eq_some_iff.mp e2
 exact (List.getElem_inj h).mp (e1.trans e2.symm)
theorem RepS.upd {k:Nat} {ds:List PyData} {vs:List V} (r:RepS h o H S) (e:o[k]? = some a) (l:HasL (vx h o H) ds vs):RepS h o (L2.upd H a (.lst vs)) (S.set k ds):=by
 have ex:Ex o H o (L2.upd H a (.lst vs)):=Ex.upd e
 refine ⟨by simp [r.len],r.nd,r.dis,fun b hb=>?_,fun j b es e1 e2=>?_⟩
 ·obtain ⟨u,eb⟩:=r.hal b hb
  have ne:b ≠ a:=fun z=>r.dis a (List.mem_of_getElem? e) (z ▸ hb)
  exact ⟨u,by rw [zS ne]; exact eb⟩
 ·by_cases hj:j = k
  ·subst hj
   rw [e1] at e
   cases e
   obtain ⟨hk,_⟩:=List.getElem?_eq_some_iff.mp e1
   rw [List.getElem?_set_self (by rw [r.len]; exact hk)] at e2
   cases e2
   exact ⟨vs,zav,l.mono ex.vx⟩
  ·rw [List.getElem?_set_ne (Ne.symm hj)] at e2
   obtain ⟨ws,e3,l3⟩:=r.cont j b es e1 e2
   have ne:b ≠ a:=fun z=>hj (ze3 r.nd e1 (z ▸ e))
   exact ⟨ws,by rw [zS ne]; exact e3,l3.mono ex.vx⟩
abbrev XE:=List (Option XV)
structure RepE (h o:List Addr) (H:Hp) (δ:XE) (σ:St):Prop where
 len:δ.length = σ.length
 get:∀ (i:Nat) x,δ[i]? = some (some x)->∃ v,σ[i]? = some (some v)/\HasX h o H x v
variable {δ:XE} {σ:St}
theorem RepE.mono (r:RepE h o H δ σ) (e:Ex o H o' H'):RepE h o' H' δ σ:=⟨r.len,fun i x q=>by
 obtain ⟨v,e1,e2⟩:=r.get i x q
 exact ⟨v,e1,e2.mono e⟩⟩
theorem RepE.set {i:Nat} {x:XV} {v:V} (r:RepE h o H δ σ) (q:HasX h o H x v):RepE h o H (δ.set i (some x)) (σ.set i (some v)):=by
 refine ⟨by simp [r.len],fun j y e=>?_⟩
 rw [List.getElem?_set] at e ⊢
 by_cases hij:i = j
 ·rw [if_pos hij] at e ⊢
  by_cases hl:i < δ.length
  ·rw [if_pos hl] at e
   rw [if_pos (by rw [<- r.len]; exact hl)]
   cases e
   exact ⟨v,rfl,q⟩
  ·rw [if_neg hl] at e
   cases e
 ·rw [if_neg hij] at e ⊢
  exact r.get j y e
def znS (caps:List (Option Nat)) (δ:XE):XE:=caps.map fun o=>o.bind fun i=>(δ[i]?).join
theorem RepE.tau {caps:List (Option Nat)} (r:RepE h o H δ σ):RepE h o H (znS caps δ) (L2.tau caps σ):=by
 refine ⟨by simp [znS,L2.tau],fun i x e=>?_⟩
 unfold znS at e
 unfold L2.tau
 rw [List.getElem?_map] at e ⊢
 cases hc:caps[i]? with
 | none=>rw [hc] at e; cases e
 | some c =>
  rw [hc] at e
  cases c with
  | none=>cases e
  | some j =>
   have e':(δ[j]?).join = some x:=by simpa using e
   have e2:δ[j]? = some (some x):=by
    cases hd:δ[j]? with
    | none=>rw [hd] at e'; cases e'
    | some y=>rw [hd] at e'; exact congrArg some (by simpa using e')
   obtain ⟨v,e3,e4⟩:=r.get j x e2
   exact ⟨v,by simp [e3],e4⟩
end
abbrev RX:=XV->Sto->Prop
abbrev DE:=XE->Sto->RX->Prop
abbrev DT:=XE->Sto->(Bool->Sto->Prop)->Prop
abbrev DA:=XE->Sto->(List XV->Sto->Prop)->Prop
abbrev D2:=XV->XV->Sto->RX->Prop
def Cn (h o:List Addr) (H:Hp) (R:RX) (Q:VK):Prop:=∀ o' H' S' x v,Ex o H o' H'->RepS h o' H' S'->HasX h o' H' x v->R x S'->Q v H'
theorem Cn.pre {h o o':List Addr} {H H':Hp} {R:RX} {Q:VK} (c:Cn h o H R Q) (e:Ex o H o' H'):Cn h o' H' R Q:=fun o2 H2 S2 x v e2=>c o2 H2 S2 x v (e.trans e2)
def RE (t:TE) (dt:DE):Prop:=∀ (h o:List Addr) (H:Hp) (δ:XE) (σ:St) (S:Sto) (R:RX) (Q:VK),RepE h o H δ σ->RepS h o H S->dt δ S R->Cn h o H R Q->t σ H Q
def RT (t:TT) (dt:DT):Prop:=∀ (h o:List Addr) (H:Hp) (δ:XE) (σ:St) (S:Sto) (R:Bool->Sto->Prop) (Q:Bool->Hp->Prop),RepE h o H δ σ->RepS h o H S->dt δ S R ->
 (∀ o' H' S' b,Ex o H o' H'->RepS h o' H' S'->R b S'->Q b H')->t σ H Q
def RA (t:TA) (dt:DA):Prop:=∀ (h o:List Addr) (H:Hp) (δ:XE) (σ:St) (S:Sto) (R:List XV->Sto->Prop) (Q:List V->Hp->Prop),RepE h o H δ σ->RepS h o H S->dt δ S R ->
 (∀ o' H' S' xs vs,Ex o H o' H'->RepS h o' H' S'->HasXs h o' H' xs vs->R xs S'->Q vs H')->t σ H Q
def RO (r:R2) (rd:D2):Prop:=∀ (h o:List Addr) (H:Hp) (S:Sto) (x y:XV) (v u:V) (R:RX) (Q:VK),RepS h o H S->HasX h o H x v->HasX h o H y u->rd x y S R->Cn h o H R Q->r v u H Q
def RU (r:V->Hp->VK->Prop) (rd:XV->Sto->RX->Prop):Prop:=∀ (h o:List Addr) (H:Hp) (S:Sto) (x:XV) (v:V) (R:RX) (Q:VK),RepS h o H S->HasX h o H x v->rd x S R->Cn h o H R Q->r v H Q
def RC (r:List V->Hp->VK->Prop) (rd:List XV->Sto->RX->Prop):Prop:=∀ (h o:List Addr) (H:Hp) (S:Sto) (xs:List XV) (vs:List V) (R:RX) (Q:VK),RepS h o H S->HasXs h o H xs vs->rd xs S R->Cn h o H R Q->r vs H Q
def asI:XV->(Int->Prop)->Prop
 | .d (.int i),k=>k i
 | _,_=>False
def asB:XV->(Bool->Prop)->Prop
 | .d (.bool i),k=>k i
 | _,_=>False
def asS:XV->(Str->Prop)->Prop
 | .d (.str i),k=>k i
 | _,_=>False
def asT:XV->(List PyData->Prop)->Prop
 | .d (.tuple i),k=>k i
 | _,_=>False
def zkR (S:Sto):XV->Option (List PyData)
 | .d (.list ds)=>some ds
 | .l k=>S[k]?
 | _=>none
def asL (S:Sto) (x:XV) (k:List PyData->Prop):Prop:=∃ ds,zkR S x = some ds/\k ds
def zd2 (S:Sto):XV->Option PyData
 | .d d=>some d
 | .l k=>(S[k]?).map .list
 | .o _=>none
 | .x _ _=>none
def asD (x:XV) (k:PyData->Prop):Prop:=match x with
 | .d d=>k d
 | _=>False
theorem zbB {x:XV} {k:Int->Prop} (h:asI x k):∃ i,x = .d (.int i)/\k i:=by
 unfold asI at h
 split at h
 ·exact ⟨_,rfl,h⟩
 ·exact h.elim
theorem zgg {x:XV} {k:Bool->Prop} (h:asB x k):∃ i,x = .d (.bool i)/\k i:=by
 unfold asB at h
 split at h
 ·exact ⟨_,rfl,h⟩
 ·exact h.elim
theorem zmr {x:XV} {k:Str->Prop} (h:asS x k):∃ i,x = .d (.str i)/\k i:=by
 unfold asS at h
 split at h
 ·exact ⟨_,rfl,h⟩
 ·exact h.elim
theorem zha {x:XV} {k:List PyData->Prop} (h:asT x k):∃ i,x = .d (.tuple i)/\k i:=by
 unfold asT at h
 split at h
 ·exact ⟨_,rfl,h⟩
 ·exact h.elim
theorem ze5 {x:XV} {k:PyData->Prop} (h:asD x k):∃ i,x = .d i/\k i:=by
 unfold asD at h
 split at h
 ·exact ⟨_,rfl,h⟩
 ·exact h.elim
section
variable {h o:List Addr} {H:Hp} {S:Sto} {x:XV} {v:V} {i:Int} {b:Bool} {z:Str} {ds:List PyData} {d:PyData}
theorem zbA (q:HasX h o H (.d (.int i)) v):v = .int i:=(zbX (H:=vx h o H)).mp q
theorem zdM (q:HasX h o H (.d (.bool b)) v):v = .bl b:=(zc6 (H:=vx h o H)).mp q
theorem zea (q:HasX h o H (.d (.str z)) v):v = .str z:=(zdu (H:=vx h o H)).mp q
theorem zey (q:HasX h o H (.d (.tuple ds)) v):∃ a vs,v = .ref a/\H a = some (.tup vs)/\HasL (vx h o H) ds vs:=by
 obtain ⟨a,vs,e,q,l⟩:=zaJ.mp (show Has _ _ _ from q)
 exact ⟨a,vs,e,zaE _ _ q,l⟩
theorem zbp (r:RepS h o H S) (e:zkR S x = some ds) (q:HasX h o H x v):∃ a vs,v = .ref a/\H a = some (.lst vs)/\HasL (vx h o H) ds vs:=by
 unfold zkR at e
 split at e
 ·cases e
  obtain ⟨a,vs,e,q,l⟩:=zba.mp (show Has _ _ _ from q)
  exact ⟨a,vs,e,zaE _ _ q,l⟩
 ·obtain ⟨a,e1,rfl⟩:=q
  obtain ⟨vs,e2,l⟩:=r.cont _ a ds e1 e
  exact ⟨a,vs,rfl,e2,l⟩
 ·cases e
theorem zcN (r:RepS h o H S) (e:zd2 S x = some d) (q:HasX h o H x v):Has H d v:=by
 unfold zd2 at e
 split at e
 ·cases e
  exact Has.mono zaE _ _ q
 ·rename_i k
  obtain ⟨a,e1,rfl⟩:=q
  cases hs:S[k]? with
  | none=>rw [hs] at e; cases e
  | some es =>
   rw [hs] at e
   cases e
   obtain ⟨vs,e2,l⟩:=r.cont k a es e1 hs
   exact zba.mpr ⟨a,vs,rfl,e2,HasL.mono zaE _ _ l⟩
 ·cases e
 ·cases e
theorem xI (i:Int):HasX h o H (.d (.int i)) (.int i):=(zbX (H:=vx h o H)).mpr rfl
theorem xB (i:Bool):HasX h o H (.d (.bool i)) (.bl i):=(zc6 (H:=vx h o H)).mpr rfl
theorem xS (i:Str):HasX h o H (.d (.str i)) (.str i):=(zdu (H:=vx h o H)).mpr rfl
theorem xN:HasX h o H (.d .none) .non:=(zdw (H:=vx h o H)).mpr rfl
theorem zmI {vs:List V} {R:RX} {Q:VK} (r:RepS h o H S) (l:HasL (vx h o H) ds vs) (c:Cn h o H R Q) (q:R (.d (.tuple ds)) S):∀ p,H p = none->Q (.ref p) (upd H p (.tup vs)):=fun p hp =>
 c o _ S (.d (.tuple ds)) _ (Ex.of_same (Same.laid hp)) (r.same (Same.laid hp)) (zaJ.mpr ⟨p,vs,rfl,r.laid hp,l.mono (zfj (Same.laid hp))⟩) q
theorem zlU {vs:List V} {R:RX} {Q:VK} (r:RepS h o H S) (l:HasL (vx h o H) ds vs) (c:Cn h o H R Q) (q:R (.d (.list ds)) S):∀ p,H p = none->Q (.ref p) (upd H p (.lst vs)):=fun p hp =>
 c o _ S (.d (.list ds)) _ (Ex.of_same (Same.laid hp)) (r.same (Same.laid hp)) (zba.mpr ⟨p,vs,rfl,r.laid hp,l.mono (zfj (Same.laid hp))⟩) q
theorem zpa {vs:List V} {R:RX} {Q:VK} (r:RepS h o H S) (l:HasL (vx h o H) ds vs) (c:Cn h o H R Q) (q:R (.l S.length) (S ++ [ds])):∀ p,H p = none->Q (.ref p) (upd H p (.lst vs)):=fun p hp =>
 c (o ++ [p]) _ (S ++ [ds]) (.l S.length) _ (Ex.new r hp) (r.new hp l) ⟨p,by rw [r.len,List.getElem?_concat_length],rfl⟩ q
theorem zfQ:∀ {xs:List XV} {vs:List V} {ds:List PyData},HasXs h o H xs vs->xs = ds.map XV.d->HasL (vx h o H) ds vs
 | [],vs,[],q,_=>zR.mpr q
 | x :: xs,vs,d :: ds,⟨v,r,e,q,l⟩,e2=>by
  rw [List.map_cons] at e2
  cases e2
  exact zH.mpr ⟨v,r,e,q,zfQ l rfl⟩
 | x :: xs,vs,[],_,e2=>by cases e2
 | [],vs,d :: ds,_,e2=>by cases e2
end
def datas:List XV->Option (List PyData)
 | []=>some []
 | .d d :: r=>(datas r).map (d :: ·)
 | _ :: _=>none
theorem zdH:∀ {xs:List XV} {ds:List PyData},datas xs = some ds->xs = ds.map XV.d
 | [],ds,e=>by cases e; rfl
 | .d d :: r,ds,e=>by
  unfold datas at e
  cases hr:datas r with
  | none=>rw [hr] at e; cases e
  | some es =>
   rw [hr] at e
   cases e
   rw [zdH hr]
   rfl
 | .l _ :: _,_,e=>by cases e
 | .o _ :: _,_,e=>by cases e
 | .x _ _ :: _,_,e=>by cases e
def zp (i:Nat):DE:=fun δ S R=>∃ x,δ[i]? = some (some x)/\R x S
def dC (d:PyData):DE:=fun _ S R=>R (.d d) S
def dO (v:V):DE:=fun _ S R=>R (.o v) S
def dOp (rd:D2) (a b:DE):DE:=fun δ S R=>a δ S fun x S1=>b δ S1 fun y S2=>rd x y S2 R
def dUn (rd:XV->Sto->RX->Prop) (a:DE):DE:=fun δ S R=>a δ S fun x S1=>rd x S1 R
def zy:DA:=fun _ S R=>R [] S
def ze (a:DE) (b:DA):DA:=fun δ S R=>a δ S fun x S1=>b δ S1 fun xs S2=>R (x :: xs) S2
def dCB (rd:List XV->Sto->RX->Prop) (a:DA):DE:=fun δ S R=>a δ S fun xs S1=>rd xs S1 R
def zdz (a:DA):DE:=fun δ S R=>a δ S fun xs S1=>∃ ds,datas xs = some ds/\ds.length <= 1000/\R (.d (.tuple ds)) S1
def zgy (a:DA):DE:=fun δ S R=>a δ S fun xs S1=>∃ ds,datas xs = some ds/\ds.length <= 1000/\R (.d (.list ds)) S1
def zd8 (a:DA):DE:=fun δ S R=>a δ S fun xs S1=>∃ ds,datas xs = some ds/\ds.length <= 1000/\R (.l S1.length) (S1 ++ [ds])
section
variable {t ta tb tc:TE} {da db dc:DE} {tl:TA} {dl:DA} {tt tu:TT} {dt du:DT}
theorem zd {i:Nat}:RE (zmR i) (zp i):=fun h o H δ σ S R Q he hs ⟨x,e,q⟩ c=>by
 obtain ⟨v,e1,e2⟩:=he.get i x e
 exact ⟨v,e1,c o H S x v Ex.refl hs e2 q⟩
theorem zi {i:Int}:RE (tC (.int i)) (dC (.int i)):=fun h o H δ σ S R Q he hs q c=>c o H S _ _ Ex.refl hs (xI i) q
theorem zfp {i:Bool}:RE (tC (.bl i)) (dC (.bool i)):=fun h o H δ σ S R Q he hs q c=>c o H S _ _ Ex.refl hs (xB i) q
theorem zez {i:Str}:RE (tC (.str i)) (dC (.str i)):=fun h o H δ σ S R Q he hs q c=>c o H S _ _ Ex.refl hs (xS i) q
theorem zn8:RE (tC .non) (dC .none):=fun h o H δ σ S R Q he hs q c=>c o H S _ _ Ex.refl hs xN q
theorem zsn {v:V}:RE (tC v) (dO v):=fun h o H δ σ S R Q he hs q c=>c o H S (.o v) v Ex.refl hs rfl q
theorem zq {r:R2} {rd:D2} (hr:RO r rd) (ha:RE ta da) (hb:RE tb db):RE (tOp r ta tb) (dOp rd da db):=fun h o H δ σ S R Q he hs q c =>
 ha h o H δ σ S _ _ he hs q fun o1 H1 S1 x v e1 s1 x1 d1=>hb h o1 H1 δ σ S1 _ _ (he.mono e1) s1 d1 fun o2 H2 S2 y u e2 s2 y2 d2 =>
  hr h o2 H2 S2 x y v u R Q s2 (x1.mono e2) y2 d2 (c.pre (e1.trans e2))
theorem zgk {r:V->Hp->VK->Prop} {rd:XV->Sto->RX->Prop} (hr:RU r rd) (ha:RE ta da):RE (tUn r ta) (dUn rd da):=fun h o H δ σ S R Q he hs q c =>
 ha h o H δ σ S _ _ he hs q fun o1 H1 S1 x v e1 s1 x1 d1=>hr h o1 H1 S1 x v R Q s1 x1 d1 (c.pre e1)
theorem zg:RA zqp zy:=fun h o H δ σ S R Q he hs q c=>c o H S [] [] Ex.refl hs rfl q
theorem za (ha:RE ta da) (hb:RA tl dl):RA (zjm ta tl) (ze da dl):=fun h o H δ σ S R Q he hs q c =>
 ha h o H δ σ S _ _ he hs q fun o1 H1 S1 x v e1 s1 x1 d1=>hb h o1 H1 δ σ S1 _ _ (he.mono e1) s1 d1 fun o2 H2 S2 xs vs e2 s2 x2 d2 =>
  c o2 H2 S2 (x :: xs) (v :: vs) (e1.trans e2) s2 ⟨v,vs,rfl,x1.mono e2,x2⟩ d2
theorem zam {r:List V->Hp->VK->Prop} {rd:List XV->Sto->RX->Prop} (hr:RC r rd) (ha:RA tl dl):RE (tCB r tl) (dCB rd dl):=fun h o H δ σ S R Q he hs q c =>
 ha h o H δ σ S _ _ he hs q fun o1 H1 S1 xs vs e1 s1 x1 d1=>hr h o1 H1 S1 xs vs R Q s1 x1 d1 (c.pre e1)
theorem zaq (ha:RA tl dl):RE (ztf tl) (zdz dl):=fun h o H δ σ S R Q he hs q c =>
 ha h o H δ σ S _ _ he hs q fun o1 H1 S1 xs vs e1 s1 x1 ⟨ds,e,hl,d1⟩=>by
  have l:=zfQ x1 (zdH e)
  exact ⟨by rw [l.length]; exact Nat.le_of_lt (small1000 hl),zmI s1 l (c.pre e1) d1⟩
theorem zc5 (ha:RA tl dl):RE (zqo tl) (zgy dl):=fun h o H δ σ S R Q he hs q c =>
 ha h o H δ σ S _ _ he hs q fun o1 H1 S1 xs vs e1 s1 x1 ⟨ds,e,hl,d1⟩=>by
  have l:=zfQ x1 (zdH e)
  exact ⟨by rw [l.length]; exact Nat.le_of_lt (small1000 hl),zlU s1 l (c.pre e1) d1⟩
theorem zcs (ha:RA tl dl):RE (zqo tl) (zd8 dl):=fun h o H δ σ S R Q he hs q c =>
 ha h o H δ σ S _ _ he hs q fun o1 H1 S1 xs vs e1 s1 x1 ⟨ds,e,hl,d1⟩=>by
  have l:=zfQ x1 (zdH e)
  exact ⟨by rw [l.length]; exact Nat.le_of_lt (small1000 hl),zpa s1 l (c.pre e1) d1⟩
def dB (a:DE):DT:=fun δ S R=>a δ S fun x S1=>asB x fun b=>R b S1
def zmS (a:DT):DT:=fun δ S R=>a δ S fun b S1=>R (!b) S1
def zpU (a b:DT):DT:=fun δ S R=>a δ S fun x S1=>if x = true then b δ S1 R else R false S1
def dOr (a b:DT):DT:=fun δ S R=>a δ S fun x S1=>if x = true then R true S1 else b δ S1 R
def ziW (a b:DE):DE:=fun δ S R=>a δ S fun x S1=>asB x fun c=>if c = true then b δ S1 R else R (.d (.bool false)) S1
def zs7 (a b:DE):DE:=fun δ S R=>a δ S fun x S1=>asB x fun c=>if c = true then R (.d (.bool true)) S1 else b δ S1 R
def znB (a:DE):DE:=fun δ S R=>a δ S fun x S1=>asB x fun c=>R (.d (.bool (!c))) S1
def dIf (c:DT) (a b:DE):DE:=fun δ S R=>c δ S fun x S1=>if x = true then a δ S1 R else b δ S1 R
theorem zep (ha:RE ta da):RT (znH ta) (dB da):=fun h o H δ σ S R Q he hs q c =>
 ha h o H δ σ S _ _ he hs q fun o1 H1 S1 x v e1 s1 x1 d1=>by
  replace d1:=zgg d1
  obtain ⟨b,rfl,d1⟩:=d1
  exact ⟨b,zdM x1,c o1 H1 S1 b e1 s1 d1⟩
theorem ziv (ha:RT tt dt):RT (zss tt) (zmS dt):=fun h o H δ σ S R Q he hs q c =>
 ha h o H δ σ S _ _ he hs q fun o1 H1 S1 b e1 s1 d1=>c o1 H1 S1 _ e1 s1 d1
theorem zjH (ha:RT tt dt) (hb:RT tu du):RT (zs8 tt tu) (zpU dt du):=fun h o H δ σ S R Q he hs q c =>
 ha h o H δ σ S _ _ he hs q fun o1 H1 S1 b e1 s1 d1=>by
  cases b with
  | true=>exact zlL (hb h o1 H1 δ σ S1 R Q (he.mono e1) s1 (by simpa using d1) fun o2 H2 S2 b e2=>c o2 H2 S2 b (e1.trans e2))
  | false=>exact zmE (c o1 H1 S1 false e1 s1 (by simpa using d1))
theorem zq8 (ha:RT tt dt) (hb:RT tu du):RT (tOr tt tu) (dOr dt du):=fun h o H δ σ S R Q he hs q c =>
 ha h o H δ σ S _ _ he hs q fun o1 H1 S1 b e1 s1 d1=>by
  cases b with
  | false=>exact zmE (hb h o1 H1 δ σ S1 R Q (he.mono e1) s1 (by simpa using d1) fun o2 H2 S2 b e2=>c o2 H2 S2 b (e1.trans e2))
  | true=>exact zlL (c o1 H1 S1 true e1 s1 (by simpa using d1))
theorem zj5 (ha:RE ta da) (hb:RE tb db):RE (zrR ta tb) (ziW da db):=fun h o H δ σ S R Q he hs q c =>
 ha h o H δ σ S _ _ he hs q fun o1 H1 S1 x v e1 s1 x1 d1=>by
  replace d1:=zgg d1
  obtain ⟨b,rfl,d1⟩:=d1
  refine ⟨b,zdM x1,?_⟩
  cases b with
  | true=>exact zlL (hb h o1 H1 δ σ S1 R Q (he.mono e1) s1 (by simpa using d1) (c.pre e1))
  | false=>exact zmE (c o1 H1 S1 _ _ e1 s1 (xB false) (by simpa using d1))
theorem zrH (ha:RE ta da):RE (zqF ta) (znB da):=fun h o H δ σ S R Q he hs q c =>
 ha h o H δ σ S _ _ he hs q fun o1 H1 S1 x v e1 s1 x1 d1=>by
  replace d1:=zgg d1
  obtain ⟨b,rfl,d1⟩:=d1
  exact ⟨b,zdM x1,c o1 H1 S1 _ _ e1 s1 (xB _) d1⟩
theorem zsv (hc:RT tt dt) (ha:RE ta da) (hb:RE tb db):RE (tIf tt ta tb) (dIf dt da db):=fun h o H δ σ S R Q he hs q c =>
 hc h o H δ σ S _ _ he hs q fun o1 H1 S1 b e1 s1 d1=>by
  cases b with
  | true=>exact zlL (ha h o1 H1 δ σ S1 R Q (he.mono e1) s1 (by simpa using d1) (c.pre e1))
  | false=>exact zmE (hb h o1 H1 δ σ S1 R Q (he.mono e1) s1 (by simpa using d1) (c.pre e1))
def ziz (rd rd':D2) (a b e:DE):DE:=fun δ S R=>a δ S fun x S1=>b δ S1 fun y S2=>rd x y S2 fun z S3=>asB z fun k=>if k = true then e δ S3 fun u S4=>rd' y u S4 R else R (.d (.bool false)) S3
theorem zjQ {r r':R2} {rd rd':D2} (hr:RO r rd) (hr':RO r' rd') (ha:RE ta da) (hb:RE tb db) (hc:RE tc dc):RE (zod r r' ta tb tc) (ziz rd rd' da db dc):=fun h o H δ σ S R Q he hs q c =>
 ha h o H δ σ S _ _ he hs q fun o1 H1 S1 x v e1 s1 x1 d1=>hb h o1 H1 δ σ S1 _ _ (he.mono e1) s1 d1 fun o2 H2 S2 y u e2 s2 y2 d2 =>
  hr h o2 H2 S2 x y v u _ _ s2 (x1.mono e2) y2 d2 fun o3 H3 S3 z w e3 s3 z3 d3=>by
   replace d3:=zgg d3
   obtain ⟨b,rfl,d3⟩:=d3
   refine ⟨b,zdM z3,?_⟩
   cases b with
   | false=>exact zmE (c o3 H3 S3 _ _ ((e1.trans e2).trans e3) s3 (xB false) (by simpa using d3))
   | true=>exact zlL (hc h o3 H3 δ σ S3 _ _ (((he.mono e1).mono e2).mono e3) s3 (by simpa using d3) fun o4 H4 S4 k w' e4 s4 k4 d4=>hr' h o4 H4 S4 y k u w' R Q s4 ((y2.mono e3).mono e4) k4 d4 (c.pre (((e1.trans e2).trans e3).trans e4)))
end
def dI (C:Int->Int->Prop) (g:Int->Int->Int):D2:=fun x y S R=>asI x fun i=>asI y fun j=>C i j/\R (.d (.int (g i j))) S
def dI0 (g:Int->Int->Int):D2:=fun x y S R=>asI x fun i=>asI y fun j=>R (.d (.int (g i j))) S
def dIb (g:Int->Int->Bool):D2:=fun x y S R=>asI x fun i=>asI y fun j=>R (.d (.bool (g i j))) S
def dUI (g:Int->Int):XV->Sto->RX->Prop:=fun x S R=>asI x fun i=>R (.d (.int (g i))) S
def zgz:D2:=fun x y S R=>∃ d,zd2 S x = some d/\∃ e,zd2 S y = some e/\SeqAt.shaped d = true/\SeqAt.shaped e = true/\R (.d (.bool (PyData.eqv d e))) S
def zqP:D2:=fun x y S R=>∃ d,zd2 S x = some d/\∃ e,zd2 S y = some e/\SeqAt.shaped d = true/\SeqAt.shaped e = true/\R (.d (.bool (!PyData.eqv d e))) S
def zoL:D2:=fun x _ S R=>asD x fun d=>R (.d (.bool (zl1 d))) S
def zkN:D2:=fun x _ S R=>asD x fun d=>R (.d (.bool (!zl1 d))) S
def zto:D2:=fun x y S R=>asT x fun ds=>asI y fun i=>∃ d,atI ds i = some d/\R (.d d) S
def ztu:D2:=fun x y S R=>asL S x fun ds=>asI y fun i=>∃ d,atI ds i = some d/\R (.d d) S
def ztp:D2:=fun x y S R=>asL S x fun ds=>asL S y fun es=>ds.length + es.length <= 1000/\R (.d (.list (ds ++ es))) S
def zsM:D2:=fun x y S R=>asT x fun ds=>asT y fun es=>ds ≠ []/\ds.length + es.length <= 1000/\R (.d (.tuple (ds ++ es))) S
section
theorem zhN {C:Int->Int->Prop} {g:Int->Int->Int}:RO (rI C fun i j=>.int (g i j)) (dI C g):=fun h o H S x y v u R Q hs hx hy q c=>by
 replace q:=zbB q
 obtain ⟨i,rfl,q⟩:=q
 replace q:=zbB q
 obtain ⟨j,rfl,hc,q⟩:=q
 exact ⟨i,j,zbA hx,zbA hy,hc,c o H S _ _ Ex.refl hs (xI _) q⟩
theorem zeM {g:Int->Int->Int}:RO (rI0 fun i j=>.int (g i j)) (dI0 g):=fun h o H S x y v u R Q hs hx hy q c=>by
 replace q:=zbB q
 obtain ⟨i,rfl,q⟩:=q
 replace q:=zbB q
 obtain ⟨j,rfl,q⟩:=q
 exact ⟨i,j,zbA hx,zbA hy,c o H S _ _ Ex.refl hs (xI _) q⟩
theorem zdv {g:Int->Int->Bool}:RO (rI0 fun i j=>.bl (g i j)) (dIb g):=fun h o H S x y v u R Q hs hx hy q c=>by
 replace q:=zbB q
 obtain ⟨i,rfl,q⟩:=q
 replace q:=zbB q
 obtain ⟨j,rfl,q⟩:=q
 exact ⟨i,j,zbA hx,zbA hy,c o H S _ _ Ex.refl hs (xB _) q⟩
theorem zmJ {g:Int->Int}:RU (rU fun i=>.int (g i)) (dUI g):=fun h o H S x v R Q hs hx q c=>by
 replace q:=zbB q
 obtain ⟨i,rfl,q⟩:=q
 exact ⟨i,zbA hx,c o H S _ _ Ex.refl hs (xI _) q⟩
theorem zch:RO zsS zgz:=fun h o H S x y v u R Q hs hx hy q c=>by
 obtain ⟨d,q1,e,q2,q3,q4,q⟩:=q
 exact ⟨d,e,zcN hs q1 hx,zcN hs q2 hy,q3,q4,c o H S _ _ Ex.refl hs (xB _) q⟩
theorem zoI:RO zs5 zqP:=fun h o H S x y v u R Q hs hx hy q c=>by
 obtain ⟨d,q1,e,q2,q3,q4,q⟩:=q
 exact ⟨d,e,zcN hs q1 hx,zcN hs q2 hy,q3,q4,c o H S _ _ Ex.refl hs (xB _) q⟩
theorem zit {ta:TE} {da:DE} (ha:RE ta da):RE (tOp zth ta (tC .non)) (dOp zoL da (dC .none)):=fun h o H δ σ S R Q he hs q c =>
 ha h o H δ σ S _ _ he hs q fun o1 H1 S1 x v e1 s1 x1 d1=>by
  replace d1:=ze5 d1
  obtain ⟨d,rfl,d1⟩:=d1
  have e:=zid (show Has _ d v from x1)
  exact ⟨rfl,by rw [e]; exact c o1 H1 S1 _ _ e1 s1 (xB _) d1⟩
theorem zjx {ta:TE} {da:DE} (ha:RE ta da):RE (tOp zqU ta (tC .non)) (dOp zkN da (dC .none)):=fun h o H δ σ S R Q he hs q c =>
 ha h o H δ σ S _ _ he hs q fun o1 H1 S1 x v e1 s1 x1 d1=>by
  replace d1:=ze5 d1
  obtain ⟨d,rfl,d1⟩:=d1
  have e:=zid (show Has _ d v from x1)
  exact ⟨rfl,by rw [e]; exact c o1 H1 S1 _ _ e1 s1 (xB _) d1⟩
theorem HasL.atI {H:Hp} {ds:List PyData} {vs:List V} {i:Int} {d:PyData} (l:HasL H ds vs) (e:L2.atI ds i = some d):∃ v,L2.atI vs i = some v/\Has H d v:=by
 unfold L2.atI at e ⊢
 rw [l.length]
 cases hn:ixN ds.length i with
 | none=>rw [hn] at e; cases e
 | some j =>
  rw [hn] at e
  exact l.get (show ds[j]? = some d from e)
theorem zrY {K:W.Frag}:RO (zsF K) zto:=fun h o H S x y v u R Q hs hx hy q c=>by
 replace q:=zha q
 obtain ⟨ds,rfl,q⟩:=q
 replace q:=zbB q
 obtain ⟨i,rfl,d,e,q⟩:=q
 obtain ⟨a,vs,rfl,ea,l⟩:=zey hx
 obtain ⟨w,ew,hw⟩:=l.atI e
 exact ⟨a,vs,i,w,rfl,zbA hy,.of ea,ew,c o H S (.d d) w Ex.refl hs hw q⟩
theorem zoS {K:W.Frag}:RO (zsy K) ztu:=fun h o H S x y v u R Q hs hx hy q c=>by
 obtain ⟨ds,e0,q⟩:=q
 replace q:=zbB q
 obtain ⟨i,rfl,d,e,q⟩:=q
 obtain ⟨a,vs,rfl,ea,l⟩:=zbp hs e0 hx
 obtain ⟨w,ew,hw⟩:=l.atI e
 exact ⟨a,vs,i,w,rfl,zbA hy,.of ea,ew,c o H S (.d d) w Ex.refl hs hw q⟩
theorem zrg:RO zqt ztp:=fun h o H S x y v u R Q hs hx hy q c=>by
 obtain ⟨ds,e0,es,e1,hl,q⟩:=q
 obtain ⟨a,vs,rfl,ea,la⟩:=zbp hs e0 hx
 obtain ⟨b,us,rfl,eb,lb⟩:=zbp hs e1 hy
 exact ⟨a,b,vs,us,rfl,rfl,ea,eb,by rw [la.length,lb.length]; exact Nat.le_of_lt (small1000 hl),zlU hs (la.append lb) c q⟩
theorem zpO {K:W.Frag}:RO (zpM K) zsM:=fun h o H S x y v u R Q hs hx hy q c=>by
 replace q:=zha q
 obtain ⟨ds,rfl,q⟩:=q
 replace q:=zha q
 obtain ⟨es,rfl,hn,hl,q⟩:=q
 obtain ⟨a,vs,rfl,ea,la⟩:=zey hx
 obtain ⟨b,us,rfl,eb,lb⟩:=zey hy
 refine ⟨a,b,vs,us,rfl,rfl,.of ea,.of eb,fun z=>?_,by rw [la.length,lb.length]; exact Nat.le_of_lt (small1000 hl),fun z=>?_,fun _=>zmI hs (la.append lb) c q⟩
 ·subst z
  have:=la.length
  exact hn (List.eq_nil_of_length_eq_zero this.symm)
 ·subst z
  have e:es = []:=List.eq_nil_of_length_eq_zero lb.length.symm
  subst e
  rw [List.append_nil] at q
  exact c o H S (.d (.tuple ds)) _ Ex.refl hs hx q
end
abbrev DO:=XE->Sto->(Option Int->Sto->Prop)->Prop
def RP (t:TO) (dt:DO):Prop:=∀ (h o:List Addr) (H:Hp) (δ:XE) (σ:St) (S:Sto) (R:Option Int->Sto->Prop) (Q:Option Int->Hp->Prop),RepE h o H δ σ->RepS h o H S->dt δ S R ->
 (∀ o' H' S' b,Ex o H o' H'->RepS h o' H' S'->R b S'->Q b H')->t σ H Q
def zbz:DO:=fun _ S R=>R none S
def zeR (a:DE):DO:=fun δ S R=>a δ S fun x S1=>asI x fun i=>R (some i) S1
theorem zcu:RP zms zbz:=fun h o H δ σ S R Q he hs q c=>c o H S none Ex.refl hs q
theorem zct {t:TE} {da:DE} (ha:RE t da):RP (zkJ t) (zeR da):=fun h o H δ σ S R Q he hs q c =>
 ha h o H δ σ S _ _ he hs q fun o1 H1 S1 x v e1 s1 x1 d1=>by
  replace d1:=zbB d1
  obtain ⟨i,rfl,d1⟩:=d1
  exact ⟨i,zbA x1,c o1 H1 S1 _ e1 s1 d1⟩
abbrev D3:=XV->Option Int->Option Int->Sto->RX->Prop
def RL (r:V->Option Int->Option Int->Hp->VK->Prop) (rd:D3):Prop:=∀ (h o:List Addr) (H:Hp) (S:Sto) (x:XV) (v:V) (a b:Option Int) (R:RX) (Q:VK),RepS h o H S->HasX h o H x v->rd x a b S R->Cn h o H R Q->r v a b H Q
def dSl (rd:D3) (e:DE) (a b:DO):DE:=fun δ S R=>e δ S fun x S1=>a δ S1 fun i S2=>b δ S2 fun j S3=>rd x i j S3 R
theorem zfH {r:V->Option Int->Option Int->Hp->VK->Prop} {rd:D3} {te:TE} {de:DE} {ta tb:TO} {da db:DO} (hr:RL r rd) (he':RE te de) (ha:RP ta da) (hb:RP tb db):RE (tSl r te ta tb) (dSl rd de da db):=fun h o H δ σ S R Q he hs q c =>
 he' h o H δ σ S _ _ he hs q fun o1 H1 S1 x v e1 s1 x1 d1=>ha h o1 H1 δ σ S1 _ _ (he.mono e1) s1 d1 fun o2 H2 S2 i e2 s2 d2=>hb h o2 H2 δ σ S2 _ _ ((he.mono e1).mono e2) s2 d2 fun o3 H3 S3 j e3 s3 d3 =>
  hr h o3 H3 S3 x v i j R Q s3 ((x1.mono e2).mono e3) d3 (c.pre ((e1.trans e2).trans e3))
def ztw:D3:=fun x i j S R=>asL S x fun ds=>R (.d (.list (zef ds i j))) S
def ztr:D3:=fun x i j S R=>asT x fun ds=>¬ (HT.sIx ds.length 0 i = 0/\HT.sIx ds.length ds.length j = ds.length)/\R (.d (.tuple (zef ds i j))) S
theorem zk2 {K:W.Frag}:RL (zqJ K) ztw:=fun h o H S x v a b R Q hs hx q c=>by
 obtain ⟨ds,e0,q⟩:=q
 obtain ⟨p,vs,rfl,ea,l⟩:=zbp hs e0 hx
 exact ⟨p,vs,rfl,.of ea,zlU hs (l.cut a b) c q⟩
theorem zqO {K:W.Frag}:RL (zsN K) ztr:=fun h o H S x v a b R Q hs hx q c=>by
 replace q:=zha q
 obtain ⟨ds,rfl,hn,q⟩:=q
 obtain ⟨p,vs,rfl,ea,l⟩:=zey hx
 exact ⟨p,vs,rfl,.of ea,by rw [l.length]; exact hn,zmI hs (l.cut a b) c q⟩
def asQ (S:Sto):XV->Option (List PyData)
 | .d (.tuple ds)=>some ds
 | .d (.list ds)=>some ds
 | .l k=>S[k]?
 | _=>none
theorem zh9 {h o:List Addr} {H:Hp} {S:Sto} {x:XV} {v:V} {ds:List PyData} (r:RepS h o H S) (e:asQ S x = some ds) (q:HasX h o H x v):∃ a vs,v = .ref a/\(H a = some (.tup vs)\/H a = some (.lst vs))/\HasL (vx h o H) ds vs:=by
 unfold asQ at e
 split at e
 ·cases e
  obtain ⟨a,vs,e,q,l⟩:=zey q
  exact ⟨a,vs,e,.inl q,l⟩
 ·cases e
  obtain ⟨a,vs,e,q,l⟩:=zbp (x:=.d (.list ds)) (ds:=ds) r rfl q
  exact ⟨a,vs,e,.inr q,l⟩
 ·rename_i k
  obtain ⟨a,vs,e,q,l⟩:=zbp (x:=.l k) r e q
  exact ⟨a,vs,e,.inr q,l⟩
 ·cases e
def arg1:List XV->(XV->Prop)->Prop
 | [x],k=>k x
 | _,_=>False
def arg2:List XV->(XV->XV->Prop)->Prop
 | [x,y],k=>k x y
 | _,_=>False
theorem zbb {xs:List XV} {k:XV->Prop} (h:arg1 xs k):∃ x,xs = [x]/\k x:=by
 unfold arg1 at h
 split at h
 ·exact ⟨_,rfl,h⟩
 ·exact h.elim
theorem zjt {xs:List XV} {k:XV->XV->Prop} (h:arg2 xs k):∃ x y,xs = [x,y]/\k x y:=by
 unfold arg2 at h
 split at h
 ·exact ⟨_,_,rfl,h⟩
 ·exact h.elim
theorem hxs1 {h o:List Addr} {H:Hp} {x:XV} {vs:List V} (q:HasXs h o H [x] vs):∃ v,vs = [v]/\HasX h o H x v:=by
 obtain ⟨v,r,e,hx,hr⟩:=q
 cases hr
 exact ⟨v,e,hx⟩
theorem hxs2 {h o:List Addr} {H:Hp} {x y:XV} {vs:List V} (q:HasXs h o H [x,y] vs):∃ v u,vs = [v,u]/\HasX h o H x v/\HasX h o H y u:=by
 obtain ⟨v,r,e,hx,q⟩:=q
 obtain ⟨u,e',hy⟩:=hxs1 q
 subst e'
 exact ⟨v,u,e,hx,hy⟩
def zsu:XV->(String->Prop)->Prop
 | .o v,k=>∃ c,v = .ty c/\k c
 | _,_=>False
def zsH:XV->(Int->Prop)->Prop
 | .d d,k=>match d with
  | .int i=>k i
  | .bool b=>k (if b then 1 else 0)
  | _=>False
 | _,_=>False
theorem zph {x:XV} {k:String->Prop} (h:zsu x k):∃ c,x = .o (.ty c)/\k c:=by
 cases x with
 | o v =>
  obtain ⟨c,rfl,h⟩:=h
  exact ⟨c,rfl,h⟩
 | d d=>exact h.elim
 | l j=>exact h.elim
 | x _ _=>exact h.elim
theorem zpb {x:XV} {k:Int->Prop} (h:zsH x k):(∃ i,x = .d (.int i)/\k i)\/∃ b,x = .d (.bool b)/\k (if b then 1 else 0):=by
 cases x with
 | d d =>
  cases d with
  | int i=>exact .inl ⟨i,rfl,h⟩
  | bool b=>exact .inr ⟨b,rfl,h⟩
  | _=>exact h.elim
 | _=>exact h.elim
def ztj:List XV->Sto->RX->Prop:=fun xs S R=>arg1 xs fun x=>∃ ds,asQ S x = some ds/\R (.d (.int ds.length)) S
theorem zl5 {K:W.Frag}:RC (zsL K) ztj:=fun h o H S xs vs R Q hs hx q c=>by
 obtain ⟨x,rfl,ds,hd,q1⟩:=zbb q
 obtain ⟨v,rfl,hx1⟩:=hxs1 hx
 obtain ⟨a,ws,rfl,ea,l⟩:=zh9 hs hd hx1
 refine ⟨a,ws,rfl,ea.elim (fun z=>.inr (.of z)) (fun z=>.inl (.of z)),?_⟩
 rw [l.length]
 exact c o H S _ _ Ex.refl hs (xI _) q1
def zqr:List XV->Sto->RX->Prop:=fun xs S R=>arg2 xs fun x y=>zsu y fun cl=>∃ d,zd2 S x = some d/\cl ∈ znJ/\R (.d (.bool (zpw d cl))) S
theorem zmA:RC zsP zqr:=fun h o H S xs vs R Q hs hx q c=>by
 obtain ⟨x,y,rfl,q1⟩:=zjt q
 obtain ⟨cl,rfl,d,hd,hc,q2⟩:=zph q1
 obtain ⟨v,u,rfl,hx1,hu⟩:=hxs2 hx
 cases hu
 exact zpG (zcN hs hd hx1) hc (c o H S _ _ Ex.refl hs (xB _) q2)
def znP:List XV->Sto->RX->Prop:=fun xs S R=>arg1 xs fun x=>zsH x fun i=>R (.d (.int i)) S
theorem zqg:RC (fun xs H Q=>(∃ i,xs = [.int i]/\Q (.int i) H)\/∃ k,xs = [.bl k]/\Q (.int (if k then 1 else 0)) H) znP:=fun h o H S xs vs R Q hs hx q c=>by
 obtain ⟨x,rfl,q1⟩:=zbb q
 obtain ⟨v,rfl,hx1⟩:=hxs1 hx
 rcases zpb q1 with ⟨i,rfl,q2⟩ | ⟨b,rfl,q2⟩
 ·exact .inl ⟨_,by rw [zbA hx1],c o H S _ _ Ex.refl hs (xI _) q2⟩
 ·exact .inr ⟨_,by rw [zdM hx1],c o H S _ _ Ex.refl hs (xI _) q2⟩
def dI2 (g:Int->Int->Int):List XV->Sto->RX->Prop:=fun xs S R=>arg2 xs fun x y=>asI x fun i=>asI y fun j=>R (.d (.int (g i j))) S
theorem znf {g:Int->Int->Int}:RC (fun xs H Q=>∃ i j,xs = [.int i,.int j]/\Q (.int (g i j)) H) (dI2 g):=fun h o H S xs vs R Q hs hx q c=>by
 obtain ⟨x,y,rfl,q1⟩:=zjt q
 obtain ⟨v,u,rfl,hx1,hu⟩:=hxs2 hx
 obtain ⟨i,rfl,q2⟩:=zbB q1
 obtain ⟨j,rfl,q3⟩:=zbB q2
 exact ⟨i,j,by rw [zbA hx1,zbA hu],c o H S _ _ Ex.refl hs (xI _) q3⟩
def zbL:List XV->Sto->RX->Prop:=fun xs S R=>arg1 xs fun x=>∃ ds,asQ S x = some ds/\R (.d (.tuple ds)) S
theorem za9 {K:W.Frag}:RC (fun xs H Q=>∃ p ys,xs = [.ref p]/\((SqL K H p ys/\∀ l,H l = none->Q (.ref l) (upd H l (.tup ys)))\/(SqT K H p ys/\Q (.ref p) H))) zbL:=fun h o H S xs vs R Q hs hx q c=>by
 obtain ⟨x,rfl,ds,hd,q1⟩:=zbb q
 obtain ⟨v,rfl,hx1⟩:=hxs1 hx
 obtain ⟨a,ws,rfl,ea,l⟩:=zh9 hs hd hx1
 refine ⟨a,ws,rfl,ea.elim (fun z=>.inr ⟨.of z,?_⟩) (fun z=>.inl ⟨.of z,zmI hs l c q1⟩)⟩
 have hh:HasX h o H (.d (.tuple ds)) (.ref a):=by
  unfold asQ at hd
  split at hd
  ·cases hd
   exact hx1
  ·obtain ⟨a',us,e1,e2,_⟩:=zbp (x:=.d (.list _)) hs rfl hx1
   cases e1
   rw [z] at e2
   cases e2
  ·rename_i k
   obtain ⟨a',us,e1,e2,_⟩:=zbp (x:=.l k) hs hd hx1
   cases e1
   rw [z] at e2
   cases e2
  ·cases hd
 exact c o H S _ _ Ex.refl hs hh q1
def zhC:List XV->Sto->RX->Prop:=fun xs S R=>arg1 xs fun x=>∃ ds,asQ S x = some ds/\R (.l S.length) (S ++ [ds])
theorem zmv {K:W.Frag}:RC (fun xs H Q=>∃ p ys,xs = [.ref p]/\(SqL K H p ys\/SqT K H p ys)/\∀ l,H l = none->Q (.ref l) (upd H l (.lst ys))) zhC:=fun h o H S xs vs R Q hs hx q c=>by
 obtain ⟨x,rfl,ds,hd,q1⟩:=zbb q
 obtain ⟨v,rfl,hx1⟩:=hxs1 hx
 obtain ⟨a,ws,rfl,ea,l⟩:=zh9 hs hd hx1
 exact ⟨a,ws,rfl,ea.elim (fun z=>.inr (.of z)) (fun z=>.inl (.of z)),zpa hs l c q1⟩
theorem zdq {H:Hp}:∀ {ns:List Int} {vs:List V},HasL H (ns.map PyData.int) vs->vs = ns.map V.int
 | [],vs,h=>zR.mp h
 | n :: ns,vs,h=>by
  obtain ⟨v,r,rfl,h1,h2⟩:=zH.mp h
  rw [zbX.mp h1,zdq h2]
  rfl
def zs9:List XV->Sto->RX->Prop:=fun xs S R=>arg1 xs fun x=>∃ ds,asQ S x = some ds/\∃ ns,ds = ns.map PyData.int/\ns ≠ []/\∀ m,m ∈ ns->(∀ a,a ∈ ns->m <= a)->R (.d (.int m)) S
def zru:List XV->Sto->RX->Prop:=fun xs S R=>arg1 xs fun x=>∃ ds,asQ S x = some ds/\∃ ns,ds = ns.map PyData.int/\ns ≠ []/\∀ m,m ∈ ns->(∀ a,a ∈ ns->a <= m)->R (.d (.int m)) S
theorem zr8 {K:W.Frag}:RC (zsI K) zs9:=fun h o H S xs vs R Q hs hx q c=>by
 obtain ⟨x,rfl,ds,hd,ns,rfl,hn,q1⟩:=zbb q
 obtain ⟨v,rfl,hx1⟩:=hxs1 hx
 obtain ⟨a,ws,rfl,ea,l⟩:=zh9 hs hd hx1
 rw [zdq l] at ea
 exact ⟨a,ns,rfl,ea.elim (fun z=>.inr (.of z)) (fun z=>.inl (.of z)),hn,fun m m1 m2=>c o H S _ _ Ex.refl hs (xI _) (q1 m m1 m2)⟩
theorem zou {K:W.Frag}:RC (ztd K) zru:=fun h o H S xs vs R Q hs hx q c=>by
 obtain ⟨x,rfl,ds,hd,ns,rfl,hn,q1⟩:=zbb q
 obtain ⟨v,rfl,hx1⟩:=hxs1 hx
 obtain ⟨a,ws,rfl,ea,l⟩:=zh9 hs hd hx1
 rw [zdq l] at ea
 exact ⟨a,ns,rfl,ea.elim (fun z=>.inr (.of z)) (fun z=>.inl (.of z)),hn,fun m m1 m2=>c o H S _ _ Ex.refl hs (xI _) (q1 m m1 m2)⟩
def dBM (rd:XV->List XV->Sto->RX->Prop) (e:DE) (a:DA):DE:=fun δ S R=>e δ S fun x S1=>∃ k,x = .l k/\k < S1.length/\a δ S1 fun xs S2=>rd x xs S2 R
def zsi (rd:XV->List XV->Sto->RX->Prop) (e:DE):DE:=fun δ S R=>e δ S fun x S1=>∃ k,x = .l k/\k < S1.length/\rd x [] S1 R
def RM (r:V->List V->Hp->VK->Prop) (rd:XV->List XV->Sto->RX->Prop):Prop:=∀ (h o:List Addr) (H:Hp) (S:Sto) (x:XV) (v:V) (xs:List XV) (vs:List V) (R:RX) (Q:VK),RepS h o H S->HasX h o H x v->HasXs h o H xs vs->rd x xs S R->Cn h o H R Q->r v vs H Q
theorem zhw {K:W.Frag} {H:Hp} {a:Addr} {vs:List V} (e:H a = some (.lst vs)):tyV K "list" (.ref a) H:=.inl ⟨rfl,vs,.of e⟩
theorem zoe {h o:List Addr} {H:Hp} {S:Sto} {k:Nat} {v:V} (hs:RepS h o H S) (hk:k < S.length) (hx:HasX h o H (.l k) v):∃ a vs,v = .ref a/\H a = some (.lst vs):=by
 obtain ⟨a,e,rfl⟩:=hx
 obtain ⟨vs,e2,_⟩:=hs.cont k a _ e (List.getElem?_eq_getElem hk)
 exact ⟨a,vs,rfl,e2⟩
theorem zgB {K:W.Frag} {r:V->List V->Hp->VK->Prop} {rd:XV->List XV->Sto->RX->Prop} {te:TE} {de:DE} {tl:TA} {dl:DA} (hr:RM r rd) (he':RE te de) (ha:RA tl dl):RE (tBM K "list" r te tl) (dBM rd de dl):=fun h o H δ σ S R Q he hs q c =>
 he' h o H δ σ S _ _ he hs q fun o1 H1 S1 x v e1 s1 x1 ⟨k,ek,hk,d1⟩=>by
  subst ek
  obtain ⟨a,ws,rfl,ea⟩:=zoe s1 hk x1
  exact ⟨zhw ea,ha h o1 H1 δ σ S1 _ _ (he.mono e1) s1 d1 fun o2 H2 S2 xs vs e2 s2 x2 d2=>hr h o2 H2 S2 (.l k) _ xs vs R Q s2 (x1.mono e2) x2 d2 (c.pre (e1.trans e2))⟩
theorem zrb {K:W.Frag} {r:V->List V->Hp->VK->Prop} {rd:XV->List XV->Sto->RX->Prop} {te:TE} {de:DE} (hr:RM r rd) (he':RE te de):RE (zsY K "list" r te) (zsi rd de):=fun h o H δ σ S R Q he hs q c =>
 he' h o H δ σ S _ _ he hs q fun o1 H1 S1 x v e1 s1 x1 ⟨k,ek,hk,d1⟩=>by
  subst ek
  obtain ⟨a,ws,rfl,ea⟩:=zoe s1 hk x1
  exact ⟨zhw ea,hr h o1 H1 S1 (.l k) _ [] [] R Q s1 x1 rfl d1 (c.pre e1)⟩
def zbY:XV->List XV->Sto->RX->Prop:=fun x xs S R=>∃ k,x = .l k/\∃ ds,S[k]? = some ds/\arg1 xs fun y=>asD y fun d=>ds.length < 1000/\R (.d .none) (S.set k (ds ++ [d]))
theorem zci:RM zlJ zbY:=fun h o H S x v xs vs R Q hs hx hxs q c=>by
 obtain ⟨k,rfl,ds,e,q1⟩:=q
 obtain ⟨y,rfl,q2⟩:=zbb q1
 obtain ⟨d,rfl,hl,q3⟩:=ze5 q2
 obtain ⟨a,ea,rfl⟩:=hx
 obtain ⟨u,rfl,hu⟩:=hxs1 hxs
 obtain ⟨ws,ew,l⟩:=hs.cont k a ds ea e
 exact ⟨a,ws,u,rfl,rfl,ew,by rw [l.length]; exact small1000 (Nat.le_of_lt hl),c o _ _ (.d .none) _ (Ex.upd ea) (hs.upd ea (l.append (zH.mpr ⟨u,[],rfl,hu,zR.mpr rfl⟩))) xN q3⟩
def zfM:XV->List XV->Sto->RX->Prop:=fun x xs S R=>∃ k,x = .l k/\∃ ds,S[k]? = some ds/\xs = []/\R (.d .none) (S.set k ds.reverse)
theorem zkr:RM zj1 zfM:=fun h o H S x v xs vs R Q hs hx hxs q c=>by
 obtain ⟨k,rfl,ds,e,rfl,q1⟩:=q
 obtain ⟨a,ea,rfl⟩:=hx
 obtain ⟨ws,ew,l⟩:=hs.cont k a ds ea e
 cases hxs
 exact ⟨a,ws,rfl,rfl,ew,c o _ _ (.d .none) _ (Ex.upd ea) (hs.upd ea l.rev) xN q1⟩
def zgv:XV->List XV->Sto->RX->Prop:=fun x xs S R=>∃ k,x = .l k/\∃ ds,S[k]? = some ds/\arg1 xs fun y=>∃ es,zkR S y = some es/\ds.length + es.length <= 1000/\R (.d .none) (S.set k (ds ++ es))
theorem ziw:RM zmC zgv:=fun h o H S x v xs vs R Q hs hx hxs q c=>by
 obtain ⟨k,rfl,ds,e,q1⟩:=q
 obtain ⟨y,rfl,es,ey,hl,q3⟩:=zbb q1
 obtain ⟨a,ea,rfl⟩:=hx
 obtain ⟨u,rfl,hu⟩:=hxs1 hxs
 obtain ⟨ws,ew,l⟩:=hs.cont k a ds ea e
 obtain ⟨b,zs,rfl,eb,lb⟩:=zbp hs ey hu
 exact ⟨a,b,ws,zs,rfl,rfl,ew,eb,by rw [l.length,lb.length]; exact Nat.le_of_lt (small1000 hl),c o _ _ (.d .none) _ (Ex.upd ea) (hs.upd ea (l.append lb)) xN q3⟩
def ret0 (S:Sto) (R:RX):RX:=fun y S'=>match y,S' with
 | .d d,[]=>R (.d d) S
 | .l 0,[ds]=>R (.l S.length) (S ++ [ds])
 | _,_=>False
def zse (k:Nat) (S:Sto) (R:RX):RX:=fun y S'=>match y,S' with
 | .d d,[p]=>R (.d d) (S.set k p)
 | .l 1,[p,ds]=>R (.l S.length) (S.set k p ++ [ds])
 | _,_=>False
section
variable {h o:List Addr} {H:Hp} {S:Sto} {R:RX} {Q:VK}
theorem zjg {h o h' o':List Addr} {H:Hp} (e:∀ b,(b ∈ h'\/b ∈ o') ↔ (b ∈ h\/b ∈ o)):vx h' o' H = vx h o H:=by
 funext b
 have iff:∀ u,vx h' o' H b = some u ↔ vx h o H b = some u:=fun u=>by
  rw [zah,zah]
  have:=e b
  constructor
  ·rintro ⟨a1,a2,a3⟩
   exact ⟨fun m=>(this.mpr (.inl m)).elim a1 a2,fun m=>(this.mpr (.inr m)).elim a1 a2,a3⟩
  ·rintro ⟨a1,a2,a3⟩
   exact ⟨fun m=>(this.mp (.inl m)).elim a1 a2,fun m=>(this.mp (.inr m)).elim a1 a2,a3⟩
 cases e1:vx h' o' H b with
 | some u=>exact ((iff u).mp e1).symm
 | none =>
  cases e2:vx h o H b with
  | none=>rfl
  | some u=>rw [(iff u).mpr e2] at e1; cases e1
theorem rep0 (hs:RepS h o H S):RepS (h ++ o) [] H [] where
 len:=rfl
 nd:=List.nodup_nil
 dis:=fun a ha=>by cases ha
 hal:=fun b hb=>(List.mem_append.mp hb).elim (hs.hal b) (hs.oam b)
 cont:=fun k a ds e=>by simp at e
theorem hx0 {d:PyData} {v:V} (hx:HasX h o H (.d d) v):HasX (h ++ o) [] H (.d d) v:=by
 show Has (vx (h ++ o) [] H) d v
 rw [zjg (h:=h) (o:=o) fun b=>by simp]
 exact hx
theorem hx0' {d:PyData} {v:V} (hx:HasX (h ++ o) [] H (.d d) v):HasX h o H (.d d) v:=by
 show Has (vx h o H) d v
 rw [<- zjg (h':=h ++ o) (o':=[]) (h:=h) (o:=o) fun b=>by simp]
 exact hx
theorem cn0 (hs:RepS h o H S) (c:Cn h o H R Q):Cn (h ++ o) [] H (ret0 S R) Q:=fun o' H' S' y v e s' hy q=>by
 have sm:Same H (vx [] o' H'):=fun b u eb=>by
  obtain ⟨a1,a2⟩:=e.kp b u (by simp) eb
  exact zah.mpr ⟨by simp,a1,a2⟩
 have sH:Same H H':=fun b u eb=>(zah.mp (sm b u eb)).2.2
 unfold ret0 at q
 split at q
 ·have e0:o' = []:=List.eq_nil_of_length_eq_zero s'.len.symm
  subst e0
  exact c o H' S _ v (Ex.of_same sH) (hs.same sH) (hx0' hy) q
 ·rename_i ds
  obtain ⟨a,rfl⟩:∃ a,o' = [a]:=List.length_eq_one_iff.mp s'.len.symm
  obtain ⟨a',ea,rfl⟩:=hy
  cases ea
  obtain ⟨vs,ev,l⟩:=s'.cont 0 a ds rfl rfl
  have na:a ∉ h ++ o:=s'.dis a (by simp)
  have hn:H a = none:=by
   cases eh:H a with
   | none=>rfl
   | some u=>exact absurd (e.kp a u (by simp) eh).1 (by simp)
  have e2:Ex o H (o ++ [a]) H':=⟨⟨[a],rfl⟩,fun b u hb eb=>by
   obtain ⟨a1,a2⟩:=e.kp b u (by simp) eb
   exact ⟨by simp only [List.mem_append,not_or]; exact ⟨hb,a1⟩,a2⟩⟩
  have ev':vx (h ++ o) [a] H' = vx h (o ++ [a]) H':=zjg fun b=>by simp [or_assoc]
  rw [ev'] at l
  refine c (o ++ [a]) H' (S ++ [ds]) (.l S.length) _ e2 ⟨by simp [hs.len],zdt hs.nd fun m=>na (List.mem_append_right _ m),fun b hb=>?_,fun b hb=>?_,fun k b es q1 q2=>?_⟩ ⟨a,by rw [hs.len,List.getElem?_concat_length],rfl⟩ q
  ·rcases List.mem_append.mp hb with hb | hb
   ·exact hs.dis b hb
   ·rw [List.mem_singleton.mp hb]; exact fun m=>na (List.mem_append_left _ m)
  ·obtain ⟨u,eb⟩:=hs.hal b hb
   exact ⟨u,sH b _ eb⟩
  ·by_cases hk:k < o.length
   ·rw [List.getElem?_append_left hk] at q1
    rw [List.getElem?_append_left (by rw [hs.len]; exact hk)] at q2
    obtain ⟨ws,e3,l3⟩:=hs.cont k b es q1 q2
    exact ⟨ws,sH _ _ e3,l3.mono e2.vx⟩
   ·have hk':k = o.length:=by
     obtain ⟨q,_⟩:=List.getElem?_eq_some_iff.mp q1
     rw [List.length_append,List.length_singleton] at q
     omega
    subst hk'
    rw [List.getElem?_concat_length] at q1
    rw [<- hs.len,List.getElem?_concat_length] at q2
    cases q1
    cases q2
    exact ⟨vs,ev,l⟩
 ·exact q.elim
theorem zsk {k:Nat} {a:Addr} {p:List PyData} (hs:RepS h o H S) (ea:o[k]? = some a) (ep:S[k]? = some p):RepS (h ++ o.filter (fun b=>b ≠ a)) [a] H [p] where
 len:=rfl
 nd:=by simp
 dis:=fun b hb=>by
  rw [List.mem_singleton.mp hb]
  intro m
  rcases List.mem_append.mp m with m | m
  ·exact hs.dis a (List.mem_of_getElem? ea) m
  ·have:=(List.mem_filter.mp m).2
   simp at this
 hal:=fun b hb=>(List.mem_append.mp hb).elim (hs.hal b) fun m=>hs.oam b (List.mem_filter.mp m).1
 cont:=fun j b ds e1 e2=>by
  cases j with
  | succ j=>simp at e1
  | zero =>
   cases e1
   cases e2
   obtain ⟨vs,e3,l⟩:=hs.cont k a p ea ep
   refine ⟨vs,e3,?_⟩
   rw [zjg (h:=h) (o:=o) (mem_pen ea)]
   exact l
where
 mem_pen {h o:List Addr} {k:Nat} {a:Addr} (ea:o[k]? = some a) (b:Addr):(b ∈ h ++ o.filter (fun b=>b ≠ a)\/b ∈ [a]) ↔ (b ∈ h\/b ∈ o):=by
  have ma:=List.mem_of_getElem? ea
  by_cases e:b = a
  ·subst e
   simp [ma]
  ·simp [e]
theorem hxP {k:Nat} {a:Addr} {d:PyData} {v:V} (ea:o[k]? = some a) (hx:HasX h o H (.d d) v):HasX (h ++ o.filter (fun b=>b ≠ a)) [a] H (.d d) v:=by
 show Has (vx _ _ H) d v
 rw [zjg (h:=h) (o:=o) (zsk.mem_pen ea)]
 exact hx
theorem cnP {k:Nat} {a:Addr} {p:List PyData} (hs:RepS h o H S) (ea:o[k]? = some a) (ep:S[k]? = some p) (c:Cn h o H R Q):Cn (h ++ o.filter (fun b=>b ≠ a)) [a] H (zse k S R) Q:=fun o' H' S' y v e s' hy q=>by
 have ma:=List.mem_of_getElem? ea
 have hk:k < o.length:=(List.getElem?_eq_some_iff.mp ea).1
 unfold zse at q
 split at q
 ·rename_i d p'
  obtain ⟨r,rfl⟩:=e.pre
  have er:r = []:=by
   have:=s'.len
   simp at this
   exact this
  subst er
  have ex:Ex o H o H':=⟨⟨[],by simp⟩,fun b u hb eb=>⟨hb,(e.kp b u (fun m=>hb (by rw [List.mem_singleton.mp m]; exact ma)) eb).2⟩⟩
  obtain ⟨vs,ev,l⟩:=s'.cont 0 a p' rfl rfl
  have ev':vx (h ++ o.filter (fun b=>b ≠ a)) ([a] ++ []) H' = vx h o H':=zjg (zsk.mem_pen ea)
  rw [ev'] at l
  refine c o H' (S.set k p') (.d d) v ex ⟨by simp [hs.len],hs.nd,hs.dis,fun b hb=>?_,fun j b es q1 q2=>?_⟩ (by
   have hy':Has (vx (h ++ o.filter (fun b=>b ≠ a)) ([a] ++ []) H') d v:=hy
   rw [ev'] at hy'
   exact hy') q
  ·obtain ⟨u,eb⟩:=hs.hal b hb
   exact ⟨u,(e.kp b _ (fun m=>hs.dis a ma (by rw [<- List.mem_singleton.mp m]; exact hb)) eb).2⟩
  ·by_cases hj:j = k
   ·subst hj
    rw [q1] at ea
    cases ea
    rw [List.getElem?_set_self (by rw [hs.len]; exact hk)] at q2
    cases q2
    exact ⟨vs,ev,l⟩
   ·rw [List.getElem?_set_ne (Ne.symm hj)] at q2
    obtain ⟨ws,e3,l3⟩:=hs.cont j b es q1 q2
    have ne:b ≠ a:=fun z=>hj (ze3 hs.nd q1 (z ▸ ea))
    exact ⟨ws,(e.kp b _ (by simp [ne]) e3).2,l3.mono ex.vx⟩
 ·rename_i p' ds
  obtain ⟨r,rfl⟩:=e.pre
  obtain ⟨a2,rfl⟩:∃ a2,r = [a2]:=by
   have:=s'.len
   simp at this
   exact List.length_eq_one_iff.mp this
  obtain ⟨b2,eb2,rfl⟩:=hy
  cases eb2
  obtain ⟨vs,ev,l⟩:=s'.cont 0 a p' rfl rfl
  obtain ⟨vs2,ev2,l2⟩:=s'.cont 1 a2 ds rfl rfl
  have n2:a2 ∉ h ++ o.filter (fun b=>b ≠ a):=s'.dis a2 (by simp)
  have n3:a ≠ a2:=by
   have:=s'.nd
   simp at this
   exact this
  have n4:a2 ∉ o:=fun m=>n2 (List.mem_append_right _ (List.mem_filter.mpr ⟨m,by simp [Ne.symm n3]⟩))
  have ex:Ex o H (o ++ [a2]) H':=⟨⟨[a2],rfl⟩,fun b u hb eb=>by
   obtain ⟨z1,z2⟩:=e.kp b u (fun m=>hb (by rw [List.mem_singleton.mp m]; exact ma)) eb
   refine ⟨?_,z2⟩
   simp only [List.mem_append,not_or]
   exact ⟨hb,fun m=>z1 (by simp at m ⊢; exact .inr m)⟩⟩
  have ev':vx (h ++ o.filter (fun b=>b ≠ a)) ([a] ++ [a2]) H' = vx h (o ++ [a2]) H':=zjg fun b=>by
   have:=zsk.mem_pen (h:=h) ea b
   simp only [List.mem_append] at this ⊢
   rw [<- or_assoc,this,or_assoc]
  rw [ev'] at l l2
  refine c (o ++ [a2]) H' (S.set k p' ++ [ds]) (.l S.length) _ ex ⟨by simp [hs.len],zdt hs.nd n4,fun b hb=>?_,fun b hb=>?_,fun j b es q1 q2=>?_⟩ ⟨a2,by rw [hs.len,List.getElem?_concat_length],rfl⟩ q
  ·rcases List.mem_append.mp hb with hb | hb
   ·exact hs.dis b hb
   ·rw [List.mem_singleton.mp hb]; exact fun m=>n2 (List.mem_append_left _ m)
  ·obtain ⟨u,eb⟩:=hs.hal b hb
   exact ⟨u,(e.kp b _ (fun m=>hs.dis a ma (by rw [<- List.mem_singleton.mp m]; exact hb)) eb).2⟩
  ·by_cases hjo:j < o.length
   ·rw [List.getElem?_append_left hjo] at q1
    rw [List.getElem?_append_left (by rw [List.length_set,hs.len]; exact hjo)] at q2
    by_cases hj:j = k
    ·subst hj
     rw [q1] at ea
     cases ea
     rw [List.getElem?_set_self (by rw [hs.len]; exact hk)] at q2
     cases q2
     exact ⟨vs,ev,l⟩
    ·rw [List.getElem?_set_ne (Ne.symm hj)] at q2
     obtain ⟨ws,e3,l3⟩:=hs.cont j b es q1 q2
     have ne:b ≠ a:=fun z=>hj (ze3 hs.nd q1 (z ▸ ea))
     exact ⟨ws,(e.kp b _ (by simp [ne]) e3).2,l3.mono ex.vx⟩
   ·have hk':j = o.length:=by
     obtain ⟨q,_⟩:=List.getElem?_eq_some_iff.mp q1
     rw [List.length_append,List.length_singleton] at q
     omega
    subst hk'
    rw [List.getElem?_concat_length] at q1
    rw [<- hs.len,<- List.length_set (i:=k) (a:=p'),List.getElem?_concat_length] at q2
    cases q1
    cases q2
    exact ⟨vs2,ev2,l2⟩
 ·exact q.elim
end
structure DEnds where
 nx:XE->Sto->Prop
 rt:RX
 bk:XE->Sto->Prop:=fun _ _=>False
 ct:XE->Sto->Prop:=fun _ _=>False
abbrev DS:=DEnds->XE->Sto->Prop
abbrev DG:=XV->XE->Sto->(XE->Sto->Prop)->Prop
abbrev DGs:=List PyData->XE->Sto->(XE->Sto->Prop)->Prop
def Nx (h o:List Addr) (H:Hp) (N:XE->Sto->Prop) (M:St->Hp->Prop):Prop:=∀ o' H' δ' S' σ',Ex o H o' H'->RepE h o' H' δ' σ'->RepS h o' H' S'->N δ' S'->M σ' H'
theorem Nx.pre {h o o':List Addr} {H H':Hp} {N:XE->Sto->Prop} {M:St->Hp->Prop} (c:Nx h o H N M) (e:Ex o H o' H'):Nx h o' H' N M:=fun o2 H2 δ2 S2 σ2 e2=>c o2 H2 δ2 S2 σ2 (e.trans e2)
structure EOk (h o:List Addr) (H:Hp) (E:DEnds) (D:Ends):Prop where
 nx:Nx h o H E.nx D.nx
 rt:Cn h o H E.rt D.rt
 bk:Nx h o H E.bk D.bk
 ct:Nx h o H E.ct D.ct
theorem EOk.pre {h o o':List Addr} {H H':Hp} {E:DEnds} {D:Ends} (c:EOk h o H E D) (e:Ex o H o' H'):EOk h o' H' E D:=⟨c.nx.pre e,c.rt.pre e,c.bk.pre e,c.ct.pre e⟩
def RS (t:TS) (dt:DS):Prop:=∀ (h o:List Addr) (H:Hp) (δ:XE) (σ:St) (S:Sto) (E:DEnds) (D:Ends),RepE h o H δ σ->RepS h o H S->dt E δ S->EOk h o H E D->t D σ H
def RG (t:TG) (dt:DG):Prop:=∀ (h o:List Addr) (H:Hp) (δ:XE) (σ:St) (S:Sto) (x:XV) (v:V) (N:XE->Sto->Prop) (M:St->Hp->Prop),RepE h o H δ σ->RepS h o H S->HasX h o H x v->dt x δ S N->Nx h o H N M->t v σ H M
def RGs (t:TGs) (dt:DGs):Prop:=∀ (h o:List Addr) (H:Hp) (δ:XE) (σ:St) (S:Sto) (ds:List PyData) (vs:List V) (N:XE->Sto->Prop) (M:St->Hp->Prop),RepE h o H δ σ->RepS h o H S->HasL (vx h o H) ds vs->dt ds δ S N->Nx h o H N M->t vs σ H M
def zo (i:Nat):DG:=fun x δ S N=>N (δ.set i (some x)) S
def zeg:DGs:=fun ds δ S N=>ds = []/\N δ S
def hdD:List PyData->(PyData->List PyData->Prop)->Prop
 | d :: es,k=>k d es
 | [],_=>False
theorem zrS {ds:List PyData} {k:PyData->List PyData->Prop} (h:hdD ds k):∃ d es,ds = d :: es/\k d es:=by
 cases ds with
 | nil=>exact h.elim
 | cons d es=>exact ⟨d,es,rfl,h⟩
theorem zro {d:PyData} {es:List PyData} {k:PyData->List PyData->Prop}:hdD (d :: es) k = k d es:=rfl
def zal (g:DG) (r:DGs):DGs:=fun ds δ S N=>hdD ds fun d es=>g (.d d) δ S fun δ' S'=>r es δ' S' N
def zd1 (n:Nat) (r:DGs):DG:=fun x δ S N=>asT x fun ds=>ds.length = n/\r ds δ S N
def zjo (a b:DE):DG:=fun x δ S N=>a δ S fun y S1=>b δ S1 fun z S2=>asD x fun d=>∃ k,y = .l k/\∃ ds,S2[k]? = some ds/\asI z fun i=>∃ j,ixN ds.length i = some j/\N δ (S2.set k (ds.set j d))
theorem zk {i:Nat}:RG (zjb i) (zo i):=fun h o H δ σ S x v N M he hs hx q c=>c o H _ S _ Ex.refl (he.set hx) hs q
theorem zbJ:RGs zsV zeg:=fun h o H δ σ S ds vs N M he hs l ⟨e,q⟩ c=>by
 subst e
 exact ⟨zR.mp l,c o H δ S σ Ex.refl he hs q⟩
theorem zP {t:TG} {u:TGs} {g:DG} {r:DGs} (h1:RG t g) (h2:RGs u r):RGs (zqQ t u) (zal g r):=fun h o H δ σ S ds vs N M he hs l q0 c=>by
 obtain ⟨d,es,rfl,q⟩:=zrS q0
 obtain ⟨v,ws,rfl,hv,l⟩:=zH.mp l
 exact ⟨v,ws,rfl,h1 h o H δ σ S (.d d) v _ _ he hs hv q fun o1 H1 δ1 S1 σ1 e1 he1 hs1 q1=>h2 h o1 H1 δ1 σ1 S1 es ws N M he1 hs1 (l.mono e1.vx) q1 (c.pre e1)⟩
theorem zda {K:W.Frag} {n:Nat} {t:TGs} {r:DGs} (h1:RGs t r):RG (zsZ K n t) (zd1 n r):=fun h o H δ σ S x v N M he hs hx q c=>by
 replace q:=zha q
 obtain ⟨ds,rfl,hn,q⟩:=q
 obtain ⟨a,vs,rfl,ea,l⟩:=zey hx
 exact ⟨a,vs,rfl,.of ea,by rw [l.length]; exact hn,h1 h o H δ σ S ds vs N M he hs l q c⟩
theorem HasL.setAt {H:Hp}:∀ {ds:List PyData} {vs:List V} {j:Nat} {d:PyData} {v:V},HasL H ds vs->Has H d v->HasL H (ds.set j d) (vs.set j v)
 | [],vs,j,d,v,l,_=>by rw [zR.mp l]; exact zR.mpr rfl
 | c :: ds,vs,0,d,v,l,q=>by
  obtain ⟨u,r,rfl,_,l⟩:=zH.mp l
  exact zH.mpr ⟨v,r,rfl,q,l⟩
 | c :: ds,vs,j + 1,d,v,l,q=>by
  obtain ⟨u,r,rfl,hu,l⟩:=zH.mp l
  exact zH.mpr ⟨u,r.set j v,rfl,hu,HasL.setAt l q⟩
theorem zjZ {ta tb:TE} {da db:DE} (ha:RE ta da) (hb:RE tb db):RG (ztb ta tb zrm) (zjo da db):=fun h o H δ σ S x v N M he hs hx q c =>
 ha h o H δ σ S _ _ he hs q fun o1 H1 S1 y u e1 s1 y1 d1=>hb h o1 H1 δ σ S1 _ _ (he.mono e1) s1 d1 fun o2 H2 S2 z w e2 s2 z2 d0=>by
  obtain ⟨d,rfl,k,rfl,ds,es,d2⟩:=ze5 d0
  replace d2:=zbB d2
  obtain ⟨i,rfl,j,ej,d2⟩:=d2
  obtain ⟨a,ea,rfl⟩:=y1.mono e2
  obtain ⟨ws,ew,l⟩:=s2.cont k a ds ea es
  refine ⟨a,ws,i,j,rfl,zbA z2,ew,by rw [l.length]; exact ej,?_⟩
  exact c o2 _ δ _ σ ((e1.trans e2).trans (Ex.upd ea)) (((he.mono e1).mono e2).mono (Ex.upd ea)) (s2.upd ea (l.setAt (hx.mono (e1.trans e2)))) d2
def za1:DS:=fun E δ S=>E.nx δ S
def zac (t u:DS):DS:=fun E δ S=>t { E with nx:=u E } δ S
def zau (e:DE) (g:DG):DS:=fun E δ S=>e δ S fun x S1=>g x δ S1 E.nx
def zd5 (e:DE):DS:=fun E δ S=>e δ S fun _ S1=>E.nx δ S1
def zbo (e:DE):DS:=fun E δ S=>e δ S E.rt
def zdW (c:DT) (t u:DS):DS:=fun E δ S=>c δ S fun b S1=>if b = true then t E δ S1 else u E δ S1
section
variable {t u:TS} {dt du:DS} {te:TE} {de:DE}
theorem zaa:RS zqh za1:=fun h o H δ σ S E D he hs q c=>c.nx o H δ S σ Ex.refl he hs q
theorem zv (ht:RS t dt) (hu:RS u du):RS (zgx t u) (zac dt du):=fun h o H δ σ S E D he hs q c =>
 ht h o H δ σ S _ _ he hs q ⟨fun o1 H1 δ1 S1 σ1 e1 he1 hs1 q1=>hu h o1 H1 δ1 σ1 S1 E D he1 hs1 q1 (c.pre e1),c.rt,c.bk,c.ct⟩
theorem zB {g:TG} {dg:DG} (he':RE te de) (hg:RG g dg):RS (zr7 te g) (zau de dg):=fun h o H δ σ S E D he hs q c =>
 he' h o H δ σ S _ _ he hs q fun o1 H1 S1 x v e1 s1 x1 d1=>hg h o1 H1 δ σ S1 x v _ _ (he.mono e1) s1 x1 d1 (c.nx.pre e1)
theorem zco (he':RE te de):RS (zrI te) (zd5 de):=fun h o H δ σ S E D he hs q c =>
 he' h o H δ σ S _ _ he hs q fun o1 H1 S1 x v e1 s1 x1 d1=>c.nx o1 H1 δ S1 σ e1 (he.mono e1) s1 d1
theorem zN (he':RE te de):RS (zsQ te) (zbo de):=fun h o H δ σ S E D he hs q c=>he' h o H δ σ S _ _ he hs q c.rt
theorem zbI {tc:TT} {dc:DT} (hc:RT tc dc) (ht:RS t dt) (hu:RS u du):RS (zsb tc t u) (zdW dc dt du):=fun h o H δ σ S E D he hs q c =>
 hc h o H δ σ S _ _ he hs q fun o1 H1 S1 b e1 s1 d1=>by
  cases b with
  | true=>exact zlL (ht h o1 H1 δ σ S1 E D (he.mono e1) s1 (by simpa using d1) (c.pre e1))
  | false=>exact zmE (hu h o1 H1 δ σ S1 E D (he.mono e1) s1 (by simpa using d1) (c.pre e1))
def frz (n:Nat) (ds:List PyData):Option XV->Option XV
 | some (.l k)=>if k = n then some (.d (.list ds)) else some (.l k)
 | y=>y
end
abbrev DI:=XE->Sto->(List PyData->Sto->Prop)->Prop
structure WalkX (h o:List Addr) (H:Hp) (J:It) (ds:List PyData):Prop where
 stop:∀ (i:Nat) o2 H2,ExH h o H o2 H2->ds.length <= i->J.stop i H2
 go:∀ (i:Nat) d o2 H2,ExH h o H o2 H2->ds[i]? = some d->J.go i H2
 yld:∀ (i:Nat) d o2 H2 x H3 S2,ExH h o H o2 H2->RepS h o2 H2 S2->ds[i]? = some d->J.yld i H2 x H3->Same H2 H3/\Has (vx h o2 H3) d x
def RI (w:TI) (di:DI):Prop:=∀ (h o:List Addr) (H:Hp) (δ:XE) (σ:St) (S:Sto) (R:List PyData->Sto->Prop) (Q:It->Hp->Prop),RepE h o H δ σ->RepS h o H S->di δ S R ->
 (∀ o' H' S' ds J,Ex o H o' H'->RepS h o' H' S'->WalkX h o' H' J ds->R ds S'->Q J H')->w σ H Q
theorem zk4 {h o:List Addr} {H:Hp} {lo:Int} {n:Nat}:WalkX h o H (Itr lo n) (zfI lo n) where
 stop:=fun i _ _ _ hi=>by rw [zaj] at hi; exact hi
 go:=fun i d _ _ _ hi=>(zcV hi).1
 yld:=fun i d o2 H2 x H3 S2 _ _ hi y=>by
  obtain ⟨e,ex⟩:=y
  subst e ex
  rw [(zcV hi).2]
  exact ⟨Same.refl _,zbX.mpr rfl⟩
def zkI (g:DG) (b:DS):List PyData->DS
 | [],E,δ,S=>E.nx δ S
 | d :: ds,E,δ,S=>g (.d d) δ S fun δ1 S1=>b { nx:=fun δ2 S2=>zkI g b ds E δ2 S2,ct:=fun δ2 S2=>zkI g b ds E δ2 S2,bk:=E.nx,rt:=E.rt } δ1 S1
def zg7 (i:DI) (g:DG) (b:DS):DS:=fun E δ S=>i δ S fun ds S1=>zkI g b ds E δ S1
theorem zcL {wi:TI} {g:TG} {tb:TS} {di:DI} {dg:DG} {db:DS} (hi:RI wi di) (hg:RG g dg) (hb:RS tb db):RS (zq2 wi g tb) (zg7 di dg db):=fun h o H δ σ S E D he hs q c =>
 hi h o H δ σ S _ _ he hs q fun o1 H1 S1 ds J e1 s1 wk d1=>by
  refine ⟨fun i m σ2 H2=>m = ds.length - i/\i <= ds.length/\∃ o2 δ2 S2,Ex o1 H1 o2 H2/\RepE h o2 H2 δ2 σ2/\RepS h o2 H2 S2/\zkI dg db (ds.drop i) E δ2 S2,⟨ds.length,by simp,Nat.zero_le _,o1,δ,S1,Ex.refl,he.mono e1,s1,d1⟩,?_⟩
  rintro i m σ2 H2 ⟨rfl,hi,o2,δ2,S2,e2,he2,hs2,d2⟩
  by_cases hlt:i < ds.length
  ·have ed:ds[i]? = some ds[i]:=List.getElem?_eq_getElem hlt
   rw [List.drop_eq_getElem_cons hlt] at d2
   refine .inr ⟨wk.go i _ o2 H2 e2.hid ed,fun σ3 H3=>∃ o3 δ3 S3,Ex o1 H1 o3 H3/\RepE h o3 H3 δ3 σ3/\RepS h o3 H3 S3/\zkI dg db (ds.drop (i + 1)) E δ3 S3,fun σ3 H3 n=>⟨ds.length - (i + 1),by omega,rfl,hlt,n⟩,fun x H3 y=>?_⟩
   obtain ⟨s3,hx⟩:=wk.yld i _ o2 H2 x H3 S2 e2.hid hs2 ed y
   have e23:Ex o2 H2 o2 H3:=Ex.of_same s3
   refine hg h o2 H3 δ2 σ2 S2 (.d ds[i]) x _ _ (he2.mono e23) (hs2.same s3) hx d2 fun o4 H4 δ4 S4 σ4 e4 he4 hs4 d4=>?_
   have e14:Ex o1 H1 o4 H4:=(e2.trans e23).trans e4
   have ce:=(c.pre e1).pre e14
   exact hb h o4 H4 δ4 σ4 S4 _ _ he4 hs4 d4 ⟨fun o5 H5 δ5 S5 σ5 e5 he5 hs5 d5=>⟨o5,δ5,S5,e14.trans e5,he5,hs5,d5⟩,ce.rt,ce.nx,fun o5 H5 δ5 S5 σ5 e5 he5 hs5 d5=>⟨o5,δ5,S5,e14.trans e5,he5,hs5,d5⟩⟩
  ·have ei:i = ds.length:=by omega
   subst ei
   rw [List.drop_length] at d2
   exact .inl ⟨wk.stop _ o2 H2 e2.hid (Nat.le_refl _),c.nx o2 H2 δ2 S2 σ2 (e1.trans e2) he2 hs2 d2⟩
def zaB:DT:=fun _ S R=>R true S
theorem zaH:RT zrs zaB:=fun h o H δ σ S R Q he hs q c=>c o H S true Ex.refl hs q
def zeL (n:Nat) (g:DG) (tt:DT) (te:DE) (fin:Sto->Prop):List PyData->XE->Sto->Prop
 | [],_,S=>fin S
 | d :: ds,τ,S=>g (.d d) τ S fun τ1 S1=>tt τ1 S1 fun b S2=>if b = true then te τ1 S2 fun x S3=>asD x fun e=>∃ acc,S3[n]? = some acc/\acc.length < 1000/\zeL n g tt te fin ds τ1 (S3.set n (acc ++ [e])) else zeL n g tt te fin ds τ1 S2
def zfz (caps:List (Option Nat)) (i:DI) (g:DG) (tt:DT) (te:DE):DE:=fun δ S R=>i δ S fun ds S1=>zeL S1.length g tt te (fun S2=>R (.l S1.length) S2) ds (znS caps δ) (S1 ++ [[]])
def zck (caps:List (Option Nat)) (i:DI) (g:DG) (tt:DT) (te:DE):DE:=fun δ S R=>i δ S fun ds S1=>zeL S1.length g tt te (fun S2=>∃ S0 acc,S2 = S0 ++ [acc]/\S0.length = S1.length/\R (.d (.list acc)) S0) ds (znS caps δ) (S1 ++ [[]])
theorem RepS.pop {h o r:List Addr} {H:Hp} {S0 T:Sto} (hs:RepS h (o ++ r) H (S0 ++ T)) (hl:S0.length = o.length):RepS h o H S0 where
 len:=hl
 nd:=(List.nodup_append.mp hs.nd).1
 dis:=fun a ha=>hs.dis a (List.mem_append_left _ ha)
 hal:=hs.hal
 cont:=fun k a ds e1 e2=>by
  obtain ⟨vs,e3,l⟩:=hs.cont k a ds (zd4 e1) (zd4 e2)
  exact ⟨vs,e3,l.mono fun b u e=>by
   obtain ⟨z1,z2,z3⟩:=zah.mp e
   exact zah.mpr ⟨z1,fun m=>z2 (List.mem_append_left _ m),z3⟩⟩
theorem zfB {h o r:List Addr} {H:Hp}:Same (vx h (o ++ r) H) (vx h o H):=fun b u e=>by
 obtain ⟨z1,z2,z3⟩:=zah.mp e
 exact zah.mpr ⟨z1,fun m=>z2 (List.mem_append_left _ m),z3⟩
theorem Ex.pop {o o' r:List Addr} {H H':Hp} (e:Ex o H (o ++ r) H'):Ex o H o H':=⟨⟨[],by simp⟩,fun b u hb eb=>⟨hb,(e.kp b u hb eb).2⟩⟩
theorem zh2 {caps:List (Option Nat)} {wi:TI} {g:TG} {tt:TT} {te:TE} {di:DI} {dg:DG} {dtt:DT} {dte:DE} (hi:RI wi di) (hg:RG g dg) (ht:RT tt dtt) (he':RE te dte)
  {h o:List Addr} {H:Hp} {δ:XE} {σ:St} {S:Sto} {Q:VK} {fin:Nat->Sto->Prop} (he:RepE h o H δ σ) (hs:RepS h o H S) (q:di δ S fun ds S1=>zeL S1.length dg dtt dte (fin S1.length) ds (znS caps δ) (S1 ++ [[]]))
  (c:∀ o1 H1 D o2 H2 S2,Ex o H o1 H1->H1 D = none->Ex (o1 ++ [D]) (upd H1 D (.lst [])) o2 H2->RepS h o2 H2 S2->fin o1.length S2->Q (.ref D) H2):zjl caps wi g tt te σ H Q:=by
 refine hi h o H δ σ S _ _ he hs q fun o1 H1 S1 ds J e1 s1 wk d1 D hD=>?_
 have eN:Ex o1 H1 (o1 ++ [D]) (upd H1 D (.lst [])):=Ex.new s1 hD
 have sN:RepS h (o1 ++ [D]) (upd H1 D (.lst [])) (S1 ++ [[]]):=s1.new hD (zR.mpr rfl)
 have hn:S1.length = o1.length:=s1.len
 refine ⟨fun i m τ H2=>m = ds.length - i/\i <= ds.length/\∃ o2 δ2 S2,Ex (o1 ++ [D]) (upd H1 D (.lst [])) o2 H2/\RepE h o2 H2 δ2 τ/\RepS h o2 H2 S2/\zeL S1.length dg dtt dte (fin S1.length) (ds.drop i) δ2 S2,⟨ds.length,by simp,Nat.zero_le _,_,_,_,Ex.refl,((he.mono e1).mono eN).tau,sN,d1⟩,?_⟩
 rintro i m τ H2 ⟨rfl,hi,o2,δ2,S2,e2,he2,hs2,d2⟩
 by_cases hlt:i < ds.length
 ·have ed:ds[i]? = some ds[i]:=List.getElem?_eq_getElem hlt
  rw [List.drop_eq_getElem_cons hlt] at d2
  refine .inr ⟨wk.go i _ o2 H2 (eN.trans e2).hid ed,fun x H3 y=>?_⟩
  obtain ⟨s3,hx⟩:=wk.yld i _ o2 H2 x H3 S2 (eN.trans e2).hid hs2 ed y
  have e23:Ex o2 H2 o2 H3:=Ex.of_same s3
  refine hg h o2 H3 δ2 τ S2 (.d ds[i]) x _ _ (he2.mono e23) (hs2.same s3) hx d2 fun o4 H4 δ4 S4 τ4 e4 he4 hs4 d4=>?_
  refine ht h o4 H4 δ4 τ4 S4 _ _ he4 hs4 d4 fun o5 H5 S5 b e5 s5 d5=>?_
  have e15:=((e2.trans e23).trans e4).trans e5
  cases b with
  | false=>exact zmE ⟨ds.length - (i + 1),by omega,rfl,hlt,o5,δ4,S5,e15,he4.mono e5,s5,by simpa using d5⟩
  | true =>
   refine zlL (he' h o5 H5 δ4 τ4 S5 _ _ (he4.mono e5) s5 (by simpa using d5) fun o6 H6 S6 z v e6 s6 z6 d6=>?_)
   replace d6:=ze5 d6
   obtain ⟨e,rfl,acc,ea,hl,d6⟩:=d6
   have e16:=e15.trans e6
   have eD:o6[S1.length]? = some D:=by
    obtain ⟨r,rfl⟩:=e16.pre
    rw [hn]
    exact zd4 (by rw [List.getElem?_concat_length])
   obtain ⟨vs,ev,l⟩:=s6.cont _ D acc eD ea
   refine ⟨vs,ev,by rw [l.length]; exact small1000 (Nat.le_of_lt hl),ds.length - (i + 1),by omega,rfl,hlt,o6,δ4,_,e16.trans (Ex.upd eD),((he4.mono e5).mono e6).mono (Ex.upd eD),s6.upd eD (l.append (zH.mpr ⟨v,[],rfl,z6,zR.mpr rfl⟩)),d6⟩
 ·have ei:i = ds.length:=by omega
  subst ei
  rw [List.drop_length] at d2
  exact .inl ⟨wk.stop _ o2 H2 (eN.trans e2).hid (Nat.le_refl _),c o1 H1 D o2 H2 S2 e1 hD e2 hs2 (hn ▸ d2)⟩
theorem ze8 {caps:List (Option Nat)} {wi:TI} {g:TG} {tt:TT} {te:TE} {di:DI} {dg:DG} {dtt:DT} {dte:DE} (hi:RI wi di) (hg:RG g dg) (ht:RT tt dtt) (he':RE te dte):RE (zjl caps wi g tt te) (zfz caps di dg dtt dte):=fun h o H δ σ S R Q he hs q c=>by
 refine zh2 (fin:=fun n S2=>R (.l n) S2) hi hg ht he' he hs q fun o1 H1 D o2 H2 S2 e1 hD e2 s2 f=>?_
 have eN:Ex o1 H1 (o1 ++ [D]) (upd H1 D (.lst [])):=⟨⟨[D],rfl⟩,fun b w hb e=>by
  have ne:b ≠ D:=zO e hD
  exact ⟨by simp [hb,ne],by rw [zS ne]; exact e⟩⟩
 refine c o2 H2 S2 (.l o1.length) _ ((e1.trans eN).trans e2) s2 ⟨D,?_,rfl⟩ f
 obtain ⟨r,rfl⟩:=e2.pre
 exact zd4 (by rw [List.getElem?_concat_length])
theorem za3 {caps:List (Option Nat)} {wi:TI} {g:TG} {tt:TT} {te:TE} {di:DI} {dg:DG} {dtt:DT} {dte:DE} (hi:RI wi di) (hg:RG g dg) (ht:RT tt dtt) (he':RE te dte):RE (zjl caps wi g tt te) (zck caps di dg dtt dte):=fun h o H δ σ S R Q he hs q c=>by
 refine zh2 (fin:=fun n S2=>∃ (S0:Sto) (acc:List PyData),S2 = S0 ++ [acc]/\S0.length = n/\R (.d (.list acc)) S0) hi hg ht he' he hs q fun o1 H1 D o2 H2 S2 e1 hD e2 s2 ⟨S0,acc,eS,hl,f⟩=>?_
 subst eS
 have eN:Ex o1 H1 (o1 ++ [D]) (upd H1 D (.lst [])):=⟨⟨[D],rfl⟩,fun b w hb e=>by
  have ne:b ≠ D:=zO e hD
  exact ⟨by simp [hb,ne],by rw [zS ne]; exact e⟩⟩
 have e12:=eN.trans e2
 obtain ⟨r,rfl⟩:=e2.pre
 have er:r = []:=by
  have:=s2.len
  simp only [List.length_append,List.length_singleton,hl] at this
  exact List.eq_nil_of_length_eq_zero (by omega)
 subst er
 rw [List.append_nil] at s2 e12
 have s0:RepS h o1 H2 S0:=s2.pop hl
 refine c o1 H2 S0 (.d (.list acc)) _ (e1.trans (Ex.pop (o':=o1) e12)) s0 ?_ f
 obtain ⟨vs,ev,l⟩:=s2.cont o1.length D acc (by rw [List.getElem?_concat_length]) (by rw [<- hl,List.getElem?_concat_length])
 have nD:D ∉ o1:=by
  have:=(List.nodup_append.mp s2.nd).2.2
  intro m
  exact this D m D (by simp) rfl
 exact zba.mpr ⟨D,vs,rfl,zah.mpr ⟨s2.dis D (by simp),nD,ev⟩,l.mono zfB⟩
def fin (n:Nat) (R:RX):RX:=fun y S'=>match y with
 | .l k=>if k < n then R (.l k) (S'.take n) else ∃ ds,S'[k]? = some ds/\(R (.d (.list ds)) (S'.take n)\/R (.l n) (S'.take n ++ [ds]))
 | y=>R y (S'.take n)
theorem zoo {h o:List Addr} {H:Hp} {S:Sto} {R:RX} {Q:VK} (hs:RepS h o H S) (c:Cn h o H R Q):Cn h o H (fin S.length R) Q:=fun o' H' S' y v e s' hy q=>by
 obtain ⟨r,rfl⟩:=e.pre
 have eS:S' = S'.take S.length ++ S'.drop S.length:=(List.take_append_drop _ _).symm
 have hl:(S'.take S.length).length = o.length:=by
  have:=s'.len
  rw [List.length_append] at this
  rw [List.length_take,this,hs.len]
  omega
 have s0:RepS h o H' (S'.take S.length):=by
  rw [eS] at s'
  exact s'.pop hl
 have e0:Ex o H o H':=Ex.pop (o':=o) e
 cases y with
 | d d=>exact c o H' _ (.d d) v e0 s0 (Has.mono zfB d v hy) q
 | o w=>exact c o H' _ (.o w) v e0 s0 hy q
 | x C fs=>exact c o H' _ (.x C fs) v e0 s0 (HasE.mono zfB hy) q
 | l k =>
  unfold fin at q
  by_cases hk:k < S.length
  ·simp only [hk,↓reduceIte] at q
   obtain ⟨a,ea,rfl⟩:=hy
   exact c o H' _ (.l k) _ e0 s0 ⟨a,by rw [List.getElem?_append_left (by rw [<- hs.len]; exact hk)] at ea; exact ea,rfl⟩ q
  ·simp only [hk,↓reduceIte] at q
   obtain ⟨ds,eds,q⟩:=q
   obtain ⟨a,ea,rfl⟩:=hy
   obtain ⟨vs,ev,l⟩:=s'.cont k a ds ea eds
   have na:a ∉ o:=fun m=>by
    obtain ⟨j,ej⟩:=List.mem_iff_getElem?.mp m
    have hj:j < o.length:=(List.getElem?_eq_some_iff.mp ej).1
    have:=ze3 s'.nd (zd4 (t:=r) ej) ea
    rw [hs.len] at hk
    omega
   have nh:a ∉ h:=s'.dis a (List.mem_of_getElem? ea)
   rcases q with q | q
   ·exact c o H' _ (.d (.list ds)) _ e0 s0 (zba.mpr ⟨a,vs,rfl,zah.mpr ⟨nh,na,ev⟩,l.mono zfB⟩) q
   ·have hn:H a = none:=by
     cases eh:H a with
     | none=>rfl
     | some u=>exact absurd (List.mem_of_getElem? ea) (e.kp a u na eh).1
    have e1:Ex o H (o ++ [a]) H':=⟨⟨[a],rfl⟩,fun b u hb eb=>⟨by simp only [List.mem_append,List.mem_singleton,not_or]; exact ⟨hb,zO eb hn⟩,(e0.kp b u hb eb).2⟩⟩
    have sub:Same (vx h (o ++ r) H') (vx h (o ++ [a]) H'):=fun b u eb=>by
     obtain ⟨z1,z2,z3⟩:=zah.mp eb
     refine zah.mpr ⟨z1,?_,z3⟩
     simp only [List.mem_append,List.mem_singleton,not_or]
     exact ⟨fun m=>z2 (List.mem_append_left _ m),fun z=>z2 (by rw [z]; exact List.mem_of_getElem? ea)⟩
    refine c (o ++ [a]) H' _ (.l S.length) _ e1 ⟨by rw [List.length_append,List.length_append,hl]; rfl,zdt hs.nd na,fun b hb=>?_,s0.hal,fun j b es q1 q2=>?_⟩ ⟨a,by rw [hs.len,List.getElem?_concat_length],rfl⟩ q
    ·rcases List.mem_append.mp hb with hb | hb
     ·exact hs.dis b hb
     ·rw [List.mem_singleton.mp hb]; exact nh
    ·by_cases hj:j < o.length
     ·rw [List.getElem?_append_left hj] at q1
      rw [List.getElem?_append_left (by rw [hl]; exact hj),List.getElem?_take_of_lt (by rw [hs.len]; exact hj)] at q2
      obtain ⟨ws,e3,l3⟩:=s'.cont j b es (zd4 q1) q2
      exact ⟨ws,e3,l3.mono sub⟩
     ·have hj':j = o.length:=by
       obtain ⟨q,_⟩:=List.getElem?_eq_some_iff.mp q1
       rw [List.length_append,List.length_singleton] at q
       omega
      subst hj'
      rw [List.getElem?_concat_length] at q1
      rw [<- hl,List.getElem?_concat_length] at q2
      cases q1
      cases q2
      exact ⟨vs,ev,l.mono sub⟩
def zcr (n:Nat) (R:RX):DEnds:={ nx:=fun _ S'=>fin n R (.d .none) S',rt:=fin n R }
theorem eok {h o:List Addr} {H:Hp} {S:Sto} {R:RX} {Q:VK} (hs:RepS h o H S) (c:Cn h o H R Q):EOk h o H (zcr S.length R) { nx:=fun _ H'=>Q .non H',rt:=Q } :=
 ⟨fun o' H' δ' S' σ' e he hs' q=>zoo hs c o' H' S' _ _ e hs' xN q,zoo hs c,fun _ _ _ _ _ _ _ _ q=>q.elim,fun _ _ _ _ _ _ _ _ q=>q.elim⟩
def zae (p:List PyData):Prop:=∃ l g s:Int,p = [.int l,.int g,.int s]/\0 <= l
end
section
def zs0 (K:W.Frag):List V->Hp->VK->Prop:=fun xs H Q=>∃ (p:Addr) (ns:List Int),xs = [.ref p]/\SqL K H p (ns.map V.int)/\Q (.int ns.sum) H
def zta (K:W.Frag):List V->Hp->VK->Prop:=fun xs H Q=>∃ (p:Addr) (bs:List Bool),xs = [.ref p]/\SqL K H p (bs.map V.bl)/\Q (.bl (bs.all id)) H
theorem zn4:bootBuiltins "sum" = some (.builtin "sum"):=by decide +kernel
theorem zor:bootBuiltins "all" = some (.builtin "all"):=by decide +kernel
section
variable {X:Cx}
theorem zh6 (hc:X.calm = true):CallR X (.builtin "sum") (zs0 X.K):=by
 intro zm s σ H xs us Q I r h
 obtain ⟨p,ns,rfl,hq,q⟩:=h
 obtain ⟨u,rfl,rx⟩:=vals1 r
 cases (show u = Value.ref p from rx)
 obtain ⟨its,rv,pl,_⟩:=I.list hq
 obtain ⟨ys,e,hns⟩:=zgs (zb1 rv)
 refine sum_intListG (I.ok.hd hc) (by rw [<- e]; exact pl.isList) fun h' tk t' hk=>⟨.int ns.sum,H,I.kept (t':=tk) hk,⟨t',?_⟩,q⟩
 have es:preSum (numAt ys) ys.size = ns.sum:=by
  rw [preSum_eq,hns,List.take_of_length_le (by simp)]
 rw [es]
theorem zj4:∀ {bs:List Bool} {us:List Value} {i:Nat} {v:Value},Vals (bs.map V.bl) us->us[i]? = some v->∃ b,bs[i]? = some b/\v = .bool b
 | [],_,i,v,.nil,e=>by simp at e
 | b :: bs,_,0,v,.cons r _,e=>by
  rw [List.getElem?_cons_zero] at e
  cases e
  exact ⟨b,rfl,r⟩
 | b :: bs,_,i + 1,v,.cons _ t,e=>by
  obtain ⟨c,e1,e2⟩:=zj4 (i:=i) (v:=v) t (by simpa using e)
  exact ⟨c,by simpa using e1,e2⟩
theorem zpi (bs:List Bool):((List.range bs.length).all fun i=>(bs[i]?).getD true) = bs.all id:=by
 rw [Bool.eq_iff_iff,List.all_eq_true,List.all_eq_true]
 constructor
 ·intro h b hb
  obtain ⟨i,hi⟩:=List.mem_iff_getElem?.mp hb
  have hl:=(List.getElem?_eq_some_iff.mp hi).1
  have:=h i (List.mem_range.mpr hl)
  rw [hi] at this
  exact this
 ·intro h i hi
  have hl:=List.mem_range.mp hi
  rw [List.getElem?_eq_getElem hl]
  exact h _ (List.getElem_mem hl)
theorem ziI (hc:X.calm = true):CallR X (.builtin "all") (zta X.K):=by
 intro zm s σ H xs us Q I r h
 obtain ⟨p,bs,rfl,hq,q⟩:=h
 obtain ⟨u,rfl,rx⟩:=vals1 r
 cases (show u = Value.ref p from rx)
 obtain ⟨its,rv,pl,_⟩:=I.list hq
 have hl:=pl.isList
 have hlt:p < s.heap.objs.size:=by
  obtain ⟨_,e,_⟩:=hl
  exact Heap.lt_size e
 refine call_all_walk (x:=Value.ref p) (wpAny_pyIter_list hl ?_)
 refine ⟨s.heap.objs.size,[s.heap.objs.size,p],[s.heap.objs.size],its.toArray.size,_,_,fun i=>(bs[i]?).getD true,rfl,
  Walks.list (A:=X.A.in1) (I.ok.hd hc) _ p (Nat.ne_of_lt hlt) its.toArray,⟨⟨_,Heap.get?_push_size _ rfl,rfl,rfl⟩,hl.push _⟩,fun i v s' Q' E' hP hQ=>?_,fun h' tk hk=>?_⟩
 ·obtain ⟨b,e,rfl⟩:=zj4 (i:=i) (v:=v) rv (by simpa using hP)
  have hQ':Q' b s':=by simpa [e] using hQ
  exact wpAny_truthy_bool hQ'
 ·have hz:its.toArray.size = bs.length:=by
   have:=rv.length
   rw [List.length_map] at this
   simp [this]
  rw [hz,zpi]
  refine ⟨.bl _,H,I.kept (t':=tk) fun b o e=>hk b o (fun hm=>?_) (Heap.get?_push_of_some _ e),rfl,q⟩
  rw [List.mem_singleton.mp hm] at e
  exact Nat.lt_irrefl _ (Heap.lt_size e)
end
def zre:List XV->Sto->RX->Prop:=fun xs S R=>arg1 xs fun x=>∃ ds,zkR S x = some ds/\∃ ns:List Int,ds = ns.map PyData.int/\R (.d (.int ns.sum)) S
theorem zow {K:W.Frag}:RC (zs0 K) zre:=fun h o H S xs vs R Q hs hx q c=>by
 obtain ⟨x,rfl,ds,hd,ns,rfl,q1⟩:=zbb q
 obtain ⟨v,rfl,hx1⟩:=hxs1 hx
 obtain ⟨a,ws,rfl,ea,l⟩:=zbp hs hd hx1
 rw [zdq l] at ea
 exact ⟨a,ns,rfl,.of ea,c o H S _ _ Ex.refl hs (xI _) q1⟩
theorem zhO {H:Hp}:∀ {ns:List Bool} {vs:List V},HasL H (ns.map PyData.bool) vs->vs = ns.map V.bl
 | [],vs,h=>zR.mp h
 | n :: ns,vs,h=>by
  obtain ⟨v,r,rfl,h1,h2⟩:=zH.mp h
  rw [zc6.mp h1,zhO h2]
  rfl
def zq6:List XV->Sto->RX->Prop:=fun xs S R=>arg1 xs fun x=>∃ ds,zkR S x = some ds/\∃ ns:List Bool,ds = ns.map PyData.bool/\R (.d (.bool (ns.all id))) S
theorem zol {K:W.Frag}:RC (zta K) zq6:=fun h o H S xs vs R Q hs hx q c=>by
 obtain ⟨x,rfl,ds,hd,ns,rfl,q1⟩:=zbb q
 obtain ⟨v,rfl,hx1⟩:=hxs1 hx
 obtain ⟨a,ws,rfl,ea,l⟩:=zbp hs hd hx1
 rw [zhO l] at ea
 exact ⟨a,ns,rfl,.of ea,c o H S _ _ Ex.refl hs (xB _) q1⟩
section
variable {S:Sto} {i:Int} {b:Bool} {z:Str} {ds:List PyData} {d:PyData} {k:Nat} {x y:XV} {R:RX} {c:String} {p:List PyData} {n:Nat} {v:V}
theorem zqx {K:Int->Prop}:asI (.d (.int i)) K = K i:=rfl
theorem zsa {K:Bool->Prop}:asB (.d (.bool b)) K = K b:=rfl
theorem zqL {K:Str->Prop}:asS (.d (.str z)) K = K z:=rfl
theorem zr4 {K:List PyData->Prop}:asT (.d (.tuple ds)) K = K ds:=rfl
theorem zr5 {K:PyData->Prop}:asD (.d d) K = K d:=rfl
theorem zo1:zkR S (.d (.list ds)) = some ds:=rfl
theorem zr2:asQ S (.d (.list ds)) = some ds:=rfl
theorem zr1:asQ S (.d (.tuple ds)) = some ds:=rfl
theorem zrj:asQ S (.l k) = S[k]?:=rfl
theorem zlp:zd2 S (.d d) = some d:=rfl
theorem zmk:zd2 S (.l k) = (S[k]?).map .list:=rfl
theorem zoY:ret0 S R (.d d) [] = R (.d d) S:=rfl
theorem zoH:ret0 S R (.l 0) [ds] = R (.l S.length) (S ++ [ds]):=rfl
theorem zoz:zse k S R (.d d) [p] = R (.d d) (S.set k p):=rfl
theorem zqB:fin n R (.d d) S = R (.d d) (S.take n):=rfl
theorem zq0:fin n R (.l k) S = if k < n then R (.l k) (S.take n) else ∃ ds,S[k]? = some ds/\(R (.d (.list ds)) (S.take n)\/R (.l n) (S.take n ++ [ds])):=rfl
theorem zoX {K:XV->Prop}:arg1 [x] K = K x:=rfl
theorem zn5 {K:XV->XV->Prop}:arg2 [x,y] K = K x y:=rfl
theorem zoN {K:String->Prop}:zsu (.o (.ty c)) K ↔ K c:=⟨fun ⟨_,e,q⟩=>by cases e; exact q,fun q=>⟨c,rfl,q⟩⟩
theorem zoy {K:Int->Prop}:zsH (.d (.bool b)) K = K (if b then 1 else 0):=rfl
theorem zlE {δ:XE}:(zcr n R).nx δ S = fin n R (.d .none) S:=rfl
theorem zlA:(zcr n R).rt x S = fin n R x S:=rfl
theorem ziF:datas [] = some []:=rfl
theorem zgO {r:List XV}:datas (.d d :: r) = (datas r).map (d :: ·):=rfl
end
theorem zry {α:Type} {a:α} {l:List α}:atI (a :: l) 0 = some a:=zdO (j:=0) rfl
theorem zrE {α:Type} {a b:α} {l:List α}:atI (a :: b :: l) 1 = some b:=zdO (j:=1) rfl
theorem zrM {α:Type} {a b c:α} {l:List α}:atI (a :: b :: c :: l) 2 = some c:=zdO (j:=2) rfl
theorem zqu {α:Type} {a b c d:α} {l:List α}:atI (a :: b :: c :: d :: l) 3 = some d:=zdO (j:=3) rfl
theorem zqG {α:Type} {a b c d e:α} {l:List α}:atI (a :: b :: c :: d :: e :: l) 4 = some e:=zdO (j:=4) rfl
def Shp (n:Nat) (d:PyData):Prop:=d.canLay0 = true/\d.depth <= n
theorem zjh {n:Nat} {i:Int}:Shp n (.int i):=⟨rfl,Nat.zero_le _⟩
theorem zm4 {n:Nat} {i:Bool}:Shp n (.bool i):=⟨rfl,Nat.zero_le _⟩
theorem zjr {n:Nat}:∀ {ds:List PyData},(∀ d ∈ ds,Shp n d)->PyData.canLayAll0 ds = true/\PyData.depthAll ds <= n
 | [],_=>⟨by simp only [PyData.canLayAll0],by simp only [PyData.depthAll]; exact Nat.zero_le _⟩
 | d :: ds,h=>by
  obtain ⟨h1,h2⟩:=h d List.mem_cons_self
  obtain ⟨h3,h4⟩:=zjr (ds:=ds) fun e m=>h e (List.mem_cons_of_mem _ m)
  simp only [PyData.canLayAll0,PyData.depthAll,h1,h3,Bool.and_true,true_and]
  omega
theorem zhy {n:Nat} {ds:List PyData} (h:∀ d ∈ ds,Shp n d):Shp (n + 1) (.list ds):=by
 obtain ⟨h1,h2⟩:=zjr h
 exact ⟨by simp only [PyData.canLay0]; exact h1,by simp only [PyData.depth]; omega⟩
theorem zmH {n:Nat} {ds:List PyData} (h:∀ d ∈ ds,Shp n d):Shp (n + 1) (.tuple ds):=by
 obtain ⟨h1,h2⟩:=zjr h
 exact ⟨by simp only [PyData.canLay0]; exact h1,by simp only [PyData.depth]; omega⟩
theorem ziY {α:Type} {n:Nat} {f:α->PyData} {l:List α} (h:∀ x ∈ l,Shp n (f x)):∀ d ∈ l.map f,Shp n d:=fun d m=>by
 obtain ⟨x,hx,rfl⟩:=List.mem_map.mp m
 exact h x hx
theorem zsw {n:Nat} {a b:PyData} (h1:Shp n a) (h2:Shp n b):∀ d ∈ [a,b],Shp n d:=by
 intro d m
 simp only [List.mem_cons,List.not_mem_nil,or_false] at m
 rcases m with rfl | rfl
 ·exact h1
 ·exact h2
theorem Shp.ok {n:Nat} {d:PyData} (h:Shp n d) (hn:n <= 64:=by decide):SeqAt.shaped d = true:=by
 unfold SeqAt.shaped
 rw [h.1,decide_eq_true (Nat.le_trans h.2 hn)]
 rfl
theorem zaN {g:DG} {b:DS} {E:DEnds}:∀ {ds:List PyData} {δ:XE} {S:Sto} (I:Nat->XE->Sto->Prop),I 0 δ S ->
  (∀ i d δ S (N:XE->Sto->Prop),ds[i]? = some d->I i δ S->(∀ δ' S',I (i + 1) δ' S'->N δ' S')->g (.d d) δ S fun δ1 S1=>b { nx:=N,ct:=N,bk:=E.nx,rt:=E.rt } δ1 S1) ->
  (∀ δ S,I ds.length δ S->E.nx δ S)->zkI g b ds E δ S
 | [],δ,S,I,h0,_,fin=>fin δ S h0
 | d :: ds,δ,S,I,h0,step,fin=>by
  show g (.d d) δ S fun δ1 S1=>b _ δ1 S1
  refine step 0 d δ S _ rfl h0 fun δ' S' h1=>?_
  exact zaN (ds:=ds) (fun i=>I (i + 1)) h1 (fun i e δ S N hi=>step (i + 1) e δ S N (by simpa using hi)) fin
theorem zff {α:Type} {l:List α} {a b:α} {n:Nat} (h:l.length = n):(l ++ [a]).set n b = l ++ [b]:=by
 subst h
 rw [List.set_append_right _ _ (Nat.le_refl _),Nat.sub_self]
 rfl
theorem zpj {H:Hp}:RepS [] [] H []:=⟨rfl,List.nodup_nil,fun _ h=>(nomatch h),fun _ h=>(nomatch h),fun _ _ _ e=>(by simp at e)⟩
theorem Ex.same_nil {o':List Addr} {H H':Hp} (e:Ex [] H o' H'):Same H H':=fun b u q=>(e.kp b u (by simp) q).2
theorem zp9 {K:W.Frag} {a:Addr} {ns:List Int} {N:Int} {j m:Nat} {tb:TS} {db:DS} {D:Ends} {σ:St} {H:Hp} (hb:RS tb db) (h0:σ[0]? = some (some (.ref a))) (hl:σ.length = m + 1) (hS:SqL K H a (ns.map V.int)) (hlen:ns.length <= 63)
  (turn:∀ n:Int,db { nx:=fun δ _=>δ[0]? = some (some (.o (.ref a)))/\δ.length = m + 1,ct:=fun δ _=>δ[0]? = some (some (.o (.ref a)))/\δ.length = m + 1,rt:=fun _ _=>False } ((some (.o (.ref a)) :: List.replicate m none).set j (some (.d (.int n)))) [])
  (hj:j ≠ 0) (done:∀ (σ:St) (H1:Hp),Same H H1->D.nx σ H1) :
  zq2 (zpV K (tOp zqt (zqo (zjm (tC2 (zp7 K) (zmR 0) (tC (.int 0))) zqp)) (tSl (zqJ K) (zmR 0) (zkJ (tC (.int 1))) (zkJ (tC (.int N)))))) (zjb j) tb D σ H:=by
 refine zln (a:=a) (ns:=ns) (fun σ=>σ[0]? = some (some (.ref a))/\σ.length = m + 1) h0 hS hlen ⟨h0,hl⟩ ?_ fun σ H1 _ s=>done σ H1 s
 rintro n σ1 H1 H2 ⟨z0,z1⟩ s1 s2
 refine hb [] [] H2 _ _ [] _ _ ⟨by simp [z1],fun i x e=>?_⟩ zpj (turn n) ⟨?_,fun _ _ _ _ _ _ _ _ q=>q.elim,fun _ _ _ _ _ _ _ _ q=>q.elim,?_⟩
 ·rw [List.getElem?_set] at e ⊢
  by_cases hij:j = i
  ·rw [if_pos hij] at e ⊢
   by_cases hjl:j < m + 1
   ·rw [if_pos (by simpa using hjl)] at e
    rw [if_pos (by rw [z1]; exact hjl)]
    cases e
    exact ⟨.int n,rfl,xI n⟩
   ·rw [if_neg (by simpa using hjl)] at e
    cases e
  ·rw [if_neg hij] at e ⊢
   cases i with
   | zero =>
    cases e
    exact ⟨.ref a,z0,rfl⟩
   | succ i =>
    rw [List.getElem?_cons_succ,List.getElem?_replicate] at e
    split at e <;> cases e
 ·rintro o' H' δ' S' σ' e he hs ⟨q1,q2⟩
  obtain ⟨v,ev,hv⟩:=he.get 0 _ q1
  cases hv
  exact ⟨s2.trans e.same_nil,ev,by rw [<- he.len]; exact q2⟩
 ·rintro o' H' δ' S' σ' e he hs ⟨q1,q2⟩
  obtain ⟨v,ev,hv⟩:=he.get 0 _ q1
  cases hv
  exact ⟨s2.trans e.same_nil,ev,by rw [<- he.len]; exact q2⟩
end
section
theorem zmu {P:Program} {w:World} {K:W.Frag} {tg:Expr} (it:Addr) (lo:Int) (n:Nat):Turn P w K tg (Itr lo n) [it] it (fun i h=>IsLongIter h it (lo + (i:Nat) * 1) ((n:Int) - (i:Nat)) 1) where
 mem:=by simp
 obj:=fun i h st b hb=>by
  have e:b = it:=by simpa using hb
  subst e
  exact ⟨_,st,fun v z=>by
   have z':Data.fields _ = Data.cell v:=z
   cases z'⟩
 keep:=fun i h h' st k=>k it (by simp) _ st
 item:=by
  intro X hP hw hK hc i zm s σ H E I hf st hg
  subst hP hw hK
  obtain ⟨f0,f1,f2,f3,f4,f5⟩:=hf it (by simp)
  have W:=Walks.longrange (prog:=X.prog) (w:=X.w) (I.ok.hd hc) it lo 1 n
  refine W.item i s _ _ hg st fun v h' tk hv st' kk=>?_
  obtain ⟨t,rfl⟩:=hv
  have I1:Inv X zm σ H { s with heap:=h',toks:=tk }:=I.turned (fun b o hb e=>kk b o (by simpa using hb) e) f0 f1 f3 f4 f5
  refine ⟨_,rfl,zmW (s:={ s with heap:=h',toks:=tk }) (n:="longrange_iterator") st' rfl rfl (by decide) ⟨.int (lo + i),H,I1,⟨t,?_⟩,⟨rfl,rfl⟩,st',fun b hb=>(hf b hb).1⟩⟩
  rw [Int.mul_one]
 done:=by
  intro X hP hw hK hc i zm s σ H E I hf st hg
  subst hP hw hK
  obtain ⟨f0,f1,f2,f3,f4,f5⟩:=hf it (by simp)
  exact wpAny_pyNext_long_end (I.ok.hd hc) st (by have:n <= i:=hg; omega) fun h' eb=>⟨rfl,I.turned (t':=s.toks) (fun b o hb e=>eb b o hb e) f0 f1 f3 f4 f5⟩
 self:=fun _ _ _ _ _ st h=>wpAny_pyIter_longiter st h
section
variable {X:Cx} {tg:Expr}
theorem zmG {zm:List (Addr × Obj)} {σ:St} {H:Hp} {s:Shared} {R:It->Hp->Prop} {E:Value->Shared->Prop} {lo hi:Int} {t u v:Tok} {tk:Nat} (I:Inv X zm σ H s)
  (q:R (Itr lo (hi - lo).toNat) H):wpAny (model X.prog X.w) X.A (pyIter (.ref s.heap.objs.size)) (PIE X zm σ tg R) E { s with heap:=s.heap.push { cls:=.type "range",data:=.fields #[.int lo t,.int hi u,.int 1 v] },toks:=tk }:=by
 have I1:Inv X zm σ H { s with heap:=s.heap.push { cls:=.type "range",data:=.fields #[.int lo t,.int hi u,.int 1 v] },toks:=tk }:=I.kept fun b o e=>Heap.get?_push_of_some _ e
 have e1:lo + ((0:Nat):Int) * 1 = lo:=by simp
 have e2:(((hi - lo).toNat:Nat):Int) - ((0:Nat):Int) = Builtin.Range.rangeSize lo hi 1:=by rw [rangeSize_one]; split <;> omega
 cases hsm:Builtin.Range.small lo hi 1 with
 | true =>
  refine wpAny_pyIter_range (IsRange.new ..) hsm ?_
  refine ⟨(s.heap.push { cls:=.type "range",data:=.fields #[.int lo t,.int hi u,.int 1 v] }).objs.size,[(s.heap.push { cls:=.type "range",data:=.fields #[.int lo t,.int hi u,.int 1 v] }).objs.size],_,_,H,rfl,
   I1.kept (t':=tk) fun b o e=>Heap.get?_push_of_some _ e,zks _ lo (hi - lo).toNat,?_,fun b hb=>?_,q⟩
  ·show IsRangeIter _ _ (lo + ((0:Nat):Int) * 1) ((((hi - lo).toNat:Nat):Int) - ((0:Nat):Int)) 1
   rw [e1,e2]
   exact Heap.get?_push_size _ rfl
  ·have e:b = (s.heap.push { cls:=.type "range",data:=.fields #[.int lo t,.int hi u,.int 1 v] }).objs.size:=by simpa using hb
   subst e
   exact I1.fpOk (Nat.le_refl _) (I1.hok.fresh (Nat.le_refl _))
 | false =>
  refine wpAny_pyIter_longrange (IsRange.new ..) hsm ?_
  refine ⟨(s.heap.push { cls:=.type "range",data:=.fields #[.int lo t,.int hi u,.int 1 v] }).objs.size,[(s.heap.push { cls:=.type "range",data:=.fields #[.int lo t,.int hi u,.int 1 v] }).objs.size],_,_,H,rfl,
   I1.kept (t':=tk) fun b o e=>Heap.get?_push_of_some _ e,zmu _ lo (hi - lo).toNat,?_,fun b hb=>?_,q⟩
  ·show IsLongIter _ _ (lo + ((0:Nat):Int) * 1) ((((hi - lo).toNat:Nat):Int) - ((0:Nat):Int)) 1
   rw [e1,e2]
   exact Heap.get?_push_size _ rfl
  ·have e:b = (s.heap.push { cls:=.type "range",data:=.fields #[.int lo t,.int hi u,.int 1 v] }).objs.size:=by simpa using hb
   subst e
   exact I1.fpOk (Nat.le_refl _) (I1.hok.fresh (Nat.le_refl _))
def zog (ta:TA):TI:=fun σ H R=>ta σ H fun vs H1=>∃ j:Int,vs = [.int j]/\R (Itr 0 j.toNat) H1
theorem zaR {a:Expr} {ta:TA} {p pos:Pos} (hg:Gl X "range") (hm:X.mg "range" = none) (ha:PA X [a] ta) (hs:starEach [a] X.env = [(false,eval a X.env)]:=by rfl):PI X tg (.Call (.Name "range" p) [a] [] pos) (zog ta):=by
 intro zm s σ H R I h
 refine Call_ (ze1 I hg hm boot_range (PyProof.Rows.callWith_type1 (thn (ha pos zm s σ H _ I h) fun us s1 ⟨vs,H1,I1,r1,q1⟩=>?_) hs rfl))
 obtain ⟨j,e,q⟩:=q1
 subst e
 cases r1 with
 | cons r rr =>
  cases rr
  obtain ⟨t,rfl⟩:=r
  exact call_range_1 (zmG I1 (by simpa using q))
end
def zbc (a:DA):DI:=fun δ S R=>a δ S fun xs S1=>arg1 xs fun x=>asI x fun j=>R (zfI 0 j.toNat) S1
def zlj (a:DA):DI:=fun δ S R=>a δ S fun xs S1=>arg2 xs fun x y=>asI x fun i=>asI y fun j=>R (zfI i (j - i).toNat) S1
theorem zbS {ta:TA} {da:DA} (ha:RA ta da):RI (zog ta) (zbc da):=fun h o H δ σ S R Q he hs q c =>
 ha h o H δ σ S _ _ he hs q fun o1 H1 S1 xs vs e1 s1 x1 d0=>by
  obtain ⟨x,rfl,d2⟩:=zbb d0
  obtain ⟨j,rfl,d1⟩:=zbB d2
  obtain ⟨v,rfl,hv⟩:=hxs1 x1
  rw [zbA hv]
  exact ⟨j,rfl,c o1 H1 S1 _ _ e1 s1 zk4 d1⟩
end
section
open Sem (wp)
open AutoSeq1 (wpAny_loadPart')
section
variable {X:Cx} {zm:List (Addr × Obj)} {σ:St} {H:Hp} {s:Shared} {h':Heap}
theorem Inv.turnLaid {t':Nat} {ch:List Addr} {T:Addr} {o:HO} (I:Inv X zm σ H s) (k:∀ b u,b ∉ ch->s.heap.get? b = some u->h'.get? b = some u) (hf:∀ b ∈ ch,FpOk X zm H b) (hT:s.heap.objs.size <= T)
  (new:ObjOk X.prog X.w (upd H T o) h' T o):Inv X zm σ (upd H T o) { s with heap:=h',toks:=t' }:=by
 have hn:H T = none:=I.hok.fresh hT
 have nch:∀ b u,H b = some u->b ∉ ch:=fun b u e m=>by rw [(hf b m).1] at e; cases e
 have neT:∀ b u,s.heap.get? b = some u->b ≠ T:=fun b u e z=>absurd (Nat.lt_of_lt_of_le (Heap.lt_size e) hT) (by rw [z]; exact Nat.lt_irrefl _)
 have up:∀ b u,H b = some u->upd H T o b = some u:=fun b u e=>(zS (zO e hn)).trans e
 refine I.step (g':=s.gens) (d':=s.drawn) (ch:=ch) (fun b hb=>?_) (fun b u _ _ hc e _=>k b u hc e) (fun b u _ _ hc e _=>⟨u.slots,k b u hc e⟩) (fun b u _ e n=>(zS (neT b u e)).trans n)
  (fun b u hc e=>⟨u,k b u hc e⟩) (fun b xs e=>up b _ e) (fun b u v e=>up b _ e) (fun b ps e=>up b _ e) (fun m hm=>?_) (fun b u e=>?_) I.bare
 ·obtain ⟨_,f1,_,f3,f4,f5⟩:=hf b hb
  exact ⟨f3,f1,f4,f5⟩
 ·obtain ⟨ob,es,ep,ho,r⟩:=hm
  exact ⟨ob,es,ep,k _ ob (fun z=>(hf _ z).2.1 rfl) ho,r⟩
 ·by_cases hb:b = T
  ·subst hb
   rw [zav] at e
   cases e
   exact new
  ·rw [zS hb] at e
   refine (I.hok b u e).stay (fun c v hc q=>k c v ?_ q) (fun c q=>up c _ q) (fun c xs q=>up c _ q) fun c o u q=>up c _ q
   rcases hc with z | z
   ·rw [z]; exact nch b u e
   ·exact nch c _ z
theorem Inv.turnedN {t':Nat} {ch:List Addr} (I:Inv X zm σ H s) (k:∀ b u,b ∉ ch->s.heap.get? b = some u->h'.get? b = some u) (hf:∀ b ∈ ch,FpOk X zm H b):Inv X zm σ H { s with heap:=h',toks:=t' }:=by
 have nch:∀ b u,H b = some u->b ∉ ch:=fun b u e m=>by rw [(hf b m).1] at e; cases e
 refine I.step (g':=s.gens) (d':=s.drawn) (ch:=ch) (fun b hb=>?_) (fun b u _ _ hc e _=>k b u hc e) (fun b u _ _ hc e _=>⟨u.slots,k b u hc e⟩) (fun b u _ e n=>n)
  (fun b u hc e=>⟨u,k b u hc e⟩) (fun b xs e=>e) (fun b u v e=>e) (fun b ps e=>e) (fun m hm=>?_) (fun b u e=>?_) I.bare
 ·obtain ⟨_,f1,_,f3,f4,f5⟩:=hf b hb
  exact ⟨f3,f1,f4,f5⟩
 ·obtain ⟨ob,es,ep,ho,r⟩:=hm
  exact ⟨ob,es,ep,k _ ob (fun z=>(hf _ z).2.1 rfl) ho,r⟩
 ·refine (I.hok b u e).stay (fun c v hc q=>k c v ?_ q) (fun _ q=>q) fun _ _ q=>q
  rcases hc with z | z
  ·rw [z]; exact nch b u e
  ·exact nch c _ z
end
section
variable {prog:Program} {w:World} {A:Around} {E:Value->Shared->Prop} {s:Shared}
theorem zg1 {j t:Addr} {i:Nat} {vs:Array Value} {x:Value} {Q:Value->Shared->Prop} (hj:s.heap.IsTupleIter j t i) (ht:s.heap.IsTuple t vs) (hx:vs[i]? = some x)
  (hQ:∀ g,g.IsTupleIter j t (i + 1)->Heap.SameBut j s.heap g->Q x { s with heap:=g }):wpAny (model prog w) A (Builtin.SmallTypes.nextOf (.ref j)) Q E s:=by
 obtain ⟨oj,ej,cj,dj⟩:=id hj
 obtain ⟨ot,et,_,nt,dt⟩:=ht
 unfold Builtin.SmallTypes.nextOf
 refine wpAny_bind (wpAny_callSpecial?_slot (name:=Str.ofString "__next__") hj.typeIs F.slot_tuple_iterator_next (wpAny_call_entry F.slot_tuple_iterator_next hj.typeIs F.entry_tuple_iterator_next ?_ (F.args_tuple_iterator_next_1 _)))
 show wpAny _ _ (field (.ref j) 0 >>= _) _ _ s
 refine wpAny_bind (wpAny_field ej dj (x:=.ref t) rfl ?_)
 show wpAny _ _ (ite ((Value.ref t == Value.none) = true) _ _) _ _ s
 refine (if_neg (show ¬ ((Value.ref t == Value.none) = true) from Bool.false_ne_true)) ▸ ?_
 show wpAny _ _ (field (.ref j) 1 >>= _) _ _ s
 refine wpAny_bind (wpAny_field ej dj (x:=.int i 0) rfl ?_)
 refine wpAny_bind (m:=seqItems? (.ref t)) (wpAny_seqItems et dt ?_)
 simp only [hx,Int.toNat_natCast]
 refine wpAny_bind (wpAny_setField ej dj (by simp) (wpAny_pure ⟨x,rfl,wpAny_pure (hQ _ ⟨_,Heap.get?_update_self _ ej (Obj.isFreed_of_fields (Obj.data_mapFields dj _)),(Obj.cls_mapFields ..).trans cj,?_⟩ (Heap.SameBut.update ..))⟩))
 rw [Obj.data_mapFields dj]
 simp [rawInt]
theorem zeC {j t:Addr} {i:Nat} {vs:Array Value} {Q:Value->Shared->Prop} (hh:A.handled = none) (hj:s.heap.IsTupleIter j t i) (ht:s.heap.IsTuple t vs) (hx:vs[i]? = none)
  (hE:∀ g e,Heap.ExtBut j s.heap g->(∃ o,g.get? e = some o/\o.cls = .type "StopIteration")->E (.ref e) { s with heap:=g }):wpAny (model prog w) A (Builtin.SmallTypes.nextOf (.ref j)) Q E s:=by
 obtain ⟨oj,ej,cj,dj⟩:=id hj
 obtain ⟨ot,et,_,nt,dt⟩:=ht
 unfold Builtin.SmallTypes.nextOf
 refine wpAny_bind (wpAny_callSpecial?_slot (name:=Str.ofString "__next__") hj.typeIs F.slot_tuple_iterator_next (wpAny_call_entry F.slot_tuple_iterator_next hj.typeIs F.entry_tuple_iterator_next ?_ (F.args_tuple_iterator_next_1 _)))
 show wpAny _ _ (field (.ref j) 0 >>= _) _ _ s
 refine wpAny_bind (wpAny_field ej dj (x:=.ref t) rfl ?_)
 show wpAny _ _ (ite ((Value.ref t == Value.none) = true) _ _) _ _ s
 refine (if_neg (show ¬ ((Value.ref t == Value.none) = true) from Bool.false_ne_true)) ▸ ?_
 show wpAny _ _ (field (.ref j) 1 >>= _) _ _ s
 refine wpAny_bind (wpAny_field ej dj (x:=.int i 0) rfl ?_)
 refine wpAny_bind (m:=seqItems? (.ref t)) (wpAny_seqItems et dt ?_)
 simp only [hx,Int.toNat_natCast]
 refine wpAny_bind (wpAny_rule (wpAny_bind (wpAny_setField ej dj (by simp) ?_)))
 show wpAny _ _ (newExc (.type "StopIteration") [] >>= _) _ _ _
 refine wpAny_bind ?_
 simp only [newExc,newTuple]
 refine wpAny_bind (wpAny_newObj_type ?_ (by size_fits)); refine wpAny_bind (m:=firstArgMember _ _) (wpAny_of_eq (a:=Value.none) (by first | rfl | (simp only [firstArgMember]; rfl)) ?_)
 refine wpAny_newObj_type ?_ (by size_fits); simp only [raiseNew]
 refine wpAny_bind (wpAny_handled ?_)
 first | rw [show A.in1.handled = none from hh] | rw [hh]
 exact wpAny_bind (wpAny_pure (wpAny_throw (hE _ _ (((Heap.SameBut.update ..).extBut.push _).push _) ⟨_,Heap.get?_push_size _ rfl,rfl⟩)))
theorem zmp {e j:Addr} {i:Nat} {x old:Value} {J:Heap->Prop} {Q:Value->Shared->Prop} (he:IsEnum s.heap e j i old) (hne:e ≠ j)
  (hn:∀ (Q':Value->Shared->Prop) (E':Value->Shared->Prop),(∀ g,J g->Heap.SameBut j s.heap g->Q' x { s with heap:=g })->wpAny (model prog w) A (Builtin.SmallTypes.nextOf (.ref j)) Q' E' s)
  (hJ:∀ g g',J g->(∀ o,g.get? j = some o->g'.get? j = some o)->J g')
  (hQ:∀ g,IsEnumOut g e j ((i:Int) + 1) x s.heap.objs.size->J g->g.get? s.heap.objs.size = some { cls:=.type "tuple",data:=.seq #[.int i s.toks,x] } ->
   (∀ b o,b ≠ e->b ≠ j->s.heap.get? b = some o->g.get? b = some o)->Q (.ref s.heap.objs.size) { s with heap:=g,toks:=s.toks + 1 }) :
  wpAny (model prog w) A (Builtin.«enumerate.__next__» ⟨[.ref e],[]⟩) (fun fin s'=>∃ v,fin = .done (.ret v)/\Q v s') E s:=by
 obtain ⟨h0,gs,dr,tk,os⟩:=s
 show wpAny _ _ (field (.ref e) 2 >>= _) _ _ _
 refine wpAny_bind (wpAny_field he rfl (x:=.ref j) rfl (wpAny_bind (hn _ _ fun g1 J1 b1=>?_)))
 replace b1:Heap.SameBut j h0 g1:=b1
 have e1:IsEnum g1 e j i old:=(b1.2 e hne).trans he
 show wpAny _ _ (field (.ref e) 3 >>= _) _ _ ⟨g1,gs,dr,tk,os⟩
 refine wpAny_bind (wpAny_field e1 rfl (x:=rawInt i) rfl ?_)
 show wpAny _ _ (field (.ref e) 4 >>= _) _ _ ⟨g1,gs,dr,tk,os⟩
 refine wpAny_bind (wpAny_field e1 rfl (x:=.none) rfl ?_)
 show wpAny _ _ (mkInt i >>= _) _ _ ⟨g1,gs,dr,tk,os⟩
 refine wpAny_bind (wpAny_mkInt ?_)
 show wpAny _ _ (setField (.ref e) 3 (rawInt ((i:Int) + 1)) >>= _) _ _ ⟨g1,gs,dr,tk + 1,os⟩
 refine wpAny_bind (wpAny_setField_rec e1 (by simp) fun g2 e2 b2=>?_)
 replace b2:Heap.SameBut e g1 g2:=b2
 replace e2:IsEnum g2 e j ((i:Int) + 1) old:=e2
 show wpAny _ _ (setField (.ref e) 4 .none >>= _) _ _ ⟨g2,gs,dr,tk + 1,os⟩
 refine wpAny_bind (wpAny_setField_rec e2 (by simp) fun g3 e3 b3=>?_)
 replace b3:Heap.SameBut e g2 g3:=b3
 replace e3:IsEnum g3 e j ((i:Int) + 1) old:=e3
 show wpAny _ _ (newTuple [.int i tk,x] >>= _) _ _ ⟨g3,gs,dr,tk + 1,os⟩
 refine wpAny_bind (wpAny_newTuple ?_)
 have sz:g3.objs.size = h0.objs.size:=by rw [b3.1,b2.1,b1.1]
 have lt:e < h0.objs.size:=Heap.lt_size he
 have e4:IsEnum (g3.push { cls:=.type "tuple",data:=.seq #[.int i tk,x] }) e j ((i:Int) + 1) old:=Heap.get?_push_of_some _ e3
 have J3:J g3:=hJ _ _ (hJ _ _ J1 fun o q=>b2.extBut j o (Ne.symm hne) q) fun o q=>b3.extBut j o (Ne.symm hne) q
 have J4:J (g3.push { cls:=.type "tuple",data:=.seq #[.int i tk,x] }):=hJ _ _ J3 fun o q=>Heap.get?_push_of_some _ q
 have t4:(g3.push { cls:=.type "tuple",data:=.seq #[.int i tk,x] }).get? h0.objs.size = some { cls:=.type "tuple",data:=.seq #[.int i tk,x] }:=by rw [<- sz]; exact Heap.get?_push_size _ rfl
 have k4:∀ b o,b ≠ e->b ≠ j->h0.get? b = some o->(g3.push { cls:=.type "tuple",data:=.seq #[.int i tk,x] }).get? b = some o:=fun b o n1 n2 q=>Heap.get?_push_of_some _ (b3.extBut b o n1 (b2.extBut b o n1 (b1.extBut b o n2 q)))
 generalize g3.push { cls:=.type "tuple",data:=.seq #[.int i tk,x] } = g4 at e4 J4 t4 k4 ⊢
 show wpAny _ _ (Builtin.SmallTypes.ownedTupleIsFree (.ref e) >>= _) _ _ ⟨g4,gs,dr,tk + 1,os⟩
 rw [sz]
 refine wpAny_bind ?_
 unfold Builtin.SmallTypes.ownedTupleIsFree
 refine wpAny_bind (wpAny_field e4 rfl (x:=.none) rfl (wpAny_pure ?_))
 simp only [if_true]
 refine wpAny_bind (wpAny_rule (wpAny_bind (wpAny_field e4 rfl (x:=old) rfl (wpAny_bind (wpAny_setField_rec e4 (by simp) fun g5 e5 b5=>?_)))))
 replace b5:Heap.SameBut e g4 g5:=b5
 replace e5:IsEnum g5 e j ((i:Int) + 1) x:=e5
 show wpAny _ _ (Builtin.SmallTypes.ownedTupleHandOut (.ref e) (.ref h0.objs.size) >>= _) _ _ ⟨g5,gs,dr,tk + 1,os⟩
 refine wpAny_bind ?_
 unfold Builtin.SmallTypes.ownedTupleHandOut
 refine wpAny_bind (wpAny_setField_rec e5 (by simp) fun g6 e6 b6=>?_)
 replace b6:Heap.SameBut e g5 g6:=b6
 replace e6:IsEnumOut g6 e j ((i:Int) + 1) x h0.objs.size:=e6
 refine wpAny_setField_rec e6 (by simp) fun g7 e7 b7=>?_
 replace b7:Heap.SameBut e g6 g7:=b7
 replace e7:IsEnumOut g7 e j ((i:Int) + 1) x h0.objs.size:=e7
 have k7:∀ b o,b ≠ e->g4.get? b = some o->g7.get? b = some o:=fun b o n q=>b7.extBut b o n (b6.extBut b o n (b5.extBut b o n q))
 exact wpAny_bind (wpAny_letGo (wpAny_pure ⟨_,rfl,hQ g7 e7 (hJ _ _ J4 fun o q=>k7 j o (Ne.symm hne) q) (k7 _ _ (Nat.ne_of_gt lt) t4) fun b o n1 n2 q=>k7 b o n1 (k4 b o n1 n2 q)⟩))
theorem zia {e j:Addr} {i:Nat} {x old:Value} {J:Heap->Prop} {Q:Option Value->Shared->Prop} (he:IsEnum s.heap e j i old) (hne:e ≠ j)
  (hn:∀ (A:Around) (Q':Value->Shared->Prop) (E':Value->Shared->Prop),(∀ g,J g->Heap.SameBut j s.heap g->Q' x { s with heap:=g })->wpAny (model prog w) A (Builtin.SmallTypes.nextOf (.ref j)) Q' E' s)
  (hJ:∀ g g',J g->(∀ o,g.get? j = some o->g'.get? j = some o)->J g')
  (hQ:∀ g,IsEnumOut g e j ((i:Int) + 1) x s.heap.objs.size->J g->g.get? s.heap.objs.size = some { cls:=.type "tuple",data:=.seq #[.int i s.toks,x] } ->
   (∀ b o,b ≠ e->b ≠ j->s.heap.get? b = some o->g.get? b = some o)->Q (some (.ref s.heap.objs.size)) { s with heap:=g,toks:=s.toks + 1 }):wpAny (model prog w) A (pyNext (.ref e)) Q E s:=by
 have ty:s.TypeIs (.ref e) "enumerate":=⟨_,he,rfl⟩
 unfold pyNext
 exact wpAny_bind (wpAny_attempt (wpAny_callSpecial?_slot (name:=Str.ofString "__next__") ty F.slot_enumerate_next (wpAny_call_entry F.slot_enumerate_next ty F.entry_enumerate_next (zmp he hne (hn _) hJ fun g a b c k=>wpAny_pure (hQ g a b c k)) (F.args_enumerate_next_1 _))))
theorem zir {e j:Addr} {i:Nat} {old:Value} {Q:Option Value->Shared->Prop} (hh:A.handled = none) (he:IsEnum s.heap e j i old)
  (hn:∀ (A:Around) (Q':Value->Shared->Prop) (E':Value->Shared->Prop),A.handled = none->(∀ g x,Heap.ExtBut j s.heap g->(∃ o,g.get? x = some o/\o.cls = .type "StopIteration")->E' (.ref x) { s with heap:=g })->wpAny (model prog w) A (Builtin.SmallTypes.nextOf (.ref j)) Q' E' s)
  (hQ:∀ g,Heap.ExtBut j s.heap g->Q none { s with heap:=g }):wpAny (model prog w) A (pyNext (.ref e)) Q E s:=by
 have ty:s.TypeIs (.ref e) "enumerate":=⟨_,he,rfl⟩
 unfold pyNext
 refine wpAny_bind (wpAny_attempt (wpAny_callSpecial?_slot (name:=Str.ofString "__next__") ty F.slot_enumerate_next (wpAny_call_entry F.slot_enumerate_next ty F.entry_enumerate_next ?_ (F.args_enumerate_next_1 _))))
 show wpAny _ _ (field (.ref e) 2 >>= _) _ _ _
 refine wpAny_bind (wpAny_field he rfl (x:=.ref j) rfl (wpAny_bind (hn _ _ _ hh fun g x b hx=>?_)))
 obtain ⟨o,ho,hc⟩:=hx
 exact wpAny_bind (wpAny_isInstance (T:="StopIteration") (b:=true) ⟨o,ho,hc⟩ isSubtype_stop (wpAny_pure (hQ _ b)))
theorem zpd (t:Addr) (vs:Array Value) (n:Nat) (dct:Option Addr) (sl:Array (Option Value)):Meets (Builtin.«enumerate.__new__» ⟨[.type "enumerate",.ref t],[]⟩) (fun _ R s=>s.heap.get? t = some { cls:=.type "tuple",dict:=dct,data:=.seq vs n,slots:=sl } /\
   R (.ok (.ret (.ref (s.heap.push { cls:=.type "tuple_iterator",data:=.fields #[.ref t,.int 0 0] }).objs.size)))
    { s with heap:=(s.heap.push { cls:=.type "tuple_iterator",data:=.fields #[.ref t,.int 0 0] }).push { cls:=.type "enumerate",data:=.fields #[.none,.bool false,.ref s.heap.objs.size,rawInt 0,.none,.none] } }) :=
 .of_wp fun prog w A R s hyp=>by
  obtain ⟨g0,gs,dr,tk,os⟩:=s
  obtain ⟨ht,hyp⟩:=hyp
  have sub:=sub_enumerate
  have hT:Heap.IsTuple (Shared.heap ⟨g0,gs,dr,tk,os⟩) t vs:=⟨_,ht,rfl,n,rfl⟩
  wp_walk using wpAny_loadPart' ht
  refine wpAny_stack_any fun _=>wpAny_pure ?_
  split
  ·rename_i c _ _ _ _ _
   cases (c == Value.type "enumerate") <;> (wp_walk using wpAny_loadPart' ht,wpAny_pyIter_tuple hT; exact ⟨_,rfl,hyp⟩)
  ·wp_walk using wpAny_loadPart' ht,wpAny_pyIter_tuple hT
   exact ⟨_,rfl,hyp⟩
theorem zht {t:Addr} {vs:Array Value} {Q:Value->Shared->Prop} (hT:s.heap.IsTuple t vs)
  (hyp:∀ g,IsEnum g (s.heap.objs.size + 1) s.heap.objs.size 0 .none->g.IsTupleIter s.heap.objs.size t 0->(∀ b o,s.heap.get? b = some o->g.get? b = some o)->Q (.ref (s.heap.objs.size + 1)) { s with heap:=g }):wpAny (model prog w) A (call (.type "enumerate") [.ref t]) Q E s:=by
 obtain ⟨⟨c,dct,dt,sl⟩,ht,hc,n,hd⟩:=hT
 replace hc:c = .type "tuple":=hc
 replace hd:dt = .seq vs n:=hd
 subst hc hd
 refine callType_new F.called_enumerate (by decide) (F.typeCall_enumerate_1 _) (F.newCall_enumerate_1 _) (fun ob=>F.args_object_init_2 ob _) F.entry_enumerate_new (zpd t vs n dct sl) ⟨ht,?_⟩
 have sz:(s.heap.push { cls:=.type "tuple_iterator",data:=.fields #[.ref t,.int 0 0] }).objs.size = s.heap.objs.size + 1:=Heap.size_push ..
 show _/\_
 rw [sz]
 have he:=Heap.get?_push_size (s.heap.push { cls:=.type "tuple_iterator",data:=.fields #[.ref t,.int 0 0] }) (o:={ cls:=.type "enumerate",data:=.fields #[.none,.bool false,.ref s.heap.objs.size,rawInt 0,.none,.none] }) rfl
 rw [sz] at he
 exact ⟨⟨_,he,rfl⟩,hyp _ he ⟨_,Heap.get?_push_of_some _ (Heap.get?_push_size _ rfl),rfl,rfl⟩ fun b o q=>Heap.get?_push_of_some _ (Heap.get?_push_of_some _ q)⟩
end
def Ite (Sq:Hp->Addr->List V->Prop) (a:Addr):It :=
 ⟨fun i H=>∃ xs x,Sq H a xs/\xs[i]? = some x,fun i H x H'=>∃ p v,H p = none/\x = .ref p/\H' = upd H p (.tup [.int i,v])/\∀ xs,Sq H a xs->xs[i]? = some v,fun i H=>∃ xs,Sq H a xs/\xs.length <= i⟩
theorem zkz {P:Program} {w:World} {K:W.Frag} {elts:List Expr} {n:Nat} {pos:Pos} (a e j:Addr) (hej:e ≠ j):Turn P w K (.Tuple elts n pos) (Ite (SqT K) a) [e,j] e (fun i h=>(∃ old,IsEnum h e j i old)/\h.IsTupleIter j a i) where
 mem:=by simp
 obj:=fun i h ⟨⟨old,he⟩,hj⟩ b hb=>by
  rcases List.mem_cons.mp hb with rfl | hb
  ·exact ⟨_,he,fun v z=>by
    have z':Data.fields _ = Data.cell v:=z
    cases z'⟩
  ·rw [List.mem_singleton.mp hb]
   obtain ⟨o,q,c,d⟩:=hj
   exact ⟨o,q,fun v z=>by rw [d] at z; cases z⟩
 keep:=fun i h h' ⟨⟨old,he⟩,hj⟩ k=>⟨⟨old,k e (by simp) _ he⟩,hj.at fun o q=>k j (by simp) o q⟩
 item:=by
  intro X hP hw hK hc i zm s σ H E I hf ⟨⟨old,he⟩,hj⟩ hg
  subst hP hw hK
  obtain ⟨xs,x,hq,hx⟩:=hg
  obtain ⟨its,rv,p,hz⟩:=I.tuple hq
  obtain ⟨u,hu,ru⟩:=rv.get hx
  have hT:s.heap.IsTuple a its.toArray:=p
  refine zia (J:=fun g=>g.IsTupleIter j a (i + 1)) he hej (fun A' Q' E' k=>zg1 hj hT (x:=u) (by simpa using hu) k) (fun g g' z k=>z.at k) fun g e1 j1 t1 k1=>?_
  refine ⟨_,rfl,wpAny_letOwnedTupleGo_enum (s:={ s with heap:=g,toks:=s.toks + 1 }) e1 fun g' e2 b2=>?_⟩
  have lt:e < s.heap.objs.size:=Heap.lt_size he
  have ltj:j < s.heap.objs.size:=by
   obtain ⟨_,q,_⟩:=hj
   exact Heap.lt_size q
  have t2:g'.get? s.heap.objs.size = some { cls:=.type "tuple",data:=.seq #[.int i s.toks,u] }:=(b2.2 _ (Nat.ne_of_gt lt)).trans t1
  have neT:H s.heap.objs.size = none:=I.hok.fresh (Nat.le_refl _)
  refine ⟨.ref s.heap.objs.size,upd H s.heap.objs.size (.tup [.int i,x]),I.turnLaid (ch:=[e,j]) (t':=s.toks + 1) (fun b o nb q=>(b2.2 b fun z=>nb (by simp [z])).trans (k1 b o (fun z=>nb (by simp [z])) (fun z=>nb (by simp [z])) q)) hf (Nat.le_refl _) ?_,rfl,
   ⟨_,x,neT,rfl,rfl,fun ys hy=>by rw [I.tuple_inj hy hq]; exact hx⟩,⟨⟨u,by simpa using e2⟩,j1.at fun o q=>(b2.2 j (Ne.symm hej)).trans q⟩,fun b hb=>?_⟩
  ·refine ⟨⟨by show 2 <= sizeLine; decide,_,t2,rfl⟩,[.int i s.toks,u],.cons ⟨s.toks,rfl⟩ (.cons ru .nil),⟨_,t2,rfl,_,rfl⟩⟩
  ·rcases List.mem_cons.mp hb with rfl | hb
   ·rw [zS (Nat.ne_of_lt lt)]
    exact (hf _ (by simp)).1
   ·rw [List.mem_singleton.mp hb,zS (Nat.ne_of_lt ltj)]
    exact (hf _ (by simp)).1
 done:=by
  intro X hP hw hK hc i zm s σ H E I hf ⟨⟨old,he⟩,hj⟩ hg
  subst hP hw hK
  obtain ⟨xs,hq,hx⟩:=hg
  obtain ⟨its,rv,p,hz⟩:=I.tuple hq
  have hT:s.heap.IsTuple a its.toArray:=p
  have hl:=rv.length
  exact zir (I.ok.hd hc) he (fun A' Q' E' h0 k=>zeC h0 hj hT (by simp; omega) k) fun g b=>⟨rfl,I.turnedN (ch:=[e,j]) (t':=s.toks) (fun b' o nb q=>b b' o (fun z=>nb (by simp [z])) q) hf⟩
 self:=fun _ _ _ _ _ st h=>by
  obtain ⟨⟨old,he⟩,_⟩:=st
  exact wpAny_pyIter_enum he h
theorem zkA {P:Program} {w:World} {K:W.Frag} {elts:List Expr} {n:Nat} {pos:Pos} (a e j:Addr) (hej:e ≠ j):Turn P w K (.Tuple elts n pos) (Ite (SqL K) a) [e,j] e (fun i h=>(∃ old,IsEnum h e j i old)/\h.IsListIter j a i) where
 mem:=by simp
 obj:=fun i h ⟨⟨old,he⟩,hj⟩ b hb=>by
  rcases List.mem_cons.mp hb with rfl | hb
  ·exact ⟨_,he,fun v z=>by
    have z':Data.fields _ = Data.cell v:=z
    cases z'⟩
  ·rw [List.mem_singleton.mp hb]
   obtain ⟨o,q,c,d⟩:=hj
   exact ⟨o,q,fun v z=>by rw [d] at z; cases z⟩
 keep:=fun i h h' ⟨⟨old,he⟩,hj⟩ k=>⟨⟨old,k e (by simp) _ he⟩,hj.at fun o q=>k j (by simp) o q⟩
 item:=by
  intro X hP hw hK hc i zm s σ H E I hf ⟨⟨old,he⟩,hj⟩ hg
  subst hP hw hK
  obtain ⟨xs,x,hq,hx⟩:=hg
  obtain ⟨its,rv,p,hz⟩:=I.list hq
  obtain ⟨u,hu,ru⟩:=rv.get hx
  have hT:s.heap.IsList a its.toArray:=p.isList
  refine zia (J:=fun g=>g.IsListIter j a (i + 1)) he hej (fun A' Q' E' k=>wpAny_nextOf_list_item hj hT (x:=u) (by simpa using hu) k) (fun g g' z k=>z.at k) fun g e1 j1 t1 k1=>?_
  refine ⟨_,rfl,wpAny_letOwnedTupleGo_enum (s:={ s with heap:=g,toks:=s.toks + 1 }) e1 fun g' e2 b2=>?_⟩
  have lt:e < s.heap.objs.size:=Heap.lt_size he
  have ltj:j < s.heap.objs.size:=by
   obtain ⟨_,q,_⟩:=hj
   exact Heap.lt_size q
  have t2:g'.get? s.heap.objs.size = some { cls:=.type "tuple",data:=.seq #[.int i s.toks,u] }:=(b2.2 _ (Nat.ne_of_gt lt)).trans t1
  have neT:H s.heap.objs.size = none:=I.hok.fresh (Nat.le_refl _)
  refine ⟨.ref s.heap.objs.size,upd H s.heap.objs.size (.tup [.int i,x]),I.turnLaid (ch:=[e,j]) (t':=s.toks + 1) (fun b o nb q=>(b2.2 b fun z=>nb (by simp [z])).trans (k1 b o (fun z=>nb (by simp [z])) (fun z=>nb (by simp [z])) q)) hf (Nat.le_refl _) ?_,rfl,
   ⟨_,x,neT,rfl,rfl,fun ys hy=>by rw [I.list_inj hy hq]; exact hx⟩,⟨⟨u,by simpa using e2⟩,j1.at fun o q=>(b2.2 j (Ne.symm hej)).trans q⟩,fun b hb=>?_⟩
  ·refine ⟨⟨by show 2 <= sizeLine; decide,_,t2,rfl⟩,[.int i s.toks,u],.cons ⟨s.toks,rfl⟩ (.cons ru .nil),⟨_,t2,rfl,_,rfl⟩⟩
  ·rcases List.mem_cons.mp hb with rfl | hb
   ·rw [zS (Nat.ne_of_lt lt)]
    exact (hf _ (by simp)).1
   ·rw [List.mem_singleton.mp hb,zS (Nat.ne_of_lt ltj)]
    exact (hf _ (by simp)).1
 done:=by
  intro X hP hw hK hc i zm s σ H E I hf ⟨⟨old,he⟩,hj⟩ hg
  subst hP hw hK
  obtain ⟨xs,hq,hx⟩:=hg
  obtain ⟨its,rv,p,hz⟩:=I.list hq
  have hT:s.heap.IsList a its.toArray:=p.isList
  have hl:=rv.length
  exact zir (I.ok.hd hc) he (fun A' Q' E' h0 k=>wpAny_nextOf_list_end h0 hj hT (by simp; omega) k) fun g b=>⟨rfl,I.turnedN (ch:=[e,j]) (t':=s.toks) (fun b' o nb q=>b b' o (fun z=>nb (by simp [z])) q) hf⟩
 self:=fun _ _ _ _ _ st h=>by
  obtain ⟨⟨old,he⟩,_⟩:=st
  exact wpAny_pyIter_enum he h
section
variable {X:Cx} {elts:List Expr} {n:Nat} {tpos:Pos}
theorem zgD:bootBuiltins "enumerate" = some (.type "enumerate"):=by decide +kernel
end
def zhk (i:Nat):List PyData->List PyData
 | []=>[]
 | d :: ds=>.tuple [.int i,d] :: zhk (i + 1) ds
theorem zc9:∀ (ds:List PyData) (i:Nat),(zhk i ds).length = ds.length
 | [],_=>rfl
 | d :: ds,i=>by simp [zhk,zc9 ds (i + 1)]
theorem ze0:∀ (ds:List PyData) (i k:Nat) (d:PyData),(zhk i ds)[k]? = some d->∃ e,ds[k]? = some e/\d = .tuple [.int ((i + k:Nat):Int),e]
 | [],_,_,_,h=>by simp [zhk] at h
 | c :: ds,i,0,d,h=>by
  have e:PyData.tuple [.int i,c] = d:=by simpa [zhk] using h
  exact ⟨c,rfl,by rw [<- e]; rfl⟩
 | c :: ds,i,k + 1,d,h=>by
  obtain ⟨e,h1,h2⟩:=ze0 ds (i + 1) k d (by simpa [zhk] using h)
  exact ⟨e,by simpa using h1,by rw [h2]; congr 3; omega⟩
theorem zn0 {X:Cx} {x:Str} {i:Int} {pos:Pos} (hg:Gl X x) (hm:∃ t,X.mg x = some (.int i t)) (hd:(x == ("__debug__":Str)) = false:=by decide):PE X (.Name x pos) (tC (.int i)):=by
 obtain ⟨t,e⟩:=hm
 exact zo8 hg e ⟨t,rfl⟩ hd
end
section
def dIx:D2:=fun x y S R=>asI y fun i=>match x with
 | .d (.tuple ds)=>∃ d,atI ds i = some d/\R (.d d) S
 | .d (.list ds)=>∃ d,atI ds i = some d/\R (.d d) S
 | .l k=>∃ ds,S[k]? = some ds/\∃ d,atI ds i = some d/\R (.d d) S
 | .d (.str z)=>z.length <= sizeLine/\∃ c,atI z.cps.toList i = some c/\R (.d (.str ⟨#[c]⟩)) S
 | _=>False
theorem zrt:RO zsA (fun x y S R=>asS x fun z=>asI y fun i=>z.length <= sizeLine/\∃ c,atI z.cps.toList i = some c/\R (.d (.str ⟨#[c]⟩)) S):=fun h o H S x y v u R Q hs hx hy q c=>by
 replace q:=zmr q
 obtain ⟨z,rfl,q⟩:=q
 replace q:=zbB q
 obtain ⟨i,rfl,hz,k,ek,q⟩:=q
 exact ⟨z,i,k,zea hx,zbA hy,hz,ek,c o H S _ _ Ex.refl hs (xS _) q⟩
theorem zX {K:W.Frag}:RO (rIx K) dIx:=fun h o H S x y v u R Q hs hx hy q c=>by
 replace q:=zbB q
 obtain ⟨i,rfl,q⟩:=q
 split at q
 ·exact .inr (.inl (zrY h o H S _ _ v u R Q hs hx hy q c))
 ·exact .inl (zoS h o H S _ _ v u R Q hs hx hy ⟨_,rfl,q⟩ c)
 ·exact .inl (zoS h o H S _ _ v u R Q hs hx hy q c)
 ·exact .inr (.inr (zrt h o H S _ _ v u R Q hs hx hy q c))
 ·exact q.elim
section
variable {S:Sto} {R:RX} {ds:List PyData} {i:Int} {k:Nat} {z:Str}
theorem zrN:dIx (.d (.tuple ds)) (.d (.int i)) S R = ∃ d,atI ds i = some d/\R (.d d) S:=rfl
theorem zrK:dIx (.d (.list ds)) (.d (.int i)) S R = ∃ d,atI ds i = some d/\R (.d d) S:=rfl
theorem zqW:dIx (.l k) (.d (.int i)) S R = ∃ ds,S[k]? = some ds/\∃ d,atI ds i = some d/\R (.d d) S:=rfl
theorem zrF:dIx (.d (.str z)) (.d (.int i)) S R = (z.length <= sizeLine/\∃ c,atI z.cps.toList i = some c/\R (.d (.str ⟨#[c]⟩)) S):=rfl
end
def zs6 (K:W.Frag):V->Option Int->Option Int->Hp->VK->Prop:=fun x a b H Q=>zqJ K x a b H Q\/(zsN K x a b H Q\/ztg x a b H Q)
theorem zeG {X:Cx}:SlR X (zs6 X.K):=zli.or (zoM.or zrd)
def ziT:D3:=fun x i j S R=>match x with
 | .d (.tuple ds)=>¬ (HT.sIx ds.length 0 i = 0/\HT.sIx ds.length ds.length j = ds.length)/\R (.d (.tuple (zef ds i j))) S
 | .d (.list ds)=>R (.d (.list (zef ds i j))) S
 | .l k=>∃ ds,S[k]? = some ds/\R (.d (.list (zef ds i j))) S
 | .d (.str z)=>z.length <= sizeLine/\R (.d (.str (PySem.Txt.slice z i j))) S
 | _=>False
theorem zeD {K:W.Frag}:RL (zs6 K) ziT:=fun h o H S x v a b R Q hs hx q c=>by
 unfold ziT at q
 split at q
 ·exact .inr (.inl (zqO h o H S _ v a b R Q hs hx q c))
 ·exact .inl (zk2 h o H S _ v a b R Q hs hx ⟨_,rfl,q⟩ c)
 ·exact .inl (zk2 h o H S _ v a b R Q hs hx q c)
 ·exact .inr (.inr ⟨_,zea hx,q.1,c o H S _ _ Ex.refl hs (xS _) q.2⟩)
 ·exact q.elim
section
variable {S:Sto} {R:RX} {ds:List PyData} {i j:Option Int} {k:Nat} {z:Str}
theorem zoD:ziT (.d (.tuple ds)) i j S R = (¬ (HT.sIx ds.length 0 i = 0/\HT.sIx ds.length ds.length j = ds.length)/\R (.d (.tuple (zef ds i j))) S):=rfl
theorem zof:ziT (.d (.list ds)) i j S R = R (.d (.list (zef ds i j))) S:=rfl
theorem zoC:ziT (.l k) i j S R = ∃ ds,S[k]? = some ds/\R (.d (.list (zef ds i j))) S:=rfl
theorem zoR:ziT (.d (.str z)) i j S R = (z.length <= sizeLine/\R (.d (.str (PySem.Txt.slice z i j))) S):=rfl
end
def zok (K:W.Frag):R2:=fun x y H Q=>∃ a b ys,x = .ref a/\y = .ref b/\SqT K H a []/\SqT K H b ys/\Q (.ref b) H
theorem znV {X:Cx}:OpR X (binaryOp .Add) (zok X.K):=by
 intro zm s σ H x y v u Q I rx ry h
 obtain ⟨a,b,ys,rfl,rfl,ha,hb,q⟩:=h
 cases rx
 cases ry
 obtain ⟨its,r1,p1,_⟩:=I.tuple ha
 obtain ⟨its2,r2,p2,_⟩:=I.tuple hb
 cases r1
 obtain ⟨⟨c1,d1,e1,l1⟩,o1,w1,n1,k1⟩:=id p1
 obtain ⟨⟨c2,d2,e2,l2⟩,o2,w2,n2,k2⟩:=id p2
 simp only at w1 k1 w2 k2
 subst w1 k1 w2 k2
 exact concat_meets ⟨_,o1,rfl⟩ ⟨_,o2,rfl⟩ noFill_tuple_add seq_tuple_add PySem.F.slot_tuple_add PySem.F.entry_tuple_add (PySem.F.args_tuple_add_2 _ _) (tuple_addW0 a b _ _ n1 n2 d1 d2 l1 l2 (by simp)) ⟨o1,o2,⟨.ref b,H,I,rfl,q⟩⟩
def zpQ (K:W.Frag):R2:=fun x y H Q=>rI0 (fun i j=>.int (i + j)) x y H Q\/(zqt x y H Q\/(zpM K x y H Q\/(zok K x y H Q\/∃ i j,x = .str i/\y = .str j/\i.length + j.length <= sizeLine/\Q (.str (i ++ j)) H)))
theorem zK {X:Cx}:OpR X (binaryOp .Add) (zpQ X.K):=zrB.or (zlk.or (zpz.or (znV.or zkD)))
def zbT:D2:=fun x y S R=>match x,y with
 | .d (.int i),.d (.int j)=>R (.d (.int (i + j))) S
 | .d (.tuple ds),.d (.tuple es)=>ds.length + es.length <= 1000/\R (.d (.tuple (ds ++ es))) S
 | .d (.str a),.d (.str b)=>a.length + b.length <= sizeLine/\R (.d (.str (a ++ b))) S
 | x,y=>asL S x fun ds=>asL S y fun es=>ds.length + es.length <= 1000/\R (.d (.list (ds ++ es))) S
theorem zY {K:W.Frag}:RO (zpQ K) zbT:=fun h o H S x y v u R Q hs hx hy q c=>by
 unfold zbT at q
 split at q
 ·exact .inl (zeM h o H S _ _ v u R Q hs hx hy q c)
 ·rename_i ds es
  cases ds with
  | cons d ds=>exact .inr (.inr (.inl (zpO h o H S _ _ v u R Q hs hx hy ⟨by simp,q⟩ c)))
  | nil =>
   obtain ⟨a,vs,rfl,ea,l⟩:=zey hx
   obtain ⟨b,us,rfl,eb,l'⟩:=zey hy
   rw [zR.mp l] at ea
   exact .inr (.inr (.inr (.inl ⟨a,b,us,rfl,rfl,.of ea,.of eb,c o H S (.d (.tuple es)) _ Ex.refl hs hy q.2⟩)))
 ·exact .inr (.inr (.inr (.inr ⟨_,_,zea hx,zea hy,q.1,c o H S _ _ Ex.refl hs (xS _) q.2⟩)))
 ·exact .inr (.inl (zrg h o H S _ _ v u R Q hs hx hy q c))
section
variable {S:Sto} {R:RX} {ds es:List PyData} {i j:Int} {k l:Nat} {a b:Str}
theorem zn7:zbT (.d (.int i)) (.d (.int j)) S R = R (.d (.int (i + j))) S:=rfl
theorem zoB:zbT (.d (.tuple ds)) (.d (.tuple es)) S R = (ds.length + es.length <= 1000/\R (.d (.tuple (ds ++ es))) S):=rfl
end
def zq3:R2:=fun x y H Q=>rI IntMulOk (fun i j=>.int (i * j)) x y H Q\/(zrc x y H Q\/zs2 x y H Q)
theorem zbf {X:Cx}:OpR X (binaryOp .Mult) zq3:=zp0.or (zqn.or zrW)
def zfJ:D2:=fun x y S R=>asI y fun j=>match x with
 | .d (.int i)=>IntMulOk i j/\R (.d (.int (i * j))) S
 | .d (.str z)=>z.length <= 1000/\j <= 1000/\-1000 <= j/\R (.d (.str (PySem.Txt.mul z j))) S
 | .d (.list ds)=>j <= 1000/\-1000 <= j/\ds.length * j.toNat <= 1000/\R (.d (.list (List.replicate j.toNat ds).flatten)) S
 | _=>False
theorem HasL.rep {H:Hp} {ds:List PyData} {vs:List V} (l:HasL H ds vs):∀ n:Nat,HasL H (List.replicate n ds).flatten (List.replicate n vs).flatten
 | 0=>zR.mpr rfl
 | n + 1=>by
  rw [List.replicate_succ,List.replicate_succ,List.flatten_cons,List.flatten_cons]
  exact l.append (HasL.rep l n)
theorem zcd:RO zq3 zfJ:=fun h o H S x y v u R Q hs hx hy q c=>by
 replace q:=zbB q
 obtain ⟨j,rfl,q⟩:=q
 split at q
 ·exact .inl (zhN h o H S _ _ v u R Q hs hx hy q c)
 ·exact .inr (.inl ⟨_,_,zea hx,zbA hy,q.1,q.2.1,q.2.2.1,c o H S _ _ Ex.refl hs (xS _) q.2.2.2⟩)
 ·obtain ⟨a,vs,rfl,ea,l⟩:=zbp (x:=.d (.list _)) hs rfl hx
  obtain ⟨h1,h2,h3,q⟩:=q
  exact .inr (.inr ⟨a,j,vs,rfl,zbA hy,ea,by omega,by omega,by rw [l.length]; exact Nat.le_of_lt (small1000 h3),zlU hs (l.rep j.toNat) c q⟩)
 ·exact q.elim
section
variable {S:Sto} {R:RX} {i j:Int} {z:Str} {ds:List PyData}
theorem zoV:zfJ (.d (.list ds)) (.d (.int j)) S R = (j <= 1000/\-1000 <= j/\ds.length * j.toNat <= 1000/\R (.d (.list (List.replicate j.toNat ds).flatten)) S):=rfl
theorem zoF:zfJ (.d (.int i)) (.d (.int j)) S R = (IntMulOk i j/\R (.d (.int (i * j))) S):=rfl
theorem zon:zfJ (.d (.str z)) (.d (.int j)) S R = (z.length <= 1000/\j <= 1000/\-1000 <= j/\R (.d (.str (PySem.Txt.mul z j))) S):=rfl
end
def zsU:R2:=fun x y H Q=>rI CDivX (fun i j=>.int (i / j)) x y H Q\/rI CDivN (fun i j=>.int (i.fdiv j)) x y H Q
theorem zhd {X:Cx}:OpR X (binaryOp .FloorDiv) zsU:=zm6.or znk
def dFd:D2:=fun x y S R=>asI x fun i=>asI y fun j=>(CDivX i j/\R (.d (.int (i / j))) S)\/(CDivN i j/\R (.d (.int (i.fdiv j))) S)
theorem zkO:RO zsU dFd:=fun h o H S x y v u R Q hs hx hy q c=>by
 replace q:=zbB q
 obtain ⟨i,rfl,q⟩:=q
 replace q:=zbB q
 obtain ⟨j,rfl,q⟩:=q
 rcases q with q | q
 ·exact .inl (zhN (C:=CDivX) (g:=fun i j=>i / j) h o H S _ _ v u R Q hs hx hy q c)
 ·exact .inr (zhN (C:=CDivN) (g:=fun i j=>i.fdiv j) h o H S _ _ v u R Q hs hx hy q c)
def zrQ (S:Sto):XV->Option Bool
 | .d .none=>some false
 | .d (.bool b)=>some b
 | .d (.int i)=>some (i != 0)
 | .d (.str z)=>if z.length <= sizeLine then some ((z.length:Int) != 0) else none
 | .d (.list ds)=>some (!ds.isEmpty)
 | .d (.tuple ds)=>some (!ds.isEmpty)
 | .l k=>(S[k]?).map fun ds=>!ds.isEmpty
 | _=>none
def zkY (a:DE):DT:=fun δ S R=>a δ S fun x S1=>∃ k,zrQ S1 x = some k/\R k S1
theorem zeO {H:Hp} {ds:List PyData} {vs:List V} (l:HasL H ds vs):(!ds.isEmpty) = !vs.isEmpty:=by
 have:=l.length
 cases ds <;> cases vs <;> simp_all
theorem zfy {K:W.Frag} {ta:TE} {da:DE} (ha:RE ta da):RT (fun σ H Q=>ta σ H fun x H'=>∃ k,TruV K x H' k/\Q k H') (zkY da):=fun h o H δ σ S R Q he hs q c =>
 ha h o H δ σ S _ _ he hs q fun o1 H1 S1 x v e1 s1 x1 ⟨k,ek,d1⟩=>by
  refine ⟨k,?_,c o1 H1 S1 k e1 s1 d1⟩
  unfold zrQ at ek
  split at ek
  ·cases ek; rw [(zdw (H:=vx h o1 H1)).mp x1]; rfl
  ·cases ek; rw [zdM x1]; rfl
  ·cases ek; rw [zbA x1]; rfl
  ·split at ek
   ·rename_i hz
    cases ek; rw [zea x1]; exact ⟨hz,rfl⟩
   ·cases ek
  ·obtain ⟨a,vs,rfl,ea,l⟩:=zbp (x:=.d (.list _)) s1 rfl x1
   cases ek
   exact .inl ⟨vs,.of ea,zeO l⟩
  ·obtain ⟨a,vs,rfl,ea,l⟩:=zey x1
   cases ek
   exact .inr (.inl ⟨vs,.of ea,zeO l⟩)
  ·rename_i j _
   cases hj:S1[j]? with
   | none=>rw [hj] at ek; cases ek
   | some ds =>
    rw [hj] at ek
    cases ek
    obtain ⟨a,vs,rfl,ea,l⟩:=zbp (x:=.l j) s1 hj x1
    exact .inl ⟨vs,.of ea,zeO l⟩
  ·cases ek
section
variable {S:Sto} {b:Bool} {i:Int} {ds:List PyData} {k:Nat}
theorem zoE:zrQ S (.d (.bool b)) = some b:=rfl
theorem zot:zrQ S (.d (.list ds)) = some (!ds.isEmpty):=rfl
theorem zoh:zrQ S (.l k) = (S[k]?).map fun ds=>!ds.isEmpty:=rfl
end
def zjB:DS:=fun _ _ _=>False
theorem znW:RS zov zjB:=fun h o H δ σ S E D he hs q c=>q.elim
def zsW (K:W.Frag) (tl:TE):TI:=fun σ H R=>tl σ H fun x H1=>∃ a,x = .ref a/\(((∃ xs,SqL K H1 a xs)/\R (Itl K a) H1)\/((∃ xs,SqT K H1 a xs)/\R (Itt K a) H1))
theorem zaX {X:Cx} {tg:Expr} {l:Expr} {tl:TE} (hl:PE X l tl):PI X tg l (zsW X.K tl):=by
 intro zm s σ H R I h
 refine thn (hl zm s σ H _ I h) fun v s1 ⟨x,H1,I1,r1,q1⟩=>?_
 obtain ⟨a,e,⟨⟨xs,hq⟩,q⟩ | ⟨⟨xs,hq⟩,q⟩⟩:=q1
 ·subst e
  cases r1
  obtain ⟨its,rv,p,hz⟩:=I1.list hq
  refine wpAny_pyIter_list p.isList ?_
  refine ⟨s1.heap.objs.size,[s1.heap.objs.size],_,_,H1,rfl,I1.kept (t':=s1.toks) fun b o e=>Heap.get?_push_of_some _ e,zik a _,⟨_,Heap.get?_push_size _ rfl,rfl,rfl⟩,fun b hb=>?_,q⟩
  have e:b = s1.heap.objs.size:=by simpa using hb
  subst e
  exact I1.fpOk (Nat.le_refl _) (I1.hok.fresh (Nat.le_refl _))
 ·subst e
  cases r1
  obtain ⟨its,rv,p,hz⟩:=I1.tuple hq
  refine wpAny_pyIter_tuple (show s1.heap.IsTuple a its.toArray from p) ?_
  refine ⟨s1.heap.objs.size,[s1.heap.objs.size],_,_,H1,rfl,I1.kept (t':=s1.toks) fun b o e=>Heap.get?_push_of_some _ e,zkV a _,⟨_,Heap.get?_push_size _ rfl,rfl,rfl⟩,fun b hb=>?_,q⟩
  have e:b = s1.heap.objs.size:=by simpa using hb
  subst e
  exact I1.fpOk (Nat.le_refl _) (I1.hok.fresh (Nat.le_refl _))
def zkh:XV->Option (List PyData)
 | .d (.list ds)=>some ds
 | .d (.tuple ds)=>some ds
 | _=>none
theorem zn6 {ds:List PyData}:zkh (.d (.list ds)) = some ds:=rfl
theorem zoJ {ds:List PyData}:zkh (.d (.tuple ds)) = some ds:=rfl
def zbN (e:DE):DI:=fun δ S R=>e δ S fun x S1=>∃ ds,zkh x = some ds/\R ds S1
theorem zaY {K:W.Frag} {te:TE} {de:DE} (he':RE te de):RI (zsW K te) (zbN de):=fun h o H δ σ S R Q he hs q c =>
 he' h o H δ σ S _ _ he hs q fun o1 H1 S1 x v e1 s1 x1 ⟨ds,ex,d1⟩=>by
  unfold zkh at ex
  split at ex
  ·cases ex
   obtain ⟨a,vs,rfl,ea,l⟩:=zba.mp (show Has _ _ _ from x1)
   have hl:=l.length
   refine ⟨a,rfl,.inl ⟨⟨vs,.of (zaE _ _ ea)⟩,c o1 H1 S1 ds _ e1 s1 ⟨fun i o2 H2 e2 hi=>⟨vs,.of (zaE _ _ (e2.vx _ _ ea)),by omega⟩,fun i d o2 H2 e2 hi=>?_,fun i d o2 H2 x H3 S2 e2 s2 hi y=>?_⟩ d1⟩⟩
   ·obtain ⟨v,ev,_⟩:=l.get hi
    exact ⟨vs,v,.of (zaE _ _ (e2.vx _ _ ea)),ev⟩
   ·obtain ⟨v,ev,hv⟩:=l.get hi
    have e3:H3 = H2:=y.1
    subst e3
    have ex:=y.2 vs (.of (zaE _ _ (e2.vx _ _ ea)))
    rw [ev] at ex
    cases ex
    exact ⟨Same.refl _,hv.mono e2.vx⟩
  ·cases ex
   obtain ⟨a,vs,rfl,ea,l⟩:=zaJ.mp (show Has _ _ _ from x1)
   have hl:=l.length
   refine ⟨a,rfl,.inr ⟨⟨vs,.of (zaE _ _ ea)⟩,c o1 H1 S1 ds _ e1 s1 ⟨fun i o2 H2 e2 hi=>⟨vs,.of (zaE _ _ (e2.vx _ _ ea)),by omega⟩,fun i d o2 H2 e2 hi=>?_,fun i d o2 H2 x H3 S2 e2 s2 hi y=>?_⟩ d1⟩⟩
   ·obtain ⟨v,ev,_⟩:=l.get hi
    exact ⟨vs,v,.of (zaE _ _ (e2.vx _ _ ea)),ev⟩
   ·obtain ⟨v,ev,hv⟩:=l.get hi
    have e3:H3 = H2:=y.1
    subst e3
    have ex:=y.2 vs (.of (zaE _ _ (e2.vx _ _ ea)))
    rw [ev] at ex
    cases ex
    exact ⟨Same.refl _,hv.mono e2.vx⟩
  ·cases ex
def zsh (dt:DS):DS:=fun E δ S=>dt { E with nx:=fun δ' S'=>∃ S0 ds,S' = S0 ++ [ds]/\S.length <= S0.length/\E.nx (δ'.map (frz S0.length ds)) S0 } δ S
theorem zrX {t:TS} {dt:DS} (ht:RS t dt):RS t (zsh dt):=fun h o H δ σ S E D he hs q c=>by
 refine ht h o H δ σ S _ D he hs q ⟨fun o' H' δ' S' σ' e he' hs' ⟨S0,ds,eS,hl,n⟩=>?_,c.rt,c.bk,c.ct⟩
 subst eS
 obtain ⟨r,rfl⟩:=e.pre
 have hL:=hs'.len
 simp only [List.length_append,List.length_singleton] at hL
 have hS:=hs.len
 have rne:r ≠ []:=fun z=>by subst z; simp at hL; omega
 obtain ⟨r0,a,rfl⟩:∃ r0 a,r = r0 ++ [a]:=⟨r.dropLast,r.getLast rne,(List.dropLast_concat_getLast rne).symm⟩
 have hS0:S0.length = (o ++ r0).length:=by simp at hL ⊢; omega
 rw [<- List.append_assoc] at hs' he' e
 have nd:=List.nodup_append.mp hs'.nd
 have na:a ∉ o ++ r0:=fun m=>nd.2.2 a m a (by simp) rfl
 have nh:a ∉ h:=hs'.dis a (by simp)
 refine c.nx (o ++ r0) H' _ S0 σ' ⟨⟨r0,rfl⟩,fun b u hb eb=>?_⟩ ⟨by rw [List.length_map]; exact he'.len,fun i x ex=>?_⟩ (hs'.pop hS0) n
 ·obtain ⟨z1,z2⟩:=e.kp b u hb eb
  exact ⟨fun m=>z1 (List.mem_append_left _ m),z2⟩
 ·rw [List.getElem?_map] at ex
  obtain ⟨y,ey,ex⟩:=Option.map_eq_some_iff.mp ex
  match y,ey,ex with
  | none,ey,ex=>cases ex
  | some (.d d),ey,ex =>
   cases ex
   obtain ⟨v,e1,e2⟩:=he'.get i _ ey
   exact ⟨v,e1,Has.mono zfB d v e2⟩
  | some (.o w),ey,ex =>
   cases ex
   exact he'.get i _ ey
  | some (.x C fs),ey,ex =>
   cases ex
   obtain ⟨v,e1,e2⟩:=he'.get i _ ey
   exact ⟨v,e1,HasE.mono zfB e2⟩
  | some (.l k),ey,ex =>
   obtain ⟨v,e1,b,eb,rfl⟩:=he'.get i _ ey
   unfold frz at ex
   by_cases hk:k = S0.length
   ·simp only [hk,↓reduceIte] at ex
    cases ex
    rw [hk,hS0,List.getElem?_concat_length] at eb
    cases eb
    obtain ⟨vs,ev,l⟩:=hs'.cont k a ds (by rw [hk,hS0,List.getElem?_concat_length]) (by rw [hk,List.getElem?_concat_length])
    exact ⟨_,e1,zba.mpr ⟨a,vs,rfl,zah.mpr ⟨nh,na,ev⟩,l.mono zfB⟩⟩
   ·simp only [hk,↓reduceIte] at ex
    cases ex
    have hlt:=(List.getElem?_eq_some_iff.mp eb).1
    simp only [List.length_append,List.length_singleton] at hlt
    simp only [List.length_append] at hS0
    rw [List.getElem?_append_left (by simp only [List.length_append]; omega)] at eb
    exact ⟨_,e1,b,eb,rfl⟩
section
variable {t1 t2 t3 t4 t5 t6 t7 t8:TS} {d:DS}
theorem zqN (h:RS (zgx (zgx t1 t2) t3) d):RS (zgx t1 (zgx t2 t3)) d:=h
end
end
section
abbrev PN:=List XV->Sto->RX->Prop
def lfN (q:PN):List V->Hp->VK->Prop:=fun vs H Q=>∃ h o S xs R,RepS h o H S/\HasXs h o H xs vs/\q xs S R/\Cn h o H R Q
def spN (ps:List Str) (q:PN):Sp:=fun vs H Q _=>vs.length = ps.length/\lfN q vs H Q
theorem HasXs.len {h o:List Addr} {H:Hp}:∀ {xs:List XV} {vs:List V},HasXs h o H xs vs->vs.length = xs.length
 | [],vs,q=>by rw [show vs = [] from q]; rfl
 | x :: xs,vs,⟨v,r,e,_,l⟩=>by rw [e,List.length_cons,List.length_cons,HasXs.len l]
theorem HasXs.get {h o:List Addr} {H:Hp}:∀ {xs:List XV} {vs:List V} {i:Nat} {x:XV},HasXs h o H xs vs->xs[i]? = some x->∃ v,vs[i]? = some v/\HasX h o H x v
 | [],_,i,_,_,e=>by simp at e
 | y :: xs,vs,0,x,⟨v,r,e1,q,l⟩,e=>by
  rw [List.getElem?_cons_zero] at e
  cases e
  subst e1
  exact ⟨v,rfl,q⟩
 | y :: xs,vs,i + 1,x,⟨v,r,e1,q,l⟩,e=>by
  subst e1
  rw [List.getElem?_cons_succ] at e ⊢
  exact HasXs.get l e
theorem zfr {h o:List Addr} {H:Hp} {xs:List XV} {vs:List V} {n:Nat} (q:HasXs h o H xs vs):RepE h o H (xs.map some ++ List.replicate n none) (vs.map some ++ List.replicate n none):=by
 have hl:=q.len
 refine ⟨by simp [hl],fun i x e=>?_⟩
 by_cases hi:i < xs.length
 ·rw [List.getElem?_append_left (by rw [List.length_map]; exact hi),List.getElem?_map] at e
  obtain ⟨y,ey,e⟩:=Option.map_eq_some_iff.mp e
  cases e
  obtain ⟨v,ev,hv⟩:=q.get ey
  exact ⟨v,by rw [List.getElem?_append_left (by rw [List.length_map,hl]; exact hi),List.getElem?_map,ev]; rfl,hv⟩
 ·rw [List.getElem?_append_right (by rw [List.length_map]; omega),List.getElem?_replicate] at e
  split at e <;> cases e
section
variable {P:Program} {w:World} {K:W.Frag} {mg:Str->Option Value} {base:Heap} {x:Str} {st:Stmt} {N ps:List Str} {k:Nat}
theorem Df.dN {q:PN} (D:Dd K mg x st ps) (S:FnScope N ps (zn st)) (n:Nat) (hn:N.length = ps.length + n)
  (hbody:∀ (f:Addr) (cdv:Value) (A:Around) (outer:List Env) (s:Shared) (H:Hp) (E:XK),Room k (A.deeper (envOfC x (zn st) s.heap.objs.size f cdv)) ->
   ∃ t dt,PSs (zmB CX0 P w K mg base N x (zn st) f cdv A outer s H E).nox (zb5 st) t/\RS t dt/\∀ xs S R,q xs S R->dt (zcr S.length R) (xs.map some ++ List.replicate n none) S):Df P w K mg base x ps (k + 1) (spN ps q):=by
 refine Df.of D S (fun vs H Q E h=>h.1) fun f cdv A outer s H vs Q E hr ⟨hl,h,o,S',xs,R,hs',hx,hq,c⟩=>?_
 obtain ⟨t,dt,h1,h2,h3⟩:=hbody f cdv A outer s H E hr
 refine ⟨t,h1,h2 h o H _ _ S' _ _ ?_ hs' (h3 xs S' R hq) (eok hs' c)⟩
 have e:N.length - vs.length = n:=by omega
 unfold start
 rw [e]
 exact zfr hx
end
section
variable {X:Cx} {x:Str} {ps:List Str} {k j:Nat} {pos pos':Pos} {e:Expr} {es:List Expr} {t:TA}
theorem zw {q:PN} (D:Df X.prog X.w X.K X.mg X.base x ps k (spN ps q)) (hr:Room j X.A) (hk:k <= j) (ha:PA X (e :: es) t) (hg:Gl X x:=by rfl) (hdb:(x == ("__debug__":Str)) = false:=by decide)
  (q1:starEach (e :: es) X.env = (false,eval e X.env) :: starEach es X.env:=by rfl) (q2:((backTo pos (starEach es X.env)).any fun x=>x.fst) = false:=by rfl):PE X (.Call (.Name x pos') (e :: es) [] pos) (zl9 (spN ps q) [] E0 t):=by
 obtain ⟨f,fd,F,hm,kp,hb⟩:=D.ex
 exact zmL (dvs:=[]) (ds:=[]) (E:=E0) F (hr.mono hk) hg hm kp hb .nil pass0 ha hdb q1 q2
end
def zar (m:Nat) (q:PN) (da:DA):DE:=fun δ S R=>da δ S fun xs S1=>∃ ds,datas xs = some ds/\ds.length = m/\q (ds.map XV.d) [] (ret0 S1 R)
theorem hxs0 {h o:List Addr} {H:Hp}:∀ {ds:List PyData} {vs:List V},HasXs h o H (ds.map XV.d) vs->HasXs (h ++ o) [] H (ds.map XV.d) vs
 | [],_,q=>q
 | d :: ds,vs,⟨v,r,e,q,l⟩=>⟨v,r,e,hx0 q,hxs0 l⟩
theorem zL {ps:List Str} {q:PN} {m:Nat} {t:TA} {da:DA} (ha:RA t da) (hm:ps.length = m:=by rfl):RE (zl9 (spN ps q) [] E0 t) (zar m q da):=fun h o H δ σ S R Q he hs w c =>
 ha h o H δ σ S _ _ he hs w fun o1 H1 S1 xs vs e1 s1 x1 ⟨ds,e,hl,d1⟩=>by
  have ex:=zdH e
  subst ex
  have hv:=x1.len
  rw [List.append_nil]
  exact ⟨by rw [hv,List.length_map,hl,hm],h ++ o1,[],[],_,_,rep0 s1,hxs0 x1,d1,cn0 s1 (c.pre e1)⟩
def zG (i m:Nat) (q:PN) (da:DA):DE:=fun δ S R=>da δ S fun xs S1=>∃ k,xs[i]? = some (.l k)/\∃ p,S1[k]? = some p/\∃ ds,datas (xs.set i (.d .none)) = some ds/\ds.length = m/\q ((ds.map XV.d).set i (.l 0)) [p] (zse k S1 R)
theorem zs1 {h o:List Addr} {H:Hp} {k:Nat} {a:Addr} (ea:o[k]? = some a):∀ {xs:List XV} {vs:List V} {ds:List PyData} {i:Nat},HasXs h o H xs vs->xs[i]? = some (.l k)->datas (xs.set i (.d .none)) = some ds->HasXs (h ++ o.filter (fun b=>b ≠ a)) [a] H ((ds.map XV.d).set i (.l 0)) vs
 | [],_,_,i,_,e,_=>by simp at e
 | x :: xs,vs,ds,0,⟨v,r,e1,q,l⟩,e,ed=>by
  rw [List.getElem?_cons_zero] at e
  cases e
  rw [List.set_cons_zero] at ed
  obtain ⟨ds',rfl⟩:∃ ds',ds = .none :: ds':=by
   unfold datas at ed
   cases hd:datas xs with
   | none=>rw [hd] at ed; cases ed
   | some y=>rw [hd] at ed; cases ed; exact ⟨y,rfl⟩
  have ed':datas xs = some ds':=by
   unfold datas at ed
   cases hd:datas xs with
   | none=>rw [hd] at ed; cases ed
   | some y=>rw [hd] at ed; cases ed; rfl
  have ex:=zdH ed'
  subst ex
  obtain ⟨b,eb,rfl⟩:=q
  rw [ea] at eb
  cases eb
  exact ⟨_,r,e1,⟨a,rfl,rfl⟩,go (ea:=ea) l⟩
 | x :: xs,vs,ds,i + 1,⟨v,r,e1,q,l⟩,e,ed=>by
  rw [List.getElem?_cons_succ] at e
  rw [List.set_cons_succ] at ed
  match x,q,ed with
  | .d d,q,ed =>
   unfold datas at ed
   cases hd:datas (xs.set i (.d .none)) with
   | none=>rw [hd] at ed; cases ed
   | some ds' =>
    rw [hd] at ed
    cases ed
    exact ⟨v,r,e1,hxP ea q,zs1 ea l e hd⟩
  | .l j,q,ed=>cases ed
  | .o w,q,ed=>cases ed
  | .x _ _,q,ed=>cases ed
where
 go {h o:List Addr} {H:Hp} {k:Nat} {a:Addr} {ea:o[k]? = some a}:∀ {ds:List PyData} {vs:List V},HasXs h o H (ds.map XV.d) vs->HasXs (h ++ o.filter (fun b=>b ≠ a)) [a] H (ds.map XV.d) vs
 | [],_,q=>q
 | d :: ds,vs,⟨v,r,e,q,l⟩=>⟨v,r,e,hxP ea q,go (ea:=ea) l⟩
theorem zls:∀ {xs:List XV} {ds:List PyData},datas xs = some ds->xs.length = ds.length:=fun e=>by
 rw [zdH e,List.length_map]
theorem zC {ps:List Str} {q:PN} {i m:Nat} {t:TA} {da:DA} (ha:RA t da) (hm:ps.length = m:=by rfl):RE (zl9 (spN ps q) [] E0 t) (zG i m q da):=fun h o H δ σ S R Q he hs w c =>
 ha h o H δ σ S _ _ he hs w fun o1 H1 S1 xs vs e1 s1 x1 ⟨k,ek,p,ep,ds,e,hl,d1⟩=>by
  have hv:=x1.len
  have hd:=zls e
  rw [List.length_set] at hd
  obtain ⟨v,_,a,ea,_⟩:=x1.get ek
  rw [List.append_nil]
  exact ⟨by rw [hv,hd,hl,hm],_,[a],[p],_,_,zsk s1 ea ep,zs1 ea x1 ek e,d1,cnP s1 ea ep (c.pre e1)⟩
mutual
def zi0:PyData->Bool
 | .list _=>false
 | .dict _=>false
 | .tuple ds=>zhX ds
 | _=>true
def zhX:List PyData->Bool
 | []=>true
 | d :: ds=>zi0 d && zhX ds
end
mutual
theorem zil {h o:List Addr} {H G:Hp} (sm:Same G H) (hh:∀ b,b ∈ h\/b ∈ o->∃ u:MO,H b = some u.ho):∀ (d:PyData) (v:V),zi0 d = true->Has G d v->Has (vx h o H) d v
 | .none,v,_,q=>zdw.mpr (zdw.mp q)
 | .bool b,v,_,q=>zc6.mpr (zc6.mp q)
 | .int i,v,_,q=>zbX.mpr (zbX.mp q)
 | .str z,v,_,q=>zdu.mpr (zdu.mp q)
 | .list ds,v,n,_=>by simp [zi0] at n
 | .dict ds,v,n,_=>by simp [zi0] at n
 | .tuple ds,v,n,q=>by
  obtain ⟨a,vs,e,ea,l⟩:=zaJ.mp q
  have n':zhX ds = true:=by simpa [zi0] using n
  have ea':=sm _ _ ea
  refine zaJ.mpr ⟨a,vs,e,zah.mpr ⟨fun m=>?_,fun m=>?_,ea'⟩,zgQ sm hh ds vs n' l⟩
  ·obtain ⟨u,eu⟩:=hh a (.inl m)
   rw [ea'] at eu
   cases u <;> cases eu
  ·obtain ⟨u,eu⟩:=hh a (.inr m)
   rw [ea'] at eu
   cases u <;> cases eu
theorem zgQ {h o:List Addr} {H G:Hp} (sm:Same G H) (hh:∀ b,b ∈ h\/b ∈ o->∃ u:MO,H b = some u.ho):∀ (ds:List PyData) (vs:List V),zhX ds = true->HasL G ds vs->HasL (vx h o H) ds vs
 | [],vs,_,q=>zR.mpr (zR.mp q)
 | d :: ds,vs,n,q=>by
  obtain ⟨v,r,e,hv,l⟩:=zH.mp q
  simp only [zhX,Bool.and_eq_true] at n
  exact zH.mpr ⟨v,r,e,zil sm hh d v n.1 hv,zgQ sm hh ds r n.2 l⟩
end
def zsg (S:Sto) (R:RX):RX:=fun y S'=>match y,S' with
 | .d d,[]=>zi0 d = true/\R (.d d) S
 | _,_=>False
theorem zox {S:Sto} {R:RX} {d:PyData}:zsg S R (.d d) [] = (zi0 d = true/\R (.d d) S):=rfl
def views (S:Sto):List XV->Option (List PyData)
 | []=>some []
 | x :: r=>(zd2 S x).bind fun d=>(views S r).map (d :: ·)
theorem zim {S:Sto}:views S [] = some []:=rfl
theorem zfq {S:Sto} {x:XV} {r:List XV}:views S (x :: r) = (zd2 S x).bind fun d=>(views S r).map (d :: ·):=rfl
def zkb (m:Nat) (q:PN) (da:DA):DE:=fun δ S R=>da δ S fun xs S1=>∃ ds,views S1 xs = some ds/\ds.length = m/\q (ds.map XV.d) [] (zsg S1 R)
theorem ztn {h o:List Addr} {H:Hp} {S:Sto} (hs:RepS h o H S):RepS h [] H []:=⟨rfl,List.nodup_nil,(fun _ h=>(nomatch h)),hs.hal,(fun _ _ _ e=>(by simp at e))⟩
theorem hxV {h o:List Addr} {H:Hp} {S:Sto} {x:XV} {v:V} {d:PyData} (hs:RepS h o H S) (e:zd2 S x = some d) (q:HasX h o H x v):HasX h [] H (.d d) v:=by
 have sub:Same (vx h o H) (vx h [] H):=fun b u eb=>by
  obtain ⟨z1,z2,z3⟩:=zah.mp eb
  exact zah.mpr ⟨z1,by simp,z3⟩
 unfold zd2 at e
 split at e
 ·cases e
  exact Has.mono sub _ _ q
 ·rename_i k
  obtain ⟨a,ea,rfl⟩:=q
  cases hk:S[k]? with
  | none=>rw [hk] at e; cases e
  | some ds =>
   rw [hk] at e
   cases e
   obtain ⟨vs,ev,l⟩:=hs.cont k a ds ea hk
   exact zba.mpr ⟨a,vs,rfl,zah.mpr ⟨hs.dis a (List.mem_of_getElem? ea),by simp,ev⟩,l.mono sub⟩
 ·cases e
 ·cases e
theorem zsX {h o:List Addr} {H:Hp} {S:Sto} (hs:RepS h o H S):∀ {xs:List XV} {vs:List V} {ds:List PyData},views S xs = some ds->HasXs h o H xs vs->HasXs h [] H (ds.map XV.d) vs/\vs.length = ds.length
 | [],vs,ds,e,q=>by cases e; exact ⟨q,by rw [show vs = [] from q]; rfl⟩
 | x :: xs,vs,ds,e,⟨v,r,e1,q,l⟩=>by
  rw [zfq] at e
  cases hd:zd2 S x with
  | none=>rw [hd] at e; cases e
  | some d =>
   rw [hd,Option.bind_some] at e
   cases hr:views S xs with
   | none=>rw [hr] at e; cases e
   | some es =>
    rw [hr] at e
    cases e
    obtain ⟨z1,z2⟩:=zsX hs hr l
    exact ⟨⟨v,r,e1,hxV hs hd q,z1⟩,by rw [e1,List.length_cons,List.length_cons,z2]⟩
theorem cnV {h o:List Addr} {H:Hp} {S:Sto} {R:RX} {Q:VK} (hs:RepS h o H S) (c:Cn h o H R Q):Cn h [] H (zsg S R) Q:=fun o' H' S' y v e s' hy q=>by
 unfold zsg at q
 split at q
 ·rename_i d
  have sH:Same H H':=fun b u eb=>(e.kp b u (by simp) eb).2
  have e0:o' = []:=List.eq_nil_of_length_eq_zero s'.len.symm
  subst e0
  have hs2:=hs.same sH
  refine c o H' S (.d d) v (Ex.of_same sH) hs2 (zil (zaE (h:=h) (o:=[])) (fun b m=>?_) d v q.1 hy) q.2
  exact m.elim (hs2.hal b) (hs2.oam b)
 ·exact q.elim
theorem znI {ps:List Str} {q:PN} {m:Nat} {t:TA} {da:DA} (ha:RA t da) (hm:ps.length = m:=by rfl):RE (zl9 (spN ps q) [] E0 t) (zkb m q da):=fun h o H δ σ S R Q he hs w c =>
 ha h o H δ σ S _ _ he hs w fun o1 H1 S1 xs vs e1 s1 x1 ⟨ds,e,hl,d1⟩=>by
  obtain ⟨z1,z2⟩:=zsX s1 e x1
  rw [List.append_nil]
  exact ⟨by rw [z2,hl,hm],h,[],[],_,_,ztn s1,z1,d1,cnV s1 (c.pre e1)⟩
end
section
def zpX (K:W.Frag):List V->Hp->VK->Prop:=fun xs H Q=>zsL K xs H Q\/∃ z,xs = [.str z]/\z.length <= sizeLine/\Q (.int z.length) H
theorem zaf {X:Cx}:CallR X (.builtin "len") (zpX X.K):=zfx.or zin
def zq9 (S:Sto):XV->Option Nat
 | .d (.tuple ds)=>some ds.length
 | .d (.list ds)=>some ds.length
 | .l k=>(S[k]?).map List.length
 | .d (.str z)=>if z.length <= sizeLine then some z.length else none
 | _=>none
def zcB:List XV->Sto->RX->Prop:=fun xs S R=>arg1 xs fun x=>∃ n,zq9 S x = some n/\R (.d (.int n)) S
theorem zaS {K:W.Frag}:RC (zpX K) zcB:=fun h o H S xs vs R Q hs hx q c=>by
 obtain ⟨x,rfl,n,hd,q1⟩:=zbb q
 unfold zq9 at hd
 split at hd
 ·cases hd
  exact .inl (zl5 h o H S _ vs R Q hs hx ⟨_,rfl,q1⟩ c)
 ·cases hd
  exact .inl (zl5 h o H S _ vs R Q hs hx ⟨_,rfl,q1⟩ c)
 ·rename_i k
  cases hk:S[k]? with
  | none=>rw [hk] at hd; cases hd
  | some ds =>
   rw [hk] at hd
   cases hd
   exact .inl (zl5 h o H S _ vs R Q hs hx ⟨ds,hk,q1⟩ c)
 ·split at hd
  ·rename_i hz
   cases hd
   obtain ⟨v,rfl,hx1⟩:=hxs1 hx
   exact .inr ⟨_,by rw [zea hx1],hz,c o H S _ _ Ex.refl hs (xI _) q1⟩
  ·cases hd
 ·cases hd
section
variable {S:Sto} {ds:List PyData} {k:Nat} {z:Str}
theorem zom:zq9 S (.d (.tuple ds)) = some ds.length:=rfl
theorem zob:zq9 S (.d (.list ds)) = some ds.length:=rfl
theorem zo0:zq9 S (.l k) = (S[k]?).map List.length:=rfl
end
def ztc (neg:Bool):R2:=fun x y H Q=>∃ d e ds,Has H d x/\Has H e y/\SeqAt.shaped d = true/\SeqAt.shaped (.list ds) = true/\(e = .list ds\/e = .tuple ds)/\Q (.bl (if neg then !ds.any (fun y=>PyData.eqv y d) else ds.any (fun y=>PyData.eqv y d))) H
theorem zgP {ds:List PyData} (h:SeqAt.shaped (.list ds) = true):PyData.canLayAll0 ds = true/\PyData.depthAll ds <= 63:=by
 have h1:=SeqAt.canLay_of_shaped h
 have h2:=SeqAt.depth_of_shaped h
 simp only [PyData.canLay0,PyData.depth] at h1 h2
 exact ⟨h1,by omega⟩
theorem zlO {X:Cx} (hu:X.A.units + 64 < cLine):OpR X (compareOp .NotIn) (ztc true):=by
 intro zm s σ H x y v u Q I rx ry h
 obtain ⟨d,e,ds,hd,he,sd,se,ee,q⟩:=h
 obtain ⟨s1,s2⟩:=zgP se
 obtain ⟨as,q1⟩:=Has.reads I d x v hd (SeqAt.canLay_of_shaped sd) rx
 have hm:X.A.units + 1 + min (PyData.depthAll ds) d.depth < cLine:=by
  have:=Nat.min_le_left (PyData.depthAll ds) d.depth
  omega
 rcases ee with rfl | rfl
 ·obtain ⟨bs,q2⟩:=Has.reads I (.list ds) y u he (by simpa only [PyData.canLay0] using s1) ry
  exact SeqAt.notIn_list_reads q2 q1 s1 (SeqAt.canLay_of_shaped sd) hm ⟨.bl _,H,I,rfl,q⟩
 ·obtain ⟨bs,q2⟩:=Has.reads I (.tuple ds) y u he (by simpa only [PyData.canLay0] using s1) ry
  exact SeqAt.notIn_tuple_reads q2 q1 s1 (SeqAt.canLay_of_shaped sd) hm ⟨.bl _,H,I,rfl,q⟩
def zme:R2:=fun x y H Q=>ztc true x y H Q\/∃ i j,x = .str i/\y = .str j/\Q (.bl (!(!(Builtin.Str.occurrences j i 0 j.length 1).isEmpty))) H
theorem zmq {X:Cx} (hu:X.A.units + 64 < cLine):OpR X (compareOp .NotIn) zme:=(zlO hu).or zh0
def zjP:D2:=fun x y S R=>match y with
 | .d (.str b)=>asS x fun a=>R (.d (.bool (!(!(Builtin.Str.occurrences b a 0 b.length 1).isEmpty)))) S
 | y=>∃ d,zd2 S x = some d/\∃ ds,asQ S y = some ds/\SeqAt.shaped d = true/\SeqAt.shaped (.list ds) = true/\R (.d (.bool (!ds.any fun y=>PyData.eqv y d))) S
theorem zqe {h o:List Addr} {H:Hp} {S:Sto} {x:XV} {v:V} {ds:List PyData} (hs:RepS h o H S) (e:asQ S x = some ds) (q:HasX h o H x v):∃ e,Has H e v/\(e = .list ds\/e = .tuple ds):=by
 unfold asQ at e
 split at e
 ·cases e; exact ⟨_,zcN (x:=.d _) hs rfl q,.inr rfl⟩
 ·cases e; exact ⟨_,zcN (x:=.d _) hs rfl q,.inl rfl⟩
 ·rename_i k
  exact ⟨.list ds,zcN (x:=.l k) hs (by show (S[k]?).map PyData.list = _; rw [e]; rfl) q,.inl rfl⟩
 ·cases e
theorem zmX:RO zme zjP:=fun h o H S x y v u R Q hs hx hy q c=>by
 unfold zjP at q
 split at q
 ·replace q:=zmr q
  obtain ⟨a,rfl,q⟩:=q
  exact .inr ⟨_,_,zea hx,zea hy,c o H S _ _ Ex.refl hs (xB _) q⟩
 ·obtain ⟨d,e1,ds,e2,s1,s2,q⟩:=q
  obtain ⟨e,he,ee⟩:=zqe hs e2 hy
  exact .inl ⟨d,e,ds,zcN hs e1 hx,he,s1,s2,ee,c o H S _ _ Ex.refl hs (xB _) q⟩
section
variable {S:Sto} {ds:List PyData} {k:Nat} {a b:Str} {x:XV} {R:RX}
theorem zkf:zjP x (.d (.tuple ds)) S R ↔ ∃ d,zd2 S x = some d/\SeqAt.shaped d = true/\SeqAt.shaped (.list ds) = true/\R (.d (.bool (!ds.any fun y=>PyData.eqv y d))) S:=⟨fun ⟨d,e,_,e',q⟩=>by cases e'; exact ⟨d,e,q⟩,fun ⟨d,e,q⟩=>⟨d,e,_,rfl,q⟩⟩
end
section
variable {X:Cx} {elts:List Expr} {n:Nat} {tpos:Pos}
def zn9 (K:W.Frag) (ta:TA):TI:=fun σ H R=>ta σ H fun vs H1=>∃ a,vs = [.ref a]/\(((∃ xs,SqT K H1 a xs)/\R (Ite (SqT K) a) H1)\/((∃ xs,SqL K H1 a xs)/\R (Ite (SqL K) a) H1))
theorem znz {a:Expr} {ta:TA} {p pos:Pos} (hg:Gl X "enumerate") (hm:X.mg "enumerate" = none) (ha:PA X [a] ta) (hs:starEach [a] X.env = [(false,eval a X.env)]:=by rfl):PI X (.Tuple elts n tpos) (.Call (.Name "enumerate" p) [a] [] pos) (zn9 X.K ta):=by
 intro zm s σ H R I h
 refine Call_ (ze1 I hg hm zgD (PyProof.Rows.callWith_type1 (thn (ha pos zm s σ H _ I h) fun us s1 ⟨vs,H1,I1,r1,q1⟩=>?_) hs rfl))
 obtain ⟨b,e,⟨⟨xs,hq⟩,q⟩ | ⟨⟨xs,hq⟩,q⟩⟩:=q1
 ·subst e
  cases r1 with
  | cons r rr =>
   cases rr
   cases r
   obtain ⟨its,rv,pl,hz⟩:=I1.tuple hq
   refine zht (show s1.heap.IsTuple b its.toArray from pl) fun g he hj k=>?_
   refine wpAny_pyIter_enum (s:={ s1 with heap:=g }) he ?_
   have I2:Inv X zm σ H1 { s1 with heap:=g }:=I1.kept (t':=s1.toks) k
   refine ⟨s1.heap.objs.size + 1,[s1.heap.objs.size + 1,s1.heap.objs.size],_,_,H1,rfl,I2,zkz b _ _ (Nat.succ_ne_self _),⟨⟨_,he⟩,hj⟩,fun c hc=>?_,q⟩
   rcases List.mem_cons.mp hc with rfl | hc
   ·exact I1.fpOk (Nat.le_succ _) (I1.hok.fresh (Nat.le_succ _))
   ·rw [List.mem_singleton.mp hc]
    exact I1.fpOk (Nat.le_refl _) (I1.hok.fresh (Nat.le_refl _))
 ·subst e
  cases r1 with
  | cons r rr =>
   cases rr
   cases r
   obtain ⟨its,rv,pl,hz⟩:=I1.list hq
   refine call_enumerate_list pl.isList fun g he hj _ k=>?_
   refine wpAny_pyIter_enum (s:={ s1 with heap:=g }) he ?_
   have I2:Inv X zm σ H1 { s1 with heap:=g }:=I1.kept (t':=s1.toks) k
   refine ⟨s1.heap.objs.size + 1,[s1.heap.objs.size + 1,s1.heap.objs.size],_,_,H1,rfl,I2,zkA b _ _ (Nat.succ_ne_self _),⟨⟨_,he⟩,hj⟩,fun c hc=>?_,q⟩
   rcases List.mem_cons.mp hc with rfl | hc
   ·exact I1.fpOk (Nat.le_succ _) (I1.hok.fresh (Nat.le_succ _))
   ·rw [List.mem_singleton.mp hc]
    exact I1.fpOk (Nat.le_refl _) (I1.hok.fresh (Nat.le_refl _))
end
def zhe (a:DA):DI:=fun δ S R=>a δ S fun xs S1=>arg1 xs fun x=>∃ ds,zkh x = some ds/\R (zhk 0 ds) S1
theorem znw {K:W.Frag} {ta:TA} {da:DA} (ha:RA ta da):RI (zn9 K ta) (zhe da):=fun h o H δ σ S R Q he hs q c =>
 ha h o H δ σ S _ _ he hs q fun o1 H1 S1 xs vs e1 s1 x1 d0=>by
  obtain ⟨x,rfl,ds,hd,d1⟩:=zbb d0
  obtain ⟨v,rfl,hv⟩:=hxs1 x1
  have core:∀ {Sq:Hp->Addr->List V->Prop} {a:Addr} {ws:List V},(∀ {o2 H2},ExH h o1 H1 o2 H2->Sq H2 a ws)->HasL (vx h o1 H1) ds ws->WalkX h o1 H1 (Ite Sq a) (zhk 0 ds):=by
   intro Sq a ws ea' l
   have hl:=l.length
   refine ⟨fun i o2 H2 e2 hi=>⟨ws,ea' e2,by rw [zc9] at hi; omega⟩,fun i d o2 H2 e2 hi=>?_,fun i d o2 H2 x H3 S2 e2 s2 hi y=>?_⟩
   ·obtain ⟨e,h1,rfl⟩:=ze0 ds 0 i d hi
    obtain ⟨u,eu,_⟩:=l.get h1
    exact ⟨ws,u,ea' e2,eu⟩
   ·obtain ⟨e,h1,rfl⟩:=ze0 ds 0 i d hi
    obtain ⟨u,eu,hu⟩:=l.get h1
    obtain ⟨p,v,hp,rfl,rfl,hy⟩:=y
    have ev:=hy ws (ea' e2)
    rw [eu] at ev
    cases ev
    refine ⟨Same.laid hp,zaJ.mpr ⟨p,_,rfl,s2.laid hp,zH.mpr ⟨_,_,rfl,?_,zH.mpr ⟨_,_,rfl,(hu.mono e2.vx).mono (zfj (Same.laid hp)),zR.mpr rfl⟩⟩⟩⟩
    rw [Nat.zero_add]
    exact zbX.mpr rfl
  unfold zkh at hd
  split at hd
  ·cases hd
   obtain ⟨a,ws,rfl,ea,l⟩:=zba.mp (show Has (vx h o1 H1) (.list ds) v from hv)
   exact ⟨a,rfl,.inr ⟨⟨ws,.of (zaE _ _ ea)⟩,c o1 H1 S1 _ _ e1 s1 (core (fun e2=>.of (zaE _ _ (e2.vx _ _ ea))) l) d1⟩⟩
  ·cases hd
   obtain ⟨a,ws,rfl,ea,l⟩:=zaJ.mp (show Has (vx h o1 H1) (.tuple ds) v from hv)
   exact ⟨a,rfl,.inl ⟨⟨ws,.of (zaE _ _ ea)⟩,c o1 H1 S1 _ _ e1 s1 (core (fun e2=>.of (zaE _ _ (e2.vx _ _ ea))) l) d1⟩⟩
  ·cases hd
def zte:XV->List XV->Sto->RX->Prop:=fun x xs S R=>∃ k,x = .l k/\∃ ds,S[k]? = some ds/\xs = []/\∃ d,ds[ds.length - 1]? = some d/\R (.d d) (S.set k ds.dropLast)
def zsl (rd:XV->List XV->Sto->RX->Prop) (e:DE) (a:DA):DE:=fun δ S R=>e δ S fun x S1=>∃ z,x = .d (.str z)/\a δ S1 fun xs S2=>rd x xs S2 R
theorem zrl {K:W.Frag} {r:V->List V->Hp->VK->Prop} {rd:XV->List XV->Sto->RX->Prop} {te:TE} {de:DE} {tl:TA} {dl:DA} (hr:RM r rd) (he':RE te de) (ha:RA tl dl):RE (tBM K "str" r te tl) (zsl rd de dl):=fun h o H δ σ S R Q he hs q c =>
 he' h o H δ σ S _ _ he hs q fun o1 H1 S1 x v e1 s1 x1 ⟨z,ez,d1⟩=>by
  subst ez
  cases zea x1
  exact ⟨rfl,ha h o1 H1 δ σ S1 _ _ (he.mono e1) s1 d1 fun o2 H2 S2 xs vs e2 s2 x2 d2=>hr h o2 H2 S2 (.d (.str z)) _ xs vs R Q s2 (HasX.mono (x:=.d (.str z)) e2 x1) x2 d2 (c.pre (e1.trans e2))⟩
theorem zg9 {H:Hp}:∀ {ns:List Str} {vs:List V},HasL H (ns.map PyData.str) vs->vs = ns.map V.str
 | [],vs,h=>zR.mp h
 | n :: ns,vs,h=>by
  obtain ⟨v,r,rfl,h1,h2⟩:=zH.mp h
  rw [zdu.mp h1,zg9 h2]
  rfl
def znb:XV->List XV->Sto->RX->Prop:=fun x xs S R=>asS x fun z=>arg1 xs fun y=>∃ ds,zkR S y = some ds/\∃ zs:List Str,ds = zs.map PyData.str/\z.length <= 16/\zs.length <= 1000/\(∀ y ∈ zs,y.length <= 1000)/\R (.d (.str (PySem.Txt.join z zs))) S
theorem znE {K:W.Frag}:RM (zrz K) znb:=fun h o H S x v xs vs R Q hs hx hxs q c=>by
 replace q:=zmr q
 obtain ⟨z,rfl,q⟩:=q
 obtain ⟨y,rfl,ds,e,zs,rfl,h1,h2,h3,q1⟩:=zbb q
 obtain ⟨u,rfl,hu⟩:=hxs1 hxs
 obtain ⟨a,ws,rfl,ea,l⟩:=zbp hs e hu
 rw [zg9 l] at ea
 exact ⟨z,a,zs,zea hx,rfl,.of ea,h1,h2,h3,c o H S _ _ Ex.refl hs (xS _) q1⟩
def znN:D2:=fun x y S R=>asL S x fun ds=>asL S y fun es=>ds.length + es.length <= 1000/\R (.l S.length) (S ++ [ds ++ es])
theorem zpe:RO zqt znN:=fun h o H S x y v u R Q hs hx hy q c=>by
 obtain ⟨ds,e0,es,e1,hl,q⟩:=q
 obtain ⟨a,vs,rfl,ea,la⟩:=zbp hs e0 hx
 obtain ⟨b,us,rfl,eb,lb⟩:=zbp hs e1 hy
 exact ⟨a,b,vs,us,rfl,rfl,ea,eb,by rw [la.length,lb.length]; exact Nat.le_of_lt (small1000 hl),zpa hs (la.append lb) c q⟩
def zl2:V->List V->Hp->VK->Prop:=fun x vs H Q=>∃ (d:PyData) (ds:List PyData) (j:Nat),Has H (.list ds) x/\(∃ v,vs = [v]/\Has H d v)/\SeqAt.shaped d = true/\SeqAt.shaped (.list ds) = true/\ds.length <= 1000/\(∃ e,ds[j]? = some e/\PyData.eqv e d = true)/\(∀ m e,m < j->ds[m]? = some e->PyData.eqv e d = false)/\Q (.int j) H
theorem zlr {X:Cx} (hu:X.A.units + 64 < cLine):MtR X "list.index" zl2:=by
 intro zm s σ H x vs v us Q I rx rv h
 obtain ⟨d,ds,j,hl,⟨y,rfl,hy⟩,sd,se,h1000,⟨e,ej,he⟩,hno,q⟩:=h
 obtain ⟨s1,s2⟩:=zgP se
 obtain ⟨u,rfl,r1⟩:=rv.one
 obtain ⟨as,q1⟩:=Has.reads I d y u hy (SeqAt.canLay_of_shaped sd) r1
 obtain ⟨bs,q2⟩:=Has.reads I (.list ds) x v hl (by simpa only [PyData.canLay0] using s1) rx
 have hm:X.A.units + 1 + min (PyData.depthAll ds) d.depth < cLine:=by
  have:=Nat.min_le_left (PyData.depthAll ds) d.depth
  omega
 cases q2 with
 | @list l o vs n xs as₁ h1 h2 h3 h4 =>
  have hn:vs.size = ds.length:=by simpa using SeqAt.ReadsAll.length _ _ _ h4
  have hmap:=SeqAt.readsAll_map _ _ _ s1 h4
  have hget:∀ (m:Nat) (hm:m < vs.size) e,ds[m]? = some e->SeqAt.readOf s.heap vs[m] = e:=fun m hm e h=>by
   rw [<- hmap,List.getElem?_map] at h
   have:vs.toList[m]? = some vs[m]:=by simp [hm]
   rw [this] at h
   exact Option.some.inj h
  have hj:j < vs.size:=by rw [hn]; exact (List.getElem?_eq_some_iff.mp ej).1
  obtain ⟨cls,dd,data,sl⟩:=o
  simp only at h2 h3
  subst h2 h3
  refine call_meets PySem.F.slot_list_index ⟨_,h1,rfl⟩ PySem.F.entry_list_index (PySem.F.args_list_index_2 _ _)
   (SeqAt.list_indexAt l vs n dd sl u (fun y=>PyData.eqv (SeqAt.readOf s.heap y) d) j hj (by omega) ?_ ?_) ⟨h1,SeqAt.items_eqAt h4 q1 s1 (SeqAt.canLay_of_shaped sd) hm,⟨.int j,H,I.tok _,⟨_,rfl⟩,q⟩⟩
  ·show PyData.eqv (SeqAt.readOf s.heap vs[j]) d = true
   rw [hget j hj e ej]; exact he
  ·intro m hm hlt
   show PyData.eqv (SeqAt.readOf s.heap vs[m]) d = false
   have em:ds[m]? = some ds[m]:=List.getElem?_eq_getElem (by omega)
   rw [hget m hm _ em]; exact hno m _ hlt em
def zko:XV->List XV->Sto->RX->Prop:=fun x xs S R=>arg1 xs fun y=>∃ d,zd2 S y = some d/\∃ ds,zkR S x = some ds/\SeqAt.shaped d = true/\SeqAt.shaped (.list ds) = true/\ds.length <= 1000/\∃ j,(∃ e,ds[j]? = some e/\PyData.eqv e d = true)/\(∀ m e,m < j->ds[m]? = some e->PyData.eqv e d = false)/\R (.d (.int (j:Nat))) S
theorem zml:RM zl2 zko:=fun h o H S x v xs vs R Q hs hx hxs q c=>by
 obtain ⟨y,rfl,d,e1,ds,e2,s1,s2,h1,j,h2,h3,q1⟩:=zbb q
 obtain ⟨u,rfl,hu⟩:=hxs1 hxs
 have hl:Has H (.list ds) v:=zcN (x:=x) hs (by
  unfold zkR at e2
  split at e2
  ·cases e2; rfl
  ·rename_i k; show (S[k]?).map PyData.list = _; rw [e2]; rfl
  ·cases e2) hx
 exact ⟨d,ds,j,hl,⟨u,rfl,zcN hs e1 hu⟩,s1,s2,h1,h2,h3,c o H S _ _ Ex.refl hs (xI _) q1⟩
def zsd (rd:XV->List XV->Sto->RX->Prop) (e:DE) (a:DA):DE:=fun δ S R=>e δ S fun x S1=>∃ ds,zkR S1 x = some ds/\a δ S1 fun xs S2=>rd x xs S2 R
theorem zqC {K:W.Frag} {r:V->List V->Hp->VK->Prop} {rd:XV->List XV->Sto->RX->Prop} {te:TE} {de:DE} {tl:TA} {dl:DA} (hr:RM r rd) (he':RE te de) (ha:RA tl dl):RE (tBM K "list" r te tl) (zsd rd de dl):=fun h o H δ σ S R Q he hs q c =>
 he' h o H δ σ S _ _ he hs q fun o1 H1 S1 x v e1 s1 x1 ⟨ds,ez,d1⟩=>by
  obtain ⟨a,ws,rfl,ea,_⟩:=zbp s1 ez x1
  exact ⟨zhw ea,ha h o1 H1 δ σ S1 _ _ (he.mono e1) s1 d1 fun o2 H2 S2 xs vs e2 s2 x2 d2=>hr h o2 H2 S2 x _ xs vs R Q s2 (x1.mono e2) x2 d2 (c.pre (e1.trans e2))⟩
abbrev zti (a:Addr) (m:Nat):DEnds:={ nx:=fun δ _=>δ[0]? = some (some (.o (.ref a)))/\δ.length = m + 1,ct:=fun δ _=>δ[0]? = some (some (.o (.ref a)))/\δ.length = m + 1,rt:=fun _ _=>False }
end
section
open Sem (wp)
def ItK (t:Bool) (h:Heap) (j a:Addr) (k:Nat):Prop:=match t with
 | true=>h.IsTupleIter j a k
 | false=>h.IsListIter j a k
def SqK (t:Bool) (h:Heap) (a:Addr) (xs:Array Value):Prop:=match t with
 | true=>h.IsTuple a xs
 | false=>h.IsList a xs
theorem ItK.at {t:Bool} {h g:Heap} {j a:Addr} {k:Nat} (q:ItK t h j a k) (f:∀ o,h.get? j = some o->g.get? j = some o):ItK t g j a k:=by
 cases t
 ·exact Heap.IsListIter.at (show h.IsListIter j a k from q) f
 ·exact Heap.IsTupleIter.at (show h.IsTupleIter j a k from q) f
theorem ItK.here {t:Bool} {h:Heap} {j a:Addr} {k:Nat} (q:ItK t h j a k):∃ o,h.get? j = some o/\∀ v,o.data ≠ .cell v:=by
 cases t <;> (obtain ⟨o,e,c,d⟩:=q; exact ⟨o,e,fun v z=>by rw [d] at z; cases z⟩)
theorem SqK.at {t:Bool} {h g:Heap} {a:Addr} {xs:Array Value} (q:SqK t h a xs) (f:∀ o,h.get? a = some o->g.get? a = some o):SqK t g a xs:=by
 cases t <;> (obtain ⟨o,e,r⟩:=q; exact ⟨o,f o e,r⟩)
theorem SqK.here {t:Bool} {h:Heap} {a:Addr} {xs:Array Value} (q:SqK t h a xs):∃ o,h.get? a = some o:=by
 cases t <;> (obtain ⟨o,e,r⟩:=q; exact ⟨o,e⟩)
section
variable {prog:Program} {w:World} {A:Around} {E:Value->Shared->Prop} {s:Shared}
theorem zqm {t:Bool} {j a:Addr} {k:Nat} {xs:Array Value} {x:Value} {Q:Value->Shared->Prop} (hj:ItK t s.heap j a k) (ha:SqK t s.heap a xs) (hx:xs[k]? = some x)
  (hQ:∀ g,ItK t g j a (k + 1)->Heap.SameBut j s.heap g->Q x { s with heap:=g }):wpAny (model prog w) A (Builtin.SmallTypes.nextOf (.ref j)) Q E s:=by
 cases t
 ·exact wpAny_nextOf_list_item hj ha hx hQ
 ·exact zg1 hj ha hx hQ
theorem ziu {t:Bool} {j a:Addr} {k:Nat} {xs:Array Value} {Q:Value->Shared->Prop} (hh:A.handled = none) (hj:ItK t s.heap j a k) (ha:SqK t s.heap a xs) (hx:xs[k]? = none)
  (hE:∀ g e,Heap.ExtBut j s.heap g->(∃ o,g.get? e = some o/\o.cls = .type "StopIteration")->E (.ref e) { s with heap:=g }):wpAny (model prog w) A (Builtin.SmallTypes.nextOf (.ref j)) Q E s:=by
 cases t
 ·exact wpAny_nextOf_list_end hh hj ha hx hE
 ·exact zeC hh hj ha hx hE
theorem zrn {t:Bool} {a:Addr} {xs:Array Value} {Q:Value->Shared->Prop} (ha:SqK t s.heap a xs) (hQ:Q (.ref s.heap.objs.size) { s with heap:=s.heap.push { cls:=.type (if t then "tuple_iterator" else "list_iterator"),data:=.fields #[.ref a,.int 0 0] } }):wpAny (model prog w) A (pyIter (.ref a)) Q E s:=by
 cases t
 ·exact wpAny_pyIter_list ha hQ
 ·exact wpAny_pyIter_tuple ha hQ
theorem zly {T:Addr} {c d x:Value} {k:Nat} {Q:Unit->Shared->Prop} (hT:IsPair s.heap T c d) (hQ:∀ g,g.get? T = some { cls:=.type "tuple",data:=.seq ((#[c,d]:Array Value).setIfInBounds k x) }->Heap.SameBut T s.heap g->Q () { s with heap:=g }) :
  wpAny (model prog w) A (updateSeq T (·.setIfInBounds k x)) Q E s:=wpAny_updateSeq_pair hT hQ
structure ZAp (z p r i j a b:Addr):Prop where
 pz:p ≠ z
 rz:r ≠ z
 iz:i ≠ z
 jz:j ≠ z
 pr:p ≠ r
 pi:p ≠ i
 pj:p ≠ j
 ri:r ≠ i
 rj:r ≠ j
 ij:i ≠ j
 az:a ≠ z
 ar:a ≠ r
 ai:a ≠ i
 aj:a ≠ j
 bz:b ≠ z
 br:b ≠ r
 bi:b ≠ i
 bj:b ≠ j
theorem zmj {t u:Bool} {z p r i j a b:Addr} {k m:Nat} {xs ys:Array Value} {x y c d:Value} {Q:Value->Shared->Prop} (D:ZAp z p r i j a b) (hz:IsZip s.heap z p r .none) (hp:IsPair s.heap p (.ref i) (.ref j)) (hr:IsPair s.heap r c d)
  (hi:ItK t s.heap i a k) (hj:ItK u s.heap j b m) (ha:SqK t s.heap a xs) (hb:SqK u s.heap b ys) (hx:xs[k]? = some x) (hy:ys[m]? = some y)
  (hQ:∀ g,IsZip g z p r (rawInt s.heap.objs.size)->IsPair g r x y->ItK t g i a (k + 1)->ItK u g j b (m + 1)->IsPair g s.heap.objs.size x y ->
   (∀ q o,q ≠ z->q ≠ r->q ≠ i->q ≠ j->s.heap.get? q = some o->g.get? q = some o)->Q (.ref s.heap.objs.size) { s with heap:=g }) :
  wpAny (model prog w) A (Builtin.«zip.__next__» ⟨[.ref z],[]⟩) (fun fn s'=>∃ v,fn = .done (.ret v)/\Q v s') E s:=by
 obtain ⟨h0,gs,dr,tk,os⟩:=s
 show wpAny _ _ (field (.ref z) 2 >>= _) _ _ ⟨h0,gs,dr,tk,os⟩
 refine wpAny_bind (wpAny_field hz rfl (x:=.bool false) rfl ?_)
 show wpAny _ _ (field (.ref z) 3 >>= _) _ _ ⟨h0,gs,dr,tk,os⟩
 refine wpAny_bind (wpAny_field hz rfl (x:=.ref p) rfl (wpAny_bind (wpAny_seqItems hp rfl ?_)))
 show wpAny _ _ (Builtin.SmallTypes.ownedTupleIsFree (.ref z) >>= _) _ _ ⟨h0,gs,dr,tk,os⟩
 refine wpAny_bind ?_
 unfold Builtin.SmallTypes.ownedTupleIsFree
 refine wpAny_bind (wpAny_field hz rfl (x:=.none) rfl (wpAny_pure ?_))
 simp only [if_true]
 refine wpAny_bind (wpAny_rule (wpAny_bind (wpAny_field hz rfl (x:=.ref r) rfl (wpAny_bind (wpAny_setField_rec hz (by simp) fun g1 z1 b1=>?_)))))
 replace z1:IsZip g1 z p r .ellipsis:=z1
 replace b1:Heap.SameBut z h0 g1:=b1
 refine wpAny_bind ?_
 simp only [List.zipIdx_cons,List.zipIdx_nil,List.forIn_cons,List.forIn_nil]
 refine wpAny_bind (wpAny_bind (wpAny_onRaise ?_))
 show wpAny _ _ (Builtin.SmallTypes.nextOf (.ref i) >>= _) _ _ ⟨g1,gs,dr,tk,os⟩
 refine wpAny_bind (zqm (s:=⟨g1,gs,dr,tk,os⟩) (hi.at fun o e=>b1.extBut i o D.iz e) (ha.at fun o e=>b1.extBut a o D.az e) hx fun g2 i2 b2=>wpAny_pure ?_)
 replace b2:Heap.SameBut i g1 g2:=b2
 have r2:IsPair g2 r c d:=b2.extBut r _ D.ri (b1.extBut r _ D.rz hr)
 refine wpAny_bind (wpAny_seqItems (s:=⟨g2,gs,dr,tk,os⟩) r2 rfl (wpAny_bind (zly (s:=⟨g2,gs,dr,tk,os⟩) r2 fun g3 r3 b3=>?_)))
 replace r3:IsPair g3 r x d:=r3
 replace b3:Heap.SameBut r g2 g3:=b3
 refine wpAny_bind (wpAny_letGo (wpAny_pure (wpAny_bind (wpAny_bind (wpAny_onRaise ?_)))))
 show wpAny _ _ (Builtin.SmallTypes.nextOf (.ref j) >>= _) _ _ ⟨g3,gs,dr,tk,os⟩
 have k13:∀ q o,q ≠ z->q ≠ r->q ≠ i->h0.get? q = some o->g3.get? q = some o:=fun q o n1 n2 n3 e=>b3.extBut q o n2 (b2.extBut q o n3 (b1.extBut q o n1 e))
 refine wpAny_bind (zqm (s:=⟨g3,gs,dr,tk,os⟩) (hj.at fun o e=>k13 j o D.jz (Ne.symm D.rj) (Ne.symm D.ij) e) (hb.at fun o e=>k13 b o D.bz D.br D.bi e) hy fun g4 j4 b4=>wpAny_pure ?_)
 replace b4:Heap.SameBut j g3 g4:=b4
 have r4:IsPair g4 r x d:=b4.extBut r _ D.rj r3
 refine wpAny_bind (wpAny_seqItems (s:=⟨g4,gs,dr,tk,os⟩) r4 rfl (wpAny_bind (zly (s:=⟨g4,gs,dr,tk,os⟩) r4 fun g5 r5 b5=>?_)))
 replace r5:IsPair g5 r x y:=r5
 replace b5:Heap.SameBut r g4 g5:=b5
 refine wpAny_bind (wpAny_letGo (wpAny_pure (wpAny_pure (wpAny_bind (wpAny_seqItems (s:=⟨g5,gs,dr,tk,os⟩) r5 rfl (wpAny_bind (wpAny_newTuple ?_)))))))
 have sz:g5.objs.size = h0.objs.size:=by rw [b5.1,b4.1,b3.1,b2.1,b1.1]
 have z5:IsZip g5 z p r .ellipsis:=b5.extBut z _ (Ne.symm D.rz) (b4.extBut z _ (Ne.symm D.jz) (b3.extBut z _ (Ne.symm D.rz) (b2.extBut z _ (Ne.symm D.iz) z1)))
 have k5:∀ q o,q ≠ z->q ≠ r->q ≠ i->q ≠ j->h0.get? q = some o->g5.get? q = some o:=fun q o n1 n2 n3 n4 e=>b5.extBut q o n2 (b4.extBut q o n4 (k13 q o n1 n2 n3 e))
 have i5:ItK t g5 i a (k + 1):=ItK.at i2 fun o e=>b5.extBut i o (Ne.symm D.ri) (b4.extBut i o D.ij (b3.extBut i o (Ne.symm D.ri) e))
 have j5:ItK u g5 j b (m + 1):=ItK.at j4 fun o e=>b5.extBut j o (Ne.symm D.rj) e
 have zl:z < g5.objs.size:=Heap.lt_size z5
 show wpAny _ _ (Builtin.SmallTypes.ownedTupleHandOut (.ref z) (.ref g5.objs.size) >>= _) _ _ _
 refine wpAny_bind ?_
 unfold Builtin.SmallTypes.ownedTupleHandOut
 have z6:IsZip (g5.push { cls:=.type "tuple",data:=.seq #[x,y] }) z p r .ellipsis:=Heap.get?_push_of_some _ z5
 refine wpAny_bind (wpAny_setField_rec z6 (by simp) fun g7 z7 b7=>?_)
 replace z7:IsZip g7 z p r (rawInt g5.objs.size):=z7
 replace b7:Heap.SameBut z (g5.push { cls:=.type "tuple",data:=.seq #[x,y] }) g7:=b7
 refine wpAny_setField_rec z7 (by simp) fun g8 z8 b8=>?_
 replace z8:IsZip g8 z p r (rawInt g5.objs.size):=z8
 replace b8:Heap.SameBut z g7 g8:=b8
 have up:∀ q o,q ≠ z->g5.get? q = some o->g8.get? q = some o:=fun q o n e=>b8.extBut q o n (b7.extBut q o n (Heap.get?_push_of_some _ e))
 have t8:IsPair g8 g5.objs.size x y:=b8.extBut _ _ (Nat.ne_of_gt zl) (b7.extBut _ _ (Nat.ne_of_gt zl) (Heap.get?_push_size _ rfl))
 rw [sz] at z8 t8
 refine wpAny_pure ⟨_,rfl,?_⟩
 show Q (.ref g5.objs.size) _
 rw [sz]
 exact hQ g8 z8 (up r _ D.rz r5) (i5.at fun o e=>up i o D.iz e) (j5.at fun o e=>up j o D.jz e) t8 fun q o n1 n2 n3 n4 e=>up q o n1 (k5 q o n1 n2 n3 n4 e)
theorem zlR {t u:Bool} {z p r i j a b:Addr} {k m:Nat} {xs ys:Array Value} {c d:Value} {Q:Fin->Shared->Prop} (hh:A.handled = none) (D:ZAp z p r i j a b) (hz:IsZip s.heap z p r .none) (hp:IsPair s.heap p (.ref i) (.ref j)) (hr:IsPair s.heap r c d)
  (hi:ItK t s.heap i a k) (hj:ItK u s.heap j b m) (ha:SqK t s.heap a xs) (hb:SqK u s.heap b ys) (hend:xs[k]? = none\/ys[m]? = none)
  (hE:∀ g e,(∀ q o,q ≠ z->q ≠ r->q ≠ i->q ≠ j->s.heap.get? q = some o->g.get? q = some o)->(∃ o,g.get? e = some o/\o.cls = .type "StopIteration")->E (.ref e) { s with heap:=g }) :
  wpAny (model prog w) A (Builtin.«zip.__next__» ⟨[.ref z],[]⟩) Q E s:=by
 obtain ⟨h0,gs,dr,tk,os⟩:=s
 show wpAny _ _ (field (.ref z) 2 >>= _) _ _ ⟨h0,gs,dr,tk,os⟩
 refine wpAny_bind (wpAny_field hz rfl (x:=.bool false) rfl ?_)
 show wpAny _ _ (field (.ref z) 3 >>= _) _ _ ⟨h0,gs,dr,tk,os⟩
 refine wpAny_bind (wpAny_field hz rfl (x:=.ref p) rfl (wpAny_bind (wpAny_seqItems hp rfl ?_)))
 show wpAny _ _ (Builtin.SmallTypes.ownedTupleIsFree (.ref z) >>= _) _ _ ⟨h0,gs,dr,tk,os⟩
 refine wpAny_bind ?_
 unfold Builtin.SmallTypes.ownedTupleIsFree
 refine wpAny_bind (wpAny_field hz rfl (x:=.none) rfl (wpAny_pure ?_))
 simp only [if_true]
 refine wpAny_bind (wpAny_rule (wpAny_bind (wpAny_field hz rfl (x:=.ref r) rfl (wpAny_bind (wpAny_setField_rec hz (by simp) fun g1 z1 b1=>?_)))))
 replace z1:IsZip g1 z p r .ellipsis:=z1
 replace b1:Heap.SameBut z h0 g1:=b1
 refine wpAny_bind ?_
 simp only [List.zipIdx_cons,List.zipIdx_nil,List.forIn_cons,List.forIn_nil]
 refine wpAny_bind (wpAny_bind (wpAny_onRaise ?_))
 show wpAny _ _ (Builtin.SmallTypes.nextOf (.ref i) >>= _) _ _ ⟨g1,gs,dr,tk,os⟩
 have notz:∀ {g:Heap} {e:Addr} {o:Obj},IsZip g z p r .ellipsis->g.get? e = some o->o.cls = .type "StopIteration"->e ≠ z:=fun h1 h2 h3 w=>by
  subst w
  rw [h1] at h2
  cases h2
  simp at h3
 cases hx:xs[k]? with
 | none =>
  refine wpAny_bind (ziu (s:=⟨g1,gs,dr,tk,os⟩) hh (hi.at fun o e=>b1.extBut i o D.iz e) (ha.at fun o e=>b1.extBut a o D.az e) hx fun g2 e b2 he=>?_)
  obtain ⟨oe,e1,e2⟩:=he
  have z2:IsZip g2 z p r .ellipsis:=b2 z _ (Ne.symm D.iz) z1
  exact wpAny_setField_rec z2 (by simp) fun g3 _ b3=>hE g3 e (fun q o n1 _ n3 _ w=>b3.extBut q o n1 (b2 q o n3 (b1.extBut q o n1 w))) ⟨oe,b3.extBut e oe (notz z2 e1 e2) e1,e2⟩
 | some x =>
  have hy:ys[m]? = none:=hend.elim (fun w=>by rw [hx] at w; cases w) id
  refine wpAny_bind (zqm (s:=⟨g1,gs,dr,tk,os⟩) (hi.at fun o e=>b1.extBut i o D.iz e) (ha.at fun o e=>b1.extBut a o D.az e) hx fun g2 i2 b2=>wpAny_pure ?_)
  replace b2:Heap.SameBut i g1 g2:=b2
  have r2:IsPair g2 r c d:=b2.extBut r _ D.ri (b1.extBut r _ D.rz hr)
  refine wpAny_bind (wpAny_seqItems (s:=⟨g2,gs,dr,tk,os⟩) r2 rfl (wpAny_bind (zly (s:=⟨g2,gs,dr,tk,os⟩) r2 fun g3 r3 b3=>?_)))
  replace b3:Heap.SameBut r g2 g3:=b3
  refine wpAny_bind (wpAny_letGo (wpAny_pure (wpAny_bind (wpAny_bind (wpAny_onRaise ?_)))))
  show wpAny _ _ (Builtin.SmallTypes.nextOf (.ref j) >>= _) _ _ ⟨g3,gs,dr,tk,os⟩
  have k13:∀ q o,q ≠ z->q ≠ r->q ≠ i->h0.get? q = some o->g3.get? q = some o:=fun q o n1 n2 n3 e=>b3.extBut q o n2 (b2.extBut q o n3 (b1.extBut q o n1 e))
  refine wpAny_bind (ziu (s:=⟨g3,gs,dr,tk,os⟩) hh (hj.at fun o e=>k13 j o D.jz (Ne.symm D.rj) (Ne.symm D.ij) e) (hb.at fun o e=>k13 b o D.bz D.br D.bi e) hy fun g4 e b4 he=>?_)
  obtain ⟨oe,e1,e2⟩:=he
  have z4:IsZip g4 z p r .ellipsis:=b4 z _ (Ne.symm D.jz) (b3.extBut z _ (Ne.symm D.rz) (b2.extBut z _ (Ne.symm D.iz) z1))
  exact wpAny_setField_rec z4 (by simp) fun g5 _ b5=>hE g5 e (fun q o n1 n2 n3 n4 w=>b5.extBut q o n1 (b4 q o n4 (k13 q o n1 n2 n3 w))) ⟨oe,b5.extBut e oe (notz z4 e1 e2) e1,e2⟩
abbrev zpA (t:Bool) (h:Heap) (a:Addr):Heap:=h.push { cls:=.type (if t then "tuple_iterator" else "list_iterator"),data:=.fields #[.ref a,.int 0 0] }
abbrev zpB (t u:Bool) (h:Heap) (a b:Addr):Heap:=(zpA t h a).push { cls:=.type (if u then "tuple_iterator" else "list_iterator"),data:=.fields #[.ref b,.int 0 0] }
abbrev zpC (t u:Bool) (h:Heap) (a b:Addr):Heap:=(zpB t u h a b).push { cls:=.type "tuple",data:=.seq #[.ref h.objs.size,.ref (zpA t h a).objs.size] }
abbrev zpD (t u:Bool) (h:Heap) (a b:Addr):Heap:=(zpC t u h a b).push { cls:=.type "tuple",data:=.seq #[.none,.none] }
abbrev zpE (t u:Bool) (h:Heap) (a b:Addr):Heap:=(zpD t u h a b).push { cls:=.type "zip",data:=.fields #[.none,.bool false,.bool false,.ref (zpB t u h a b).objs.size,.ref (zpC t u h a b).objs.size] }
theorem zpv (t u:Bool) (a b:Addr) (xs ys:Array Value):Meets (Builtin.«zip.__new__» ⟨[.type "zip",.ref a,.ref b],[]⟩) (fun _ R s=>SqK t s.heap a xs/\SqK u s.heap b ys /\
   ∀ g,IsZip g (s.heap.objs.size + 4) (s.heap.objs.size + 2) (s.heap.objs.size + 3) .none->IsPair g (s.heap.objs.size + 2) (.ref s.heap.objs.size) (.ref (s.heap.objs.size + 1))->IsPair g (s.heap.objs.size + 3) .none .none ->
    ItK t g s.heap.objs.size a 0->ItK u g (s.heap.objs.size + 1) b 0->(∀ q o,s.heap.get? q = some o->g.get? q = some o)->R (.ok (.ret (.ref (s.heap.objs.size + 4)))) { s with heap:=g }) :=
 .of_wp fun prog w A R s hyp=>by
  obtain ⟨g0,gs,dr,tk,os⟩:=s
  obtain ⟨ha,hb,hyp⟩:=hyp
  have sub:=sub_zip
  have hA:SqK t (Shared.heap ⟨g0,gs,dr,tk,os⟩) a xs:=ha
  have hB:SqK u (Shared.heap ⟨g0.push { cls:=.type (if t then "tuple_iterator" else "list_iterator"),data:=.fields #[.ref a,.int 0 0] },gs,dr,tk,os⟩) b ys:=SqK.at hb fun o e=>Heap.get?_push_of_some _ e
  wp_walk using zrn hA,zrn hB
  refine ⟨_,rfl,?_⟩
  have z1:(zpA t g0 a).objs.size = g0.objs.size + 1:=Heap.size_push ..
  have z2:(zpB t u g0 a b).objs.size = g0.objs.size + 2:=by rw [Heap.size_push,z1]
  have z3:(zpC t u g0 a b).objs.size = g0.objs.size + 3:=by rw [Heap.size_push,z2]
  have z4:(zpD t u g0 a b).objs.size = g0.objs.size + 4:=by rw [Heap.size_push,z3]
  have f1:=Heap.get?_push_size g0 (o:={ cls:=.type (if t then "tuple_iterator" else "list_iterator"),data:=.fields #[.ref a,.int 0 0] }) (by cases t <;> rfl)
  have f2:=Heap.get?_push_size (zpA t g0 a) (o:={ cls:=.type (if u then "tuple_iterator" else "list_iterator"),data:=.fields #[.ref b,.int 0 0] }) (by cases u <;> rfl)
  have f3:=Heap.get?_push_size (zpB t u g0 a b) (o:={ cls:=.type "tuple",data:=.seq #[.ref g0.objs.size,.ref (zpA t g0 a).objs.size] }) rfl
  have f4:=Heap.get?_push_size (zpC t u g0 a b) (o:={ cls:=.type "tuple",data:=.seq #[.none,.none] }) rfl
  have f5:=Heap.get?_push_size (zpD t u g0 a b) (o:={ cls:=.type "zip",data:=.fields #[.none,.bool false,.bool false,.ref (zpB t u g0 a b).objs.size,.ref (zpC t u g0 a b).objs.size] }) rfl
  have c1:∀ q o,g0.get? q = some o->(zpA t g0 a).get? q = some o:=fun q o e=>Heap.get?_push_of_some _ e
  have c2:∀ q o,(zpA t g0 a).get? q = some o->(zpB t u g0 a b).get? q = some o:=fun q o e=>Heap.get?_push_of_some _ e
  have c3:∀ q o,(zpB t u g0 a b).get? q = some o->(zpC t u g0 a b).get? q = some o:=fun q o e=>Heap.get?_push_of_some _ e
  have c4:∀ q o,(zpC t u g0 a b).get? q = some o->(zpD t u g0 a b).get? q = some o:=fun q o e=>Heap.get?_push_of_some _ e
  have c5:∀ q o,(zpD t u g0 a b).get? q = some o->(zpE t u g0 a b).get? q = some o:=fun q o e=>Heap.get?_push_of_some _ e
  have y1:=c5 _ _ (c4 _ _ (c3 _ _ (c2 _ _ f1)))
  have y2:=c5 _ _ (c4 _ _ (c3 _ _ f2))
  have y3:=c5 _ _ (c4 _ _ f3)
  have y4:=c5 _ _ f4
  have y5:(zpE t u g0 a b).get? (zpD t u g0 a b).objs.size = some { cls:=.type "zip",data:=.fields #[.none,.bool false,.bool false,.ref (zpB t u g0 a b).objs.size,.ref (zpC t u g0 a b).objs.size] }:=f5
  have fin:R (.ok (.ret (.ref (zpD t u g0 a b).objs.size))) ⟨zpE t u g0 a b,gs,dr,tk,os⟩:=by
   rw [z4,z2,z3] at y5
   rw [z2,z1] at y3
   rw [z3] at y4
   rw [z1] at y2
   rw [z4]
   refine hyp _ y5 y3 y4 ?_ ?_ fun q o e=>c5 q o (c4 q o (c3 q o (c2 q o (c1 q o e))))
   ·cases t <;> exact ⟨_,y1,rfl,rfl⟩
   ·cases u <;> exact ⟨_,y2,rfl,rfl⟩
  exact fin
theorem zk6 {t u:Bool} {a b:Addr} {xs ys:Array Value} {Q:Value->Shared->Prop} (ha:SqK t s.heap a xs) (hb:SqK u s.heap b ys)
  (hyp:∀ g,IsZip g (s.heap.objs.size + 4) (s.heap.objs.size + 2) (s.heap.objs.size + 3) .none->IsPair g (s.heap.objs.size + 2) (.ref s.heap.objs.size) (.ref (s.heap.objs.size + 1))->IsPair g (s.heap.objs.size + 3) .none .none ->
    ItK t g s.heap.objs.size a 0->ItK u g (s.heap.objs.size + 1) b 0->(∀ q o,s.heap.get? q = some o->g.get? q = some o)->Q (.ref (s.heap.objs.size + 4)) { s with heap:=g }):wpAny (model prog w) A (call (.type "zip") [.ref a,.ref b]) Q E s:=by
 refine callType_new F.called_zip (by decide) (F.typeCall_zip_2 _ _) (F.newCall_zip_2 _ _) (fun ob=>F.args_object_init_3 ob _ _) F.entry_zip_new (zpv t u a b xs ys) ⟨ha,hb,fun g h1 h2 h3 h4 h5 h6=>?_⟩
 exact ⟨⟨_,h1,rfl⟩,hyp g h1 h2 h3 h4 h5 h6⟩
end
def Itz (S1 S2:Hp->Addr->List V->Prop) (a b:Addr):It :=
 ⟨fun i H=>∃ xs ys x y,S1 H a xs/\S2 H b ys/\xs[i]? = some x/\ys[i]? = some y,fun i H x H'=>∃ p v u,H p = none/\x = .ref p/\H' = upd H p (.tup [v,u])/\(∀ xs,S1 H a xs->xs[i]? = some v)/\(∀ ys,S2 H b ys->ys[i]? = some u),fun i H=>∃ xs ys,S1 H a xs/\S2 H b ys/\(xs.length <= i\/ys.length <= i)⟩
def SqV (K:W.Frag) (t:Bool) (H:Hp) (a:Addr) (xs:List V):Prop:=match t with
 | true=>SqT K H a xs
 | false=>SqL K H a xs
theorem Inv.seqK {X:Cx} {zm:List (Addr × Obj)} {σ:St} {H:Hp} {s:Shared} {t:Bool} {a:Addr} {xs:List V} (I:Inv X zm σ H s) (h:SqV X.K t H a xs):∃ its:List Value,Vals xs its/\SqK t s.heap a its.toArray/\∀ ys,SqV X.K t H a ys->ys = xs:=by
 cases t
 ·obtain ⟨its,rv,p,_⟩:=I.list h
  exact ⟨its,rv,p.isList,fun ys hy=>I.list_inj hy h⟩
 ·obtain ⟨its,rv,p,_⟩:=I.tuple h
  exact ⟨its,rv,p,fun ys hy=>I.tuple_inj hy h⟩
theorem znQ {P:Program} {w:World} {K:W.Frag} {elts:List Expr} {n:Nat} {pos:Pos} (t u:Bool) (z p r i j a b:Addr) (D:ZAp z p r i j a b):Turn P w K (.Tuple elts n pos) (Itz (SqV K t) (SqV K u) a b) [z,p,r,i,j] z
  (fun k h=>IsZip h z p r .none/\IsPair h p (.ref i) (.ref j)/\(∃ c d,IsPair h r c d)/\ItK t h i a k/\ItK u h j b k) where
 mem:=by simp
 obj:=fun k h ⟨h1,h2,⟨c,d,h3⟩,h4,h5⟩ q hq=>by
  simp only [List.mem_cons,List.not_mem_nil,or_false] at hq
  rcases hq with rfl | rfl | rfl | rfl | rfl
  ·exact ⟨_,h1,fun v e=>by cases (show Data.fields _ = Data.cell v from e)⟩
  ·exact ⟨_,h2,fun v e=>by cases (show Data.seq _ _ = Data.cell v from e)⟩
  ·exact ⟨_,h3,fun v e=>by cases (show Data.seq _ _ = Data.cell v from e)⟩
  ·exact h4.here
  ·exact h5.here
 keep:=fun k h h' ⟨h1,h2,⟨c,d,h3⟩,h4,h5⟩ f=>⟨f z (by simp) _ h1,f p (by simp) _ h2,⟨c,d,f r (by simp) _ h3⟩,h4.at fun o e=>f i (by simp) o e,h5.at fun o e=>f j (by simp) o e⟩
 item:=by
  intro X hP hw hK hc k zm s σ H E I hf st hg
  subst hP hw hK
  obtain ⟨xs,ys,x,y,q1,q2,ex,ey⟩:=hg
  obtain ⟨its,rv,sq,inj⟩:=I.seqK q1
  obtain ⟨its2,rv2,sq2,inj2⟩:=I.seqK q2
  obtain ⟨v1,e1,r1⟩:=rv.get ex
  obtain ⟨v2,e2,r2⟩:=rv2.get ey
  obtain ⟨h1,h2,⟨c,d,h3⟩,h4,h5⟩:=st
  have ty:s.TypeIs (.ref z) "zip":=⟨_,h1,rfl⟩
  unfold pyNext
  refine wpAny_bind (wpAny_attempt (wpAny_callSpecial?_slot (name:=Str.ofString "__next__") ty F.slot_zip_next (wpAny_call_entry F.slot_zip_next ty F.entry_zip_next
   (zmj D h1 h2 h3 h4 h5 sq sq2 (by simpa using e1) (by simpa using e2) fun g a1 a2 a3 a4 a5 kk=>wpAny_pure ⟨_,rfl,?_⟩) (F.args_zip_next_1 _))))
  refine wpAny_letOwnedTupleGo_zip (s:={ s with heap:=g }) a1 fun g' z' b'=>?_
  have lt:∀ {q o},s.heap.get? q = some o->s.heap.objs.size ≠ q:=fun e=>Nat.ne_of_gt (Heap.lt_size e)
  have b'':Heap.SameBut z g g':=b'
  have pT:IsPair g' s.heap.objs.size v1 v2:=b''.extBut _ _ (lt h1) a5
  have hn:=I.hok.fresh (Nat.le_refl s.heap.objs.size)
  have kk':∀ q o,q ∉ [z,r,i,j]->s.heap.get? q = some o->g'.get? q = some o:=fun q o hq e=>by
   simp only [List.mem_cons,List.not_mem_nil,or_false,not_or] at hq
   exact b''.extBut q o hq.1 (kk q o hq.1 hq.2.1 hq.2.2.1 hq.2.2.2 e)
  have I1:Inv X zm σ (upd H s.heap.objs.size (.tup [x,y])) { s with heap:=g' }:=I.turnLaid (t':=s.toks) (ch:=[z,r,i,j]) kk' (fun q hq=>hf q (by
   simp only [List.mem_cons,List.not_mem_nil,or_false] at hq ⊢
   rcases hq with h | h | h | h
   ·exact .inl h
   ·exact .inr (.inr (.inl h))
   ·exact .inr (.inr (.inr (.inl h)))
   ·exact .inr (.inr (.inr (.inr h))))) (Nat.le_refl _) ⟨⟨by show 2 <= sizeLine; decide,_,pT,rfl⟩,[v1,v2],.cons r1 (.cons r2 .nil),⟨_,pT,rfl,_,rfl⟩⟩
  have fresh:∀ q,q ∈ [z,p,r,i,j]->q ≠ s.heap.objs.size:=fun q hq w=>by
   simp only [List.mem_cons,List.not_mem_nil,or_false] at hq
   obtain ⟨o1,w1,_⟩:=h4.here
   obtain ⟨o2,w2,_⟩:=h5.here
   rcases hq with h | h | h | h | h
   ·exact lt h1 (w.symm.trans h)
   ·exact lt h2 (w.symm.trans h)
   ·exact lt h3 (w.symm.trans h)
   ·exact lt w1 (w.symm.trans h)
   ·exact lt w2 (w.symm.trans h)
  refine ⟨.ref s.heap.objs.size,_,I1,rfl,⟨_,x,y,hn,rfl,rfl,fun zs hz=>by rw [inj zs hz]; exact ex,fun zs hz=>by rw [inj2 zs hz]; exact ey⟩,⟨z',kk' p _ (by simp [D.pz,D.pr,D.pi,D.pj]) h2,⟨_,_,b''.extBut r _ D.rz a2⟩,a3.at fun o e=>b''.extBut i o D.iz e,a4.at fun o e=>b''.extBut j o D.jz e⟩,fun q hq=>?_⟩
  rw [zS (fresh q hq)]
  exact (hf q hq).1
 done:=by
  intro X hP hw hK hc k zm s σ H E I hf st hg
  subst hP hw hK
  obtain ⟨xs,ys,q1,q2,hl⟩:=hg
  obtain ⟨its,rv,sq,inj⟩:=I.seqK q1
  obtain ⟨its2,rv2,sq2,inj2⟩:=I.seqK q2
  obtain ⟨h1,h2,⟨c,d,h3⟩,h4,h5⟩:=st
  have l1:=rv.length
  have l2:=rv2.length
  have ty:s.TypeIs (.ref z) "zip":=⟨_,h1,rfl⟩
  unfold pyNext
  refine wpAny_bind (wpAny_attempt (wpAny_callSpecial?_slot (name:=Str.ofString "__next__") ty F.slot_zip_next (wpAny_call_entry F.slot_zip_next ty F.entry_zip_next
   (zlR (I.ok.hd hc) D h1 h2 h3 h4 h5 sq sq2 (hl.elim (fun h=>.inl (by simp; omega)) fun h=>.inr (by simp; omega)) fun g e kk he=>?_) (F.args_zip_next_1 _))))
  obtain ⟨o,ho,hc'⟩:=he
  refine wpAny_bind (wpAny_isInstance (T:="StopIteration") (b:=true) ⟨o,ho,hc'⟩ isSubtype_stop (wpAny_pure ⟨rfl,?_⟩))
  refine I.turnedN (t':=s.toks) (ch:=[z,r,i,j]) (fun q o hq e=>?_) fun q hq=>hf q (by
   simp only [List.mem_cons,List.not_mem_nil,or_false] at hq ⊢
   rcases hq with h | h | h | h
   ·exact .inl h
   ·exact .inr (.inr (.inl h))
   ·exact .inr (.inr (.inr (.inl h)))
   ·exact .inr (.inr (.inr (.inr h))))
  simp only [List.mem_cons,List.not_mem_nil,or_false,not_or] at hq
  exact kk q o hq.1 hq.2.1 hq.2.2.1 hq.2.2.2 e
 self:=fun _ _ _ _ _ st h=>wpAny_pyIter_zip st.1 h
theorem nne {a b:Nat} (h:a < b\/b < a):(show Addr from a) ≠ (show Addr from b):=fun e=>by
 have e':a = b:=e
 omega
theorem zrZ (N a b:Nat) (ha:a < N) (hb:b < N):ZAp (N + 4) (N + 2) (N + 3) N (N + 1) a b:=by
 constructor <;> exact nne (by omega)
theorem zqk (N q:Nat) (hq:q = N + 4\/q = N + 2\/q = N + 3\/q = N\/q = N + 1):N <= q:=by omega
section
variable {X:Cx} {elts:List Expr} {n:Nat} {tpos:Pos}
theorem znF:bootBuiltins "zip" = some (.type "zip"):=by decide +kernel
def zrp (K:W.Frag) (ta:TA):TI:=fun σ H R=>ta σ H fun vs H1=>∃ a b t u,vs = [.ref a,.ref b]/\(∃ xs,SqV K t H1 a xs)/\(∃ ys,SqV K u H1 b ys)/\R (Itz (SqV K t) (SqV K u) a b) H1
theorem zhr {e1 e2:Expr} {ta:TA} {p pos:Pos} (hg:Gl X "zip") (hm:X.mg "zip" = none) (ha:PA X [e1,e2] ta) (hs:starEach [e1,e2] X.env = [(false,eval e1 X.env),(false,eval e2 X.env)]:=by rfl) (hs2:starEach [e2] X.env = [(false,eval e2 X.env)]:=by rfl) :
  PI X (.Tuple elts n tpos) (.Call (.Name "zip" p) [e1,e2] [] pos) (zrp X.K ta):=by
 intro zm s σ H R I h
 refine Call_ (ze1 I hg hm znF (PyProof.Rows.callWith_type1 (thn (ha pos zm s σ H _ I h) fun us s1 ⟨vs,H1,I1,r1,q1⟩=>?_) (by rw [hs,hs2]) (by rw [hs2]; rfl)))
 obtain ⟨a,b,t,u,e,⟨xs,q1⟩,⟨ys,q2⟩,q⟩:=q1
 subst e
 cases r1 with
 | cons r rr =>
  cases rr with
  | cons r' rr =>
   cases rr
   cases r
   cases r'
   obtain ⟨its,rv,sq,_⟩:=I1.seqK q1
   obtain ⟨its2,rv2,sq2,_⟩:=I1.seqK q2
   refine zk6 sq sq2 fun g h1 h2 h3 h4 h5 k=>?_
   refine wpAny_pyIter_zip (s:={ s1 with heap:=g }) h1 ?_
   have I2:Inv X zm σ H1 { s1 with heap:=g }:=I1.kept (t':=s1.toks) k
   obtain ⟨oa,fa⟩:=sq.here
   obtain ⟨ob,fb⟩:=sq2.here
   have la:=Heap.lt_size fa
   have lb:=Heap.lt_size fb
   have D:ZAp (s1.heap.objs.size + 4) (s1.heap.objs.size + 2) (s1.heap.objs.size + 3) s1.heap.objs.size (s1.heap.objs.size + 1) a b:=zrZ _ _ _ la lb
   refine ⟨_,[s1.heap.objs.size + 4,s1.heap.objs.size + 2,s1.heap.objs.size + 3,s1.heap.objs.size,s1.heap.objs.size + 1],_,_,H1,rfl,I2,znQ t u _ _ _ _ _ a b D,⟨h1,h2,⟨_,_,h3⟩,h4,h5⟩,fun q hq=>?_,q⟩
   have hl:s1.heap.objs.size <= q:=by
    simp only [List.mem_cons,List.not_mem_nil,or_false] at hq
    exact zqk _ _ hq
   exact I1.fpOk hl (I1.hok.fresh hl)
end
def zhP:List PyData->List PyData->List PyData
 | d :: ds,e :: es=>.tuple [d,e] :: zhP ds es
 | _,_=>[]
theorem zhL:∀ (ds es:List PyData) (k:Nat) (x:PyData),(zhP ds es)[k]? = some x->∃ d e,ds[k]? = some d/\es[k]? = some e/\x = .tuple [d,e]
 | [],_,_,_,h=>by simp [zhP] at h
 | _ :: _,[],_,_,h=>by simp [zhP] at h
 | d :: ds,e :: es,0,x,h=>by
  have e':PyData.tuple [d,e] = x:=by simpa [zhP] using h
  exact ⟨d,e,rfl,rfl,e'.symm⟩
 | d :: ds,e :: es,k + 1,x,h=>by
  obtain ⟨d',e',h1,h2,h3⟩:=zhL ds es k x (by simpa [zhP] using h)
  exact ⟨d',e',by simpa using h1,by simpa using h2,h3⟩
theorem zjL:∀ (ds es:List PyData),(zhP ds es).length = min ds.length es.length
 | [],_=>by simp [zhP]
 | _ :: _,[]=>by simp [zhP]
 | d :: ds,e :: es=>by simp [zhP,zjL ds es]; try omega
theorem zeY {α β:Type} (f:α->PyData) (g:β->PyData):∀ (xs:List α) (ys:List β),zhP (xs.map f) (ys.map g) = (xs.zip ys).map fun q=>.tuple [f q.1,g q.2]
 | [],_=>by simp [zhP]
 | _ :: _,[]=>by simp [zhP]
 | x :: xs,y :: ys=>by simp [zhP,zeY f g xs ys]
def zgc (a:DA):DI:=fun δ S R=>a δ S fun xs S1=>arg2 xs fun x y=>∃ ds,zkh x = some ds/\∃ es,zkh y = some es/\R (zhP ds es) S1
theorem zj9 {K:W.Frag} {h o:List Addr} {H:Hp} {x:XV} {v:V} {ds:List PyData} (e:zkh x = some ds) (q:HasX h o H x v):∃ t a ws,v = .ref a/\HasL (vx h o H) ds ws/\∀ {o2 H2},ExH h o H o2 H2->SqV K t H2 a ws:=by
 unfold zkh at e
 split at e
 ·cases e
  obtain ⟨a,ws,rfl,ea,l⟩:=zba.mp (show Has (vx h o H) (.list ds) v from q)
  exact ⟨false,a,ws,rfl,l,fun e2=>(SqL.of (zaE _ _ (e2.vx _ _ ea)):SqL K _ a ws)⟩
 ·cases e
  obtain ⟨a,ws,rfl,ea,l⟩:=zaJ.mp (show Has (vx h o H) (.tuple ds) v from q)
  exact ⟨true,a,ws,rfl,l,fun e2=>(SqT.of (zaE _ _ (e2.vx _ _ ea)):SqT K _ a ws)⟩
 ·cases e
theorem zhj {K:W.Frag} {ta:TA} {da:DA} (ha:RA ta da):RI (zrp K ta) (zgc da):=fun h o H δ σ S R Q he hs q c =>
 ha h o H δ σ S _ _ he hs q fun o1 H1 S1 xs vs e1 s1 x1 d0=>by
  obtain ⟨x,y,rfl,ds,hd,es,hes,d1⟩:=zjt d0
  obtain ⟨v,u,rfl,hv,hu⟩:=hxs2 x1
  obtain ⟨t,a,ws,rfl,l,k1⟩:=zj9 (K:=K) hd hv
  obtain ⟨t',b,zs,rfl,l',k2⟩:=zj9 (K:=K) hes hu
  have hl:=l.length
  have hl':=l'.length
  refine ⟨a,b,t,t',rfl,⟨ws,k1 ExH.refl⟩,⟨zs,k2 ExH.refl⟩,c o1 H1 S1 _ _ e1 s1 ⟨fun i o2 H2 e2 hi=>⟨ws,zs,k1 e2,k2 e2,by rw [zjL] at hi; omega⟩,fun i d o2 H2 e2 hi=>?_,fun i d o2 H2 x H3 S2 e2 s2 hi y=>?_⟩ d1⟩
  ·obtain ⟨d',e',h1,h2,rfl⟩:=zhL ds es i d hi
   obtain ⟨u1,eu1,_⟩:=l.get h1
   obtain ⟨u2,eu2,_⟩:=l'.get h2
   exact ⟨ws,zs,u1,u2,k1 e2,k2 e2,eu1,eu2⟩
  ·obtain ⟨d',e',h1,h2,rfl⟩:=zhL ds es i d hi
   obtain ⟨u1,eu1,hu1⟩:=l.get h1
   obtain ⟨u2,eu2,hu2⟩:=l'.get h2
   obtain ⟨p,v,u,hp,rfl,rfl,y1,y2⟩:=y
   have f1:=y1 ws (k1 e2)
   have f2:=y2 zs (k2 e2)
   rw [eu1] at f1
   rw [eu2] at f2
   cases f1
   cases f2
   exact ⟨Same.laid hp,zaJ.mpr ⟨p,_,rfl,s2.laid hp,zH.mpr ⟨_,_,rfl,(hu1.mono e2.vx).mono (zfj (Same.laid hp)),zH.mpr ⟨_,_,rfl,(hu2.mono e2.vx).mono (zfj (Same.laid hp)),zR.mpr rfl⟩⟩⟩⟩
end
section
open Sem (wp)
section
variable {prog:Program} {w:World} {A:Around} {R:Result->Shared->Prop} {I:Addr} {fp wr:List Addr} {n:Nat} {P:Nat->Value->Prop} {St:Nat->Heap->Prop}
def CmpH (prog:Program) (w:World) (A:Around) (g:Heap) (own:List Addr) (P:Nat->Value->Prop) (bt:Nat->Nat->Bool):Prop :=
 ∀ i j x y (s:Shared) (Q:Value->Shared->Prop) (E:Value->Shared->Prop),(∀ b o,b ∉ own->g.get? b = some o->s.heap.get? b = some o)->P i x->P j y->Q (.bool (bt i j)) s->wpAny (model prog w) A (richCompare .Lt x y) Q E s
theorem zmh (W:Walks prog w A.in1 I fp wr n P St) (bt:Nat->Nat->Bool) {g:Heap} (S:Addr) (cm:CmpH prog w A.in1 g (S :: wr) P bt) (nS:S ∉ fp):∀ (d j:Nat) (s:Shared) (best:Value) (c:Nat),n = j + 1 + d->(∀ b o,b ∉ S :: wr->g.get? b = some o->s.heap.get? b = some o)->St (j + 1) s.heap->P (argBest bt j) best ->
   s.heap.get? S = some { cls:=.type "list",dict:=none,data:=.seq #[best,best] c,slots:=#[] } ->
   (∀ v h' tk,P (argBest bt (n - 1)) v->(∀ b o,b ∉ S :: wr->s.heap.get? b = some o->h'.get? b = some o)->R (.ok (.ret v)) { s with heap:=h',toks:=tk })->codeAny (model prog w) A (.builtin "min.loop" ⟨[.ref I,.none,.ref S],[]⟩) R s:=by
 have nw:S ∉ wr:=fun m=>nS (W.sub _ m)
 have nm:(toString "min" ++ toString ".loop":String) = "min.loop":=by decide
 intro d
 induction d with
 | zero =>
  intro j s best c hd kg st hb hS fin
  have hj:j + 1 = n:=by omega
  refine codeAny_builtin F.entry_min_loop ?_
  rw [Around.under_plainId F.plain_min_loop _]
  show wpAny _ A.in1 (seqItems? (.ref S) >>= _) _ _ s
  refine wpAny_bind (wpAny_seqItems hS rfl ?_)
  show wpAny _ A.in1 (tryCatch (pyNext (.ref I)) _ >>= _) _ _ s
  refine wpAny_bind (wpAny_tryCatch (W.done s _ _ (by rw [<- hj]; exact st) fun h1 t1 k1=>?_))
  have hS1:=k1 S _ nw hS
  show wpAny _ A.in1 (updateSeq S (fun _=>#[]) >>= _) _ _ _
  refine wpAny_bind (wpAny_updateSeq hS1 rfl (wpAny_bind (wpAny_letGo (wpAny_pure (fin best _ t1 (by rw [<- hj]; exact hb) fun b o hn e=>?_)))))
  rw [List.mem_cons,not_or] at hn
  exact (Heap.get?_update_other _ _ (Ne.symm hn.1)).trans (k1 b o hn.2 e)
 | succ d ih =>
  intro j s best c hd kg st hb hS fin
  refine codeAny_builtin F.entry_min_loop ?_
  rw [Around.under_plainId F.plain_min_loop _]
  show wpAny _ A.in1 (seqItems? (.ref S) >>= _) _ _ s
  refine wpAny_bind (wpAny_seqItems hS rfl ?_)
  show wpAny _ A.in1 (tryCatch (pyNext (.ref I)) _ >>= _) _ _ s
  refine wpAny_bind (wpAny_tryCatch (W.item (j + 1) s _ _ (by omega) st fun x h1 t1 hx st1 k1=>?_))
  have hS1:=k1 S _ nw hS
  have kg1:∀ b o,b ∉ S :: wr->g.get? b = some o->h1.get? b = some o:=fun b o hn e=>k1 b o (fun m=>hn (List.mem_cons_of_mem _ m)) (kg b o hn e)
  show wpAny _ A.in1 (tryCatch (holding [x,x] (richCompare .Lt x best >>= _)) _ >>= _) _ _ _
  refine wpAny_bind (wpAny_tryCatch (wpAny_holding (wpAny_bind (cm (j + 1) (argBest bt j) x best _ _ _ kg1 hx hb (wpAny_bind (wpAny_holding (wpAny_truthy_bool (wpAny_bind (wpAny_letGo (wpAny_pure ?_)))))))))) 
  cases ht:bt (j + 1) (argBest bt j) with
  | true =>
   simp only [if_true]
   refine wpAny_bind (wpAny_updateSeq hS1 rfl (wpAny_bind (wpAny_letGo ?_)))
   rw [nm]
   have keep:∀ b o,b ∉ S :: wr->s.heap.get? b = some o->(h1.update S (Obj.mapSeq fun _=>#[x,x])).get? b = some o:=fun b o hn e=>by
    rw [List.mem_cons,not_or] at hn
    exact (Heap.get?_update_other _ _ (Ne.symm hn.1)).trans (k1 b o hn.2 e)
   refine wpAny_pure ⟨plainId_quiet F.plain_min_loop _,ih (j + 1) _ x _ (by omega) (fun b o hn e=>keep b o hn (kg b o hn e)) (W.frame _ _ _ st1 fun b m o e=>?_) (by simp only [argBest,ht,if_true]; exact hx) (Heap.get?_update_self _ hS1 rfl) fun v h2 t2 hv k2=>fin v h2 t2 hv fun b o hn e=>k2 b o hn (keep b o hn e)⟩
   exact (Heap.get?_update_other _ _ (fun z:S = b=>nS (by rw [z]; exact m))).trans e
  | false =>
   simp only [Bool.false_eq_true,if_false]
   refine wpAny_bind (wpAny_letGo ?_)
   rw [nm]
   exact wpAny_pure ⟨plainId_quiet F.plain_min_loop _,ih (j + 1) _ best c (by omega) kg1 st1 (by simp only [argBest,ht,Bool.false_eq_true,if_false]; exact hb) hS1 fun v h2 t2 hv k2=>fin v h2 t2 hv fun b o hn e=>k2 b o hn (k1 b o (fun m=>hn (List.mem_cons_of_mem _ m)) e)⟩
theorem zkT (W:Walks prog w A.in1 I fp wr n P St) (bt:Nat->Nat->Bool) (S:Addr) (nS:S ∉ fp) (hn:0 < n) {s:Shared} {c:Nat} (cm:CmpH prog w A.in1 s.heap (S :: wr) P bt) (st:St 0 s.heap) (hS:s.heap.get? S = some { cls:=.type "list",dict:=none,data:=.seq #[] c,slots:=#[] })
  (fin:∀ v h' tk,P (argBest bt (n - 1)) v->(∀ b o,b ∉ S :: wr->s.heap.get? b = some o->h'.get? b = some o)->R (.ok (.ret v)) { s with heap:=h',toks:=tk }):codeAny (model prog w) A (.builtin "min.loop" ⟨[.ref I,.none,.ref S],[]⟩) R s:=by
 have nw:S ∉ wr:=fun m=>nS (W.sub _ m)
 have nm:(toString "min" ++ toString ".loop":String) = "min.loop":=by decide
 refine codeAny_builtin F.entry_min_loop ?_
 rw [Around.under_plainId F.plain_min_loop _]
 show wpAny _ A.in1 (seqItems? (.ref S) >>= _) _ _ s
 refine wpAny_bind (wpAny_seqItems hS rfl ?_)
 show wpAny _ A.in1 (tryCatch (pyNext (.ref I)) _ >>= _) _ _ s
 refine wpAny_bind (wpAny_tryCatch (W.item 0 s _ _ hn st fun x h1 t1 hx st1 k1=>?_))
 have hS1:=k1 S _ nw hS
 show wpAny _ A.in1 (updateSeq S (fun _=>#[x,x]) >>= _) _ _ _
 refine wpAny_bind (wpAny_updateSeq hS1 rfl ?_)
 rw [nm]
 have keep:∀ b o,b ∉ S :: wr->s.heap.get? b = some o->(h1.update S (Obj.mapSeq fun _=>#[x,x])).get? b = some o:=fun b o hn e=>by
  rw [List.mem_cons,not_or] at hn
  exact (Heap.get?_update_other _ _ (Ne.symm hn.1)).trans (k1 b o hn.2 e)
 refine wpAny_pure ⟨plainId_quiet F.plain_min_loop _,zmh W bt S cm nS (n - 1) 0 _ x _ (by omega) keep (W.frame _ _ _ st1 fun b m o e=>?_) hx (Heap.get?_update_self _ hS1 rfl) fun v h2 t2 hv k2=>fin v h2 t2 hv fun b o hn e=>k2 b o hn (keep b o hn e)⟩
 exact (Heap.get?_update_other _ _ (fun z:S = b=>nS (by rw [z]; exact m))).trans e
end
section
variable {prog:Program} {w:World} {A:Around} {E:Value->Shared->Prop} {s:Shared}
theorem zlz {l:Addr} {its:Array Value} {Q:Value->Shared->Prop} (hh:A.handled = none) (hl:s.heap.IsList l its) (hne:0 < its.size) (bt:Nat->Nat->Bool)
  (cm:∀ i j x y (s':Shared) (Q:Value->Shared->Prop) (E:Value->Shared->Prop),(∀ b o,s.heap.get? b = some o->s'.heap.get? b = some o)->its[i]? = some x->its[j]? = some y->Q (.bool (bt i j)) s'->wpAny (model prog w) A.in1 (richCompare .Lt x y) Q E s')
  (fin:∀ v h' tk,its[argBest bt (its.size - 1)]? = some v->(∀ b o,s.heap.get? b = some o->h'.get? b = some o)->Q v { s with heap:=h',toks:=tk }):wpAny (model prog w) A (call (.builtin "min") [.ref l]) Q E s:=by
 have nm:(toString "min" ++ toString ".loop":String) = "min.loop":=by decide
 have lt:l < s.heap.objs.size:=by obtain ⟨o,e,_⟩:=hl; exact Heap.lt_size e
 refine call_function_tree F.kind_min F.plain_min F.entry_min (F.args_min1 _) ?_
 show wpAny _ A.in1 (Builtin.Builtins.bindParams "min" ["key","default"] 0 ⟨[],[]⟩ >>= _) _ _ s
 refine wpAny_bind (wpAny_of_eq (show Builtin.Builtins.bindParams "min" ["key","default"] 0 ⟨[],[]⟩ = pure [none,none] from rfl) (wpAny_bind (wpAny_pure (wpAny_bind (wpAny_pyIter_list hl ?_)))))
 refine wpAny_bind (wpAny_newObj_type ?_)
 rw [nm]
 have z1:(s.heap.push { cls:=.type "list_iterator",data:=.fields #[.ref l,.int 0 0] }).objs.size = s.heap.objs.size + 1:=Heap.size_push ..
 have nS:(s.heap.push { cls:=.type "list_iterator",data:=.fields #[.ref l,.int 0 0] }).objs.size ∉ [s.heap.objs.size,l]:=by
  rw [z1]
  simp only [List.mem_cons,List.not_mem_nil,or_false,not_or]
  exact ⟨Nat.succ_ne_self _,Nat.ne_of_gt (Nat.lt_succ_of_lt lt)⟩
 have up:∀ b o,s.heap.get? b = some o->((s.heap.push { cls:=.type "list_iterator",data:=.fields #[.ref l,.int 0 0] }).push { cls:=.type "list",data:=.seq #[] }).get? b = some o:=fun b o e=>Heap.get?_push_of_some _ (Heap.get?_push_of_some _ e)
 have old:∀ b o,s.heap.get? b = some o->b ∉ (s.heap.push { cls:=.type "list_iterator",data:=.fields #[.ref l,.int 0 0] }).objs.size :: [s.heap.objs.size]:=fun b o e=>by
  rw [z1]
  simp only [List.mem_cons,List.not_mem_nil,or_false,not_or]
  have:=Heap.lt_size e
  exact ⟨Nat.ne_of_lt (Nat.lt_succ_of_lt this),Nat.ne_of_lt this⟩
 refine wpAny_pure ⟨plainId_quiet F.plain_min_loop _,zkT (Walks.list (A:=A.in1) hh _ l (Nat.ne_of_lt lt) its) bt _ nS hne (fun i j x y s' Q' E' k hi hj q=>cm i j x y s' Q' E' (fun b o e=>k b o (old b o e) (up b o e)) hi hj q) ?_ (Heap.get?_push_size _ rfl) fun v h' tk hv k=>fin v h' tk hv fun b o e=>k b o (old b o e) (up b o e)⟩
 exact ⟨⟨_,Heap.get?_push_of_some _ (Heap.get?_push_size _ rfl),rfl,rfl⟩,(hl.push _).push _⟩
end
def zr0 (K:W.Frag):List V->Hp->VK->Prop:=fun xs H Q=>∃ (p:Addr) (vs:List V) (nss:List (List Int)),xs = [.ref p]/\SqL K H p vs/\vs ≠ []/\Paired (fun (v:V) (ns:List Int)=>∃ a,v = .ref a/\H a = some (.tup (ns.map V.int))) vs nss /\
 ∀ (i:Nat) v ns,vs[i]? = some v->nss[i]? = some ns->(∀ ms ∈ nss,HT.lexLt ms ns = false)->Q v H
theorem zgn {ns:Nat->List Int} (tr:∀ a b c:List Int,HT.lexLt a b = false->HT.lexLt b c = false->HT.lexLt a c = false) (as:∀ a b:List Int,HT.lexLt a b = true->HT.lexLt b a = false):∀ k,argBest (fun i j=>HT.lexLt (ns i) (ns j)) k <= k/\∀ j,j <= k->HT.lexLt (ns j) (ns (argBest (fun i j=>HT.lexLt (ns i) (ns j)) k)) = false
 | 0=>⟨Nat.le_refl _,fun j hj=>by
   have:j = 0:=by omega
   subst this
   show HT.lexLt (ns 0) (ns 0) = false
   cases h:HT.lexLt (ns 0) (ns 0) with
   | false=>rfl
   | true=>have:=as _ _ h; rw [h] at this; cases this⟩
 | k + 1=>by
  obtain ⟨h1,h2⟩:=zgn tr as (ns:=ns) k
  simp only [argBest]
  by_cases hb:HT.lexLt (ns (k + 1)) (ns (argBest (fun i j=>HT.lexLt (ns i) (ns j)) k)) = true
  ·rw [if_pos hb]
   refine ⟨Nat.le_refl _,fun j hj=>?_⟩
   by_cases e:j = k + 1
   ·subst e
    cases h:HT.lexLt (ns (k + 1)) (ns (k + 1)) with
    | false=>rfl
    | true=>have:=as _ _ h; rw [h] at this; cases this
   ·exact tr _ _ _ (h2 j (by omega)) (as _ _ hb)
  ·rw [if_neg hb]
   refine ⟨by omega,fun j hj=>?_⟩
   by_cases e:j = k + 1
   ·subst e; exact Bool.eq_false_iff.mpr hb
   ·exact h2 j (by omega)
theorem zjJ:∀ a b:List Int,HT.lexLt a b = true->HT.lexLt b a = false
 | [],[],h=>by cases h
 | [],y :: ys,_=>rfl
 | x :: xs,[],h=>by cases h
 | x :: xs,y :: ys,h=>by
  rw [HT.lexLt_cons] at h ⊢
  by_cases e:x = y
  ·subst e
   rw [if_pos rfl] at h ⊢
   exact zjJ xs ys h
  ·rw [if_neg e] at h
   rw [if_neg (Ne.symm e)]
   simp only [decide_eq_true_eq] at h
   simp only [decide_eq_false_iff_not]
   omega
theorem zfm:∀ a b c:List Int,HT.lexLt a b = false->HT.lexLt b c = false->HT.lexLt a c = false
 | _,_,[],_,_=>by rename_i a b _ _; cases a <;> rfl
 | [],[],z :: zs,_,h=>by cases h
 | [],y :: ys,z :: zs,h,_=>by cases h
 | x :: xs,[],z :: zs,_,h=>by cases h
 | x :: xs,y :: ys,z :: zs,h,k=>by
  rw [HT.lexLt_cons] at h k ⊢
  by_cases e:x = y
  ·subst e
   rw [if_pos rfl] at h
   by_cases e2:x = z
   ·subst e2
    rw [if_pos rfl] at k ⊢
    exact zfm xs ys zs h k
   ·rw [if_neg e2] at k ⊢
    exact k
  ·rw [if_neg e] at h
   by_cases e2:y = z
   ·subst e2
    rw [if_neg e]
    exact h
   ·rw [if_neg e2] at k
    simp only [decide_eq_false_iff_not] at h k
    rw [if_neg (by omega)]
    simp only [decide_eq_false_iff_not]
    omega
theorem zmi {X:Cx} (hc:X.calm = true) (hu:X.A.units + 64 < cLine):CallR X (.builtin "min") (zr0 X.K):=by
 intro zm s σ H xs us Q I r h
 obtain ⟨p,vs,nss,rfl,hq,hne,pr,q⟩:=h
 obtain ⟨u,rfl,rx⟩:=vals1 r
 cases (show u = Value.ref p from rx)
 obtain ⟨its,rv,pl,_⟩:=I.list hq
 have hl:=rv.length
 have hl2:=Paired.length pr
 have hsz:0 < its.toArray.size:=by
  rw [List.size_toArray,<- hl]
  exact List.length_pos_iff.mpr hne
 have at_:∀ (i:Nat) x,its.toArray[i]? = some x->∃ (v:V) (ns:List Int),vs[i]? = some v/\nss[i]? = some ns/\RelV v x/\∃ a,v = .ref a/\H a = some (.tup (ns.map V.int)):=fun i x hx=>by
  have hi:i < its.length:=by
   have:=(Array.getElem?_eq_some_iff.mp hx).1
   simpa using this
  have e1:vs[i]? = some vs[i]:=List.getElem?_eq_getElem (by omega)
  have e2:nss[i]? = some nss[i]:=List.getElem?_eq_getElem (by omega)
  obtain ⟨x',hx',rr⟩:=rv.get e1
  have:x = x':=by
   have h2:its[i]? = some x:=by simpa using hx
   rw [hx'] at h2
   exact (Option.some.inj h2).symm
  subst this
  have pg:∀ {a:List V} {b:List (List Int)} {i:Nat} {v:V} {ns:List Int},Paired (fun (v:V) (ns:List Int)=>∃ a,v = .ref a/\H a = some (.tup (ns.map V.int))) a b->a[i]? = some v->b[i]? = some ns->∃ a,v = .ref a/\H a = some (.tup (ns.map V.int)):=by
   intro a b i v ns pq
   induction pq generalizing i with
   | nil=>intro h; simp at h
   | cons r0 _ ih =>
    cases i with
    | zero =>
     intro h1 h2
     rw [List.getElem?_cons_zero] at h1 h2
     cases h1
     cases h2
     exact r0
    | succ i =>
     intro h1 h2
     rw [List.getElem?_cons_succ] at h1 h2
     exact ih h1 h2
  exact ⟨_,_,e1,e2,rr,pg pr e1 e2⟩
 refine zlz (I.ok.hd hc) pl.isList hsz (fun i j=>HT.lexLt (nss.getD i []) (nss.getD j [])) (fun i j x y s' Q' E' k hx hy q'=>?_) fun v h' tk hv k=>?_
 ·obtain ⟨v1,n1,_,f1,r1,a1,rfl,e1⟩:=at_ i x hx
  obtain ⟨v2,n2,_,f2,r2,a2,rfl,e2⟩:=at_ j y hy
  cases r1
  cases r2
  obtain ⟨_,is1,w1,t1⟩:=(show ObjOk X.prog X.w H s.heap a1 (.tup (n1.map V.int)) from I.hok a1 _ e1)
  obtain ⟨_,is2,w2,t2⟩:=(show ObjOk X.prog X.w H s.heap a2 (.tup (n2.map V.int)) from I.hok a2 _ e2)
  have g1:nss.getD i [] = n1:=by rw [List.getD_eq_getElem?_getD,f1]; rfl
  have g2:nss.getD j [] = n2:=by rw [List.getD_eq_getElem?_getD,f2]; rfl
  rw [g1,g2] at q'
  obtain ⟨o1,b1,c1⟩:=t1
  obtain ⟨o2,b2,c2⟩:=t2
  exact HT.lt_tupInts ⟨o1,k _ _ b1,c1⟩ ⟨o2,k _ _ b2,c2⟩ (zb1 w1) (zb1 w2) (by show X.A.units + 1 < cLine; omega) q'
 ·obtain ⟨v1,n1,e1,f1,r1,_⟩:=at_ _ v hv
  obtain ⟨_,h2⟩:=zgn (ns:=fun i=>nss.getD i []) zfm zjJ (its.toArray.size - 1)
  refine ⟨v1,H,I.kept (t':=tk) k,r1,q _ v1 n1 e1 f1 fun ms hm=>?_⟩
  obtain ⟨j,hj⟩:=List.mem_iff_getElem?.mp hm
  have hjl:=(List.getElem?_eq_some_iff.mp hj).1
  have:=h2 j (by rw [List.size_toArray]; omega)
  rw [show nss.getD j [] = ms by rw [List.getD_eq_getElem?_getD,hj]; rfl] at this
  rw [show nss.getD (argBest (fun i j=>HT.lexLt (nss.getD i []) (nss.getD j [])) (its.toArray.size - 1)) [] = n1 by rw [List.getD_eq_getElem?_getD,f1]; rfl] at this
  exact this
def zqZ (K:W.Frag):List V->Hp->VK->Prop:=fun xs H Q=>zsI K xs H Q\/zr0 K xs H Q
theorem zfa {X:Cx} (hc:X.calm = true) (hu:X.A.units + 64 < cLine):CallR X (.builtin "min") (zqZ X.K):=(zlK hc).or (zmi hc hu)
def zmY (ns:List Int):PyData:=.tuple (ns.map PyData.int)
def zi3:List XV->Sto->RX->Prop:=fun xs S R=>zs9 xs S R\/arg1 xs fun x=>∃ ds,zkR S x = some ds/\∃ nss:List (List Int),ds = nss.map zmY/\nss ≠ []/\∀ m,m ∈ nss->(∀ a,a ∈ nss->HT.lexLt a m = false)->R (.d (zmY m)) S
theorem zhE {K:W.Frag}:RC (zqZ K) zi3:=fun h o H S xs vs R Q hs hx q c=>by
 rcases q with q | q
 ·exact .inl (zr8 h o H S xs vs R Q hs hx q c)
 ·obtain ⟨x,rfl,ds,hd,nss,rfl,hn,q1⟩:=zbb q
  obtain ⟨v,rfl,hx1⟩:=hxs1 hx
  obtain ⟨a,ws,rfl,ea,l⟩:=zbp hs hd hx1
  have hl:=l.length
  refine .inr ⟨a,ws,nss,rfl,.of ea,fun z=>hn ?_,?_,fun i v ns e1 e2 hm=>?_⟩
  ·subst z
   rw [List.length_map] at hl
   exact List.eq_nil_of_length_eq_zero hl.symm
  ·have go:∀ {nss:List (List Int)} {ws:List V},HasL (vx h o H) (nss.map zmY) ws->Paired (fun (v:V) (ns:List Int)=>∃ a,v = .ref a/\H a = some (.tup (ns.map V.int))) ws nss:=by
    intro nss
    induction nss with
    | nil=>intro ws l; rw [zR.mp l]; exact .nil
    | cons n nss ih =>
     intro ws l
     obtain ⟨v,r,rfl,h1,l2⟩:=zH.mp l
     obtain ⟨b,us,rfl,eb,lb⟩:=zaJ.mp h1
     rw [zdq lb] at eb
     exact .cons ⟨b,rfl,zaE _ _ eb⟩ (ih l2)
   exact go l
  ·obtain ⟨v',ev,hv⟩:=l.get (show (nss.map zmY)[i]? = some (zmY ns) by rw [List.getElem?_map,e2]; rfl)
   rw [e1] at ev
   cases ev
   exact c o H S (.d (zmY ns)) v Ex.refl hs hv (q1 ns (List.mem_of_getElem? e2) hm)
section
variable {S:Sto} {P:Sto->List PyData->Prop} {a b c d:List PyData} {x:List PyData}
theorem zge {S0:Sto}:(∃ T ds,S0 ++ [x] = T ++ [ds]/\P T ds) ↔ P S0 x:=by
 constructor
 ·rintro ⟨T,ds,e,q⟩
  obtain ⟨rfl,e2⟩:=List.append_inj' e rfl
  cases e2
  exact q
 ·exact fun q=>⟨S0,x,rfl,q⟩
theorem zjY:(∃ T ds,[a] = T ++ [ds]/\P T ds) ↔ P [] a:=zge (S0:=[])
theorem zkn:(∃ T ds,[a,b] = T ++ [ds]/\P T ds) ↔ P [a] b:=zge (S0:=[a])
theorem zjF:(∃ T ds,[a,b,c] = T ++ [ds]/\P T ds) ↔ P [a,b] c:=zge (S0:=[a,b])
end
section
variable {α:Type} {n:Nat} {g:DG} {tt:DT} {te:DE} {fin:Sto->Prop} {S0:Sto} {caps:XE}
theorem zoQ {h:α->PyData} {f:α->PyData} (P:XE->Prop) (hn:S0.length = n) (l:List α) (τ:XE) (hP:P τ) (hl:l.length <= 1000)
  (el:∀ x ∈ l,∀ τ acc (R:XE->RX),P τ->(∀ τ',P τ'->R τ' (.d (f x)) (S0 ++ [acc]))->g (.d (h x)) τ (S0 ++ [acc]) fun τ1 S1=>te τ1 S1 (R τ1)) (hf:fin (S0 ++ [l.map f])):zeL n g zaB te fin (l.map h) τ (S0 ++ [[]]):=by
 have go:∀ (l:List α) (acc:List PyData) (τ:XE),P τ->acc.length + l.length <= 1000->(∀ x ∈ l,∀ τ acc (R:XE->RX),P τ->(∀ τ',P τ'->R τ' (.d (f x)) (S0 ++ [acc]))->g (.d (h x)) τ (S0 ++ [acc]) fun τ1 S1=>te τ1 S1 (R τ1)) ->
   fin (S0 ++ [acc ++ l.map f])->zeL n g zaB te fin (l.map h) τ (S0 ++ [acc]):=by
  intro l
  induction l with
  | nil=>intro acc τ _ _ _ h; rw [List.map_nil,List.append_nil] at h; exact h
  | cons x l ih =>
   intro acc τ hP hl el hh
   show g (.d (h x)) τ (S0 ++ [acc]) fun τ1 S1=>zaB τ1 S1 fun b S2=>if b = true then te τ1 S2 fun x S3=>asD x fun e=>∃ acc,S3[n]? = some acc/\acc.length < 1000/\zeL n g zaB te fin (l.map h) τ1 (S3.set n (acc ++ [e])) else zeL n g zaB te fin (l.map h) τ1 S2
   simp only [zaB,↓reduceIte]
   rw [List.length_cons] at hl
   refine el x List.mem_cons_self τ acc (fun τ1 x S3=>asD x fun e=>∃ acc,S3[n]? = some acc/\acc.length < 1000/\zeL n g zaB te fin (l.map h) τ1 (S3.set n (acc ++ [e]))) hP fun τ' hP'=>?_
   refine ⟨acc,by rw [<- hn,List.getElem?_concat_length],by omega,?_⟩
   rw [zff hn]
   refine ih (acc ++ [f x]) τ' hP' (by rw [List.length_append,List.length_singleton]; omega) (fun e m=>el e (List.mem_cons_of_mem _ m)) ?_
   rw [List.append_assoc]
   exact hh
 exact go l [] τ hP (by simpa using hl) el (by simpa using hf)
theorem cmp1 {h:α->PyData} (f:α->PyData) (hn:S0.length = n) (l:List α) {u:Option XV} (hl:l.length <= 1000)
  (el:∀ x ∈ l,∀ (u:Option XV) acc (R:XE->RX),(∀ u',R (u' :: caps) (.d (f x)) (S0 ++ [acc]))->g (.d (h x)) (u :: caps) (S0 ++ [acc]) fun τ1 S1=>te τ1 S1 (R τ1)) (hf:fin (S0 ++ [l.map f])):zeL n g zaB te fin (l.map h) (u :: caps) (S0 ++ [[]]) :=
 zoQ (fun τ=>∃ u,τ = u :: caps) hn l _ ⟨u,rfl⟩ hl (fun x m τ acc R ⟨u,e⟩ k=>by subst e; exact el x m u acc R fun u'=>k _ ⟨u',rfl⟩) hf
theorem cmp2 {h:α->PyData} (f:α->PyData) (hn:S0.length = n) (l:List α) {u v:Option XV} (hl:l.length <= 1000)
  (el:∀ x ∈ l,∀ (u v:Option XV) acc (R:XE->RX),(∀ u' v',R (u' :: v' :: caps) (.d (f x)) (S0 ++ [acc]))->g (.d (h x)) (u :: v :: caps) (S0 ++ [acc]) fun τ1 S1=>te τ1 S1 (R τ1)) (hf:fin (S0 ++ [l.map f])):zeL n g zaB te fin (l.map h) (u :: v :: caps) (S0 ++ [[]]) :=
 zoQ (fun τ=>∃ u v,τ = u :: v :: caps) hn l _ ⟨u,v,rfl⟩ hl (fun x m τ acc R ⟨u,v,e⟩ k=>by subst e; exact el x m u v acc R fun u' v'=>k _ ⟨u',v',rfl⟩) hf
theorem zrP {h:α->PyData} {f:α->PyData} {p:α->Bool} (P:XE->Prop) (hn:S0.length = n) (l:List α) (τ:XE) (hP:P τ) (hl:l.length <= 1000)
  (el:∀ x ∈ l,∀ τ acc (R:XE->Bool->Sto->Prop),P τ->(∀ τ',P τ'->(p x = true->∀ T:RX,T (.d (f x)) (S0 ++ [acc])->te τ' (S0 ++ [acc]) T)->R τ' (p x) (S0 ++ [acc]))->g (.d (h x)) τ (S0 ++ [acc]) fun τ1 S1=>tt τ1 S1 (R τ1))
  (hf:fin (S0 ++ [(l.filter p).map f])):zeL n g tt te fin (l.map h) τ (S0 ++ [[]]):=by
 have go:∀ (l:List α) (acc:List PyData) (τ:XE),P τ->acc.length + l.length <= 1000->(∀ x ∈ l,∀ τ acc (R:XE->Bool->Sto->Prop),P τ->(∀ τ',P τ'->(p x = true->∀ T:RX,T (.d (f x)) (S0 ++ [acc])->te τ' (S0 ++ [acc]) T)->R τ' (p x) (S0 ++ [acc]))->g (.d (h x)) τ (S0 ++ [acc]) fun τ1 S1=>tt τ1 S1 (R τ1)) ->
   fin (S0 ++ [acc ++ (l.filter p).map f])->zeL n g tt te fin (l.map h) τ (S0 ++ [acc]):=by
  intro l
  induction l with
  | nil=>intro acc τ _ _ _ h; rw [List.filter_nil,List.map_nil,List.append_nil] at h; exact h
  | cons x l ih =>
   intro acc τ hP hl el hh
   show g (.d (h x)) τ (S0 ++ [acc]) fun τ1 S1=>tt τ1 S1 fun b S2=>if b = true then te τ1 S2 fun x S3=>asD x fun e=>∃ acc,S3[n]? = some acc/\acc.length < 1000/\zeL n g tt te fin (l.map h) τ1 (S3.set n (acc ++ [e])) else zeL n g tt te fin (l.map h) τ1 S2
   rw [List.length_cons] at hl
   refine el x List.mem_cons_self τ acc (fun τ1 b S2=>if b = true then te τ1 S2 fun x S3=>asD x fun e=>∃ acc,S3[n]? = some acc/\acc.length < 1000/\zeL n g tt te fin (l.map h) τ1 (S3.set n (acc ++ [e])) else zeL n g tt te fin (l.map h) τ1 S2) hP fun τ' hP' ev=>?_
   cases hp:p x with
   | false =>
    rw [List.filter_cons_of_neg (by rw [hp]; exact Bool.false_ne_true)] at hh
    exact zmE (ih acc τ' hP' (by omega) (fun e m=>el e (List.mem_cons_of_mem _ m)) hh)
   | true =>
    rw [List.filter_cons_of_pos hp,List.map_cons] at hh
    refine zlL (ev hp _ ⟨acc,by rw [<- hn,List.getElem?_concat_length],by omega,?_⟩)
    rw [zff hn]
    exact ih (acc ++ [f x]) τ' hP' (by rw [List.length_append,List.length_singleton]; omega) (fun e m=>el e (List.mem_cons_of_mem _ m)) (by rw [List.append_assoc]; exact hh)
 exact go l [] τ hP (by simpa using hl) el (by simpa using hf)
theorem cmf1 {h:α->PyData} (f:α->PyData) (p:α->Bool) (hn:S0.length = n) (l:List α) {u:Option XV} (hl:l.length <= 1000)
  (el:∀ x ∈ l,∀ (u:Option XV) acc (R:XE->Bool->Sto->Prop),(∀ u',(p x = true->∀ T:RX,T (.d (f x)) (S0 ++ [acc])->te (u' :: caps) (S0 ++ [acc]) T)->R (u' :: caps) (p x) (S0 ++ [acc]))->g (.d (h x)) (u :: caps) (S0 ++ [acc]) fun τ1 S1=>tt τ1 S1 (R τ1)) (hf:fin (S0 ++ [(l.filter p).map f])):zeL n g tt te fin (l.map h) (u :: caps) (S0 ++ [[]]) :=
 zrP (fun τ=>∃ u,τ = u :: caps) hn l _ ⟨u,rfl⟩ hl (fun x m τ acc R ⟨u,e⟩ k=>by subst e; exact el x m u acc R fun u' hh=>k _ ⟨u',rfl⟩ hh) hf
end
end
section
@[irreducible] def QSs (X:Cx) (st:List Stmt) (t:TS):Prop:=PSs X st t
theorem QSs.out {X:Cx} {st:List Stmt} {t:TS} (h:QSs X st t):PSs X st t:=by unfold QSs at h; exact h
@[irreducible] def QA (X:Cx) (es:List Expr) (t:TA):Prop:=PA X es t
theorem QA.out {X:Cx} {es:List Expr} {t:TA} (h:QA X es t):PA X es t:=by unfold QA at h; exact h
theorem QA.mk {X:Cx} {es:List Expr} {t:TA} (h:PA X es t):QA X es t:=by unfold QA; exact h
theorem zoW {X:Cx}:QA X [] zqp:=QA.mk zf
theorem zcn {X:Cx} {e:Expr} {es:List Expr} {te:TE} {t:TA} (ha:PE X e te) (hr:QA X es t) (hs:starEach (e :: es) X.env = (false,eval e X.env) :: starEach es X.env:=by rfl):QA X (e :: es) (zjm te t):=QA.mk (zc ha hr.out hs)
theorem zmx {X:Cx} {es:List Expr} {t:TA} {pos:Pos} (h:QA X es t):PE X (.List es pos) (zqo t):=zaZ h.out
@[irreducible] def QS (X:Cx) (st:Stmt) (t:TS):Prop:=PS X st t
theorem QS.out {X:Cx} {st:Stmt} {t:TS} (h:QS X st t):PS X st t:=by unfold QS at h; exact h
end
section
section
variable {prog:Program} {w:World} {A:Around} {E:Value->Shared->Prop} {s:Shared}
abbrev zpl (acc:Array Value) (c:Nat):Obj:={ cls:=.type "list",dict:=none,data:=.seq acc c,slots:=#[] }
abbrev zsf (lo hi:Int):Obj:={ cls:=.type "longrange_iterator",data:=.fields #[rawInt lo,rawInt (Builtin.Range.rangeSize lo hi 1),rawInt 1] }
abbrev IntsFrom (lo:Int) (acc:Array Value) (n:Nat):Prop:=ItemsOf (fun i v=>∃ t,v = .int (lo + (i:Nat) * 1) t) acc n
theorem zmb {R:Result->Shared->Prop} {lo:Int} {n L I:Nat} {res:Value} {c0 tk0:Nat} {h0:Heap} (hh:A.handled = none) (hn:n <= 1000) (ne:L ≠ I)
  (hI:IsLongIter h0 I (lo + ((0:Nat):Int) * 1) ((n:Int) - ((0:Nat):Int)) 1) (hL:h0.get? L = some (zpl #[] c0))
  (hR:∀ h' tk acc c,(∀ b o,b ≠ L->b ≠ I->h0.get? b = some o->h'.get? b = some o)->h'.get? L = some (zpl acc c)->IntsFrom lo acc n->R (.ok (.ret res)) { s with heap:=h',toks:=tk }) :
  codeAny (model prog w) A (.builtin "list.extend.loop" ⟨[.ref L,.ref I,res],[]⟩) R { s with heap:=h0,toks:=tk0 }:=by
 have walk:=(Walks.longrange (prog:=prog) (w:=w) (A:=A.in1) hh I lo 1 n).toS
 have small:n <= sizeLine:=by rw [sizeLine_eq]; omega
 have out:L ∉ [I]:=by simpa using ne
 refine codeAny_extend_loopS walk small L out res n 0 _ #[] c0 rfl (Nat.zero_le _) hI hL (ItemsOf.nil _) ?_
 intro s' acc c moved hl' items
 rw [Moved.eq_with moved]
 refine hR s'.heap s'.toks acc c (fun b o b1 b2 e=>moved.heap b o ?_ e) hl' items
 simp only [List.mem_cons,List.not_mem_nil,or_false,not_or]
 exact ⟨b1,b2⟩
theorem znd {R:Result->Shared->Prop} {r L:Addr} {lo hi:Int} {t u v:Tok} {n:Nat} (hh:A.handled = none) (hr:IsRange s.heap r lo hi 1 t u v) (big:Builtin.Range.small lo hi 1 = false) (hn:Builtin.Range.rangeSize lo hi 1 = (n:Int)) (hl:n <= 1000)
  {c0:Nat} (hL:s.heap.get? L = some (zpl #[] c0))
  (hR:∀ h' tk acc c,(∀ b o,b ≠ L->s.heap.get? b = some o->h'.get? b = some o)->h'.get? L = some (zpl acc c)->IntsFrom lo acc n->R (.ok (.ret .none)) { s with heap:=h',toks:=tk }) :
  wpAny (model prog w) A.in1 (Builtin.List.listExtendWith (.ref L) (.ref r) .none)
   (fun f z=>match f with
    | .done g=>R (.ok g) z
    | .again c=>c.quiet = true/\codeAny (model prog w) A c R z) (fun e z=>R (.error e) z) s:=by
 have apart:L ≠ r:=fun e=>by
  rw [e,hr] at hL
  simp at hL
 have low:L < s.heap.objs.size:=Heap.lt_size hL
 have ne:L ≠ s.heap.objs.size:=Nat.ne_of_lt low
 have same:Builtin.List.listSameRef (.ref L) (.ref r) = false:=by simp [Builtin.List.listSameRef,apart]
 have k1:(Value.type "range" == Value.type "list") = false:=by decide
 have k2:(Value.type "range" == Value.type "tuple") = false:=by decide
 unfold Builtin.List.listExtendWith
 refine wpAny_bind (wpAny_typeOf (T:="range") ⟨_,hr,rfl⟩ ?_)
 simp only [same,k1,k2,Bool.or_false,Bool.false_eq_true,if_false]
 refine wpAny_bind (wpAny_pyIter_longrange hr big ?_)
 have hit:IsLongIter (s.heap.push (zsf lo hi)) s.heap.objs.size (lo + ((0:Nat):Int) * 1) ((n:Int) - ((0:Nat):Int)) 1:=by
  show IsLongIter _ _ _ _ _
  rw [<- hn]
  simpa using Heap.get?_push_size _ rfl
 have hL1:=Heap.get?_push_of_some (zsf lo hi) hL
 refine wpAny_bind (wpAny_holding (wpAny_hint_range (n:=n) (Heap.get?_push_of_some _ hr) hn (by omega) ?_))
 have go:∀ {h0:Heap} {c0 tk0:Nat},IsLongIter h0 s.heap.objs.size (lo + ((0:Nat):Int) * 1) ((n:Int) - ((0:Nat):Int)) 1->h0.get? L = some (zpl #[] c0)->(∀ b o,b ≠ L->s.heap.get? b = some o->h0.get? b = some o) ->
   codeAny (model prog w) A (.builtin "list.extend.loop" ⟨[.ref L,.ref s.heap.objs.size,.none],[]⟩) R { s with heap:=h0,toks:=tk0 }:=fun {h0 c0 tk0} a1 a2 a3 =>
  zmb hh hl ne a1 a2 fun h' tk acc c q1 q2 q3=>hR h' tk acc c (fun b o nb e=>q1 b o nb (Nat.ne_of_lt (Heap.lt_size e)) (a3 b o nb e)) q2 q3
 have still:=plainId_quiet F.plain_extend_loop
 refine wpAny_ite_split (fun _=>?_) fun _=>wpAny_pure ⟨still _,go hit hL1 fun b o _ e=>Heap.get?_push_of_some _ e⟩
 refine wpAny_bind (wpAny_rule (wpAny_bind ?_))
 show wpAny _ _ (updateSeq L (·.push .none) >>= fun _=>updateSeq L (·.pop)) _ _ _
 refine wpAny_bind (wpAny_updateSeq hL1 rfl ?_)
 have hL2:=Heap.get?_update_self (Obj.mapSeq (·.push Value.none)) hL1 rfl
 refine wpAny_updateSeq (hz:=by seq_fits) hL2 rfl ?_
 have hL3:=Heap.get?_update_self (Obj.mapSeq (·.pop)) hL2 rfl
 have other:∀ b o,b ≠ L->(s.heap.push (zsf lo hi)).get? b = some o->(((s.heap.push (zsf lo hi)).update L (Obj.mapSeq (·.push Value.none))).update L (Obj.mapSeq (·.pop))).get? b = some o:=fun b o nb e =>
  (Heap.get?_update_other _ _ (Ne.symm nb)).trans ((Heap.get?_update_other _ _ (Ne.symm nb)).trans e)
 exact wpAny_pure ⟨still _,go (other _ _ (Ne.symm ne) hit) hL3 fun b o nb e=>other b o nb (Heap.get?_push_of_some _ e)⟩
theorem zmt {R:Result->Shared->Prop} {r L:Addr} {lo hi:Int} {t u v:Tok} {n:Nat} (hh:A.handled = none) (hr:IsRange s.heap r lo hi 1 t u v) (big:Builtin.Range.small lo hi 1 = false) (hn:Builtin.Range.rangeSize lo hi 1 = (n:Int)) (hl:n <= 1000)
  (hL:s.heap.get? L = some { cls:=.type "list",data:=.seq #[] })
  (hR:∀ h' tk acc c,(∀ b o,b ≠ L->s.heap.get? b = some o->h'.get? b = some o)->h'.get? L = some (zpl acc c)->IntsFrom lo acc n->R (.ok (.ret .none)) { s with heap:=h',toks:=tk }) :
  wpAny (model prog w) A.in1 (Builtin.«list.__init__» ⟨[.ref L,.ref r],[]⟩)
   (fun f z=>match f with
    | .done g=>R (.ok g) z
    | .again c=>c.quiet = true/\codeAny (model prog w) A c R z) (fun e z=>R (.error e) z) s:=by
 have apart:L ≠ r:=fun e=>by
  rw [e,hr] at hL
  simp at hL
 show wpAny _ _ (do
  let was <- Builtin.List.listItems (.ref L)
  Builtin.List.listUpdate (.ref L) (fun _=>#[])
  letGo was.toList.reverse
  Builtin.List.listExtendWith (.ref L) (.ref r) .none) _ _ s
 unfold Builtin.List.listItems
 refine wpAny_bind (wpAny_bind (wpAny_seqItems hL rfl (wpAny_pure ?_)))
 show wpAny _ _ (updateSeq L (fun _=>#[]) >>= fun _=>letGo _ >>= fun _=>Builtin.List.listExtendWith (.ref L) (.ref r) .none) _ _ s
 refine wpAny_bind (wpAny_updateSeq hL rfl ?_)
 have hL1:=Heap.get?_update_self (Obj.mapSeq (fun _=>(#[]:Array Value))) hL rfl
 have other:∀ b o,b ≠ L->s.heap.get? b = some o->(s.heap.update L (Obj.mapSeq (fun _=>(#[]:Array Value)))).get? b = some o:=fun b o nb e=>(Heap.get?_update_other _ _ (Ne.symm nb)).trans e
 refine wpAny_bind (wpAny_letGo ?_)
 refine znd hh (other r _ (Ne.symm apart) hr) big hn hl hL1 fun h' tk acc c q1 q2 q3=>?_
 exact hR h' tk acc c (fun b o nb e=>q1 b o nb (other b o nb e)) q2 q3
theorem zhG {Q:Value->Shared->Prop} {r:Addr} {lo hi:Int} {t u v:Tok} {n:Nat} (hh:A.handled = none) (hr:IsRange s.heap r lo hi 1 t u v) (hn:Builtin.Range.rangeSize lo hi 1 = (n:Int)) (hl:n <= 1000)
  (hQ:∀ h' tk acc c,(∀ b o,s.heap.get? b = some o->h'.get? b = some o)->h'.get? s.heap.objs.size = some (zpl acc c)->IntsFrom lo acc n->Q (.ref s.heap.objs.size) { s with heap:=h',toks:=tk }) :
  wpAny (model prog w) A (call (.type "list") [.ref r]) Q E s:=by
 cases sm:Builtin.Range.small lo hi 1 with
 | true=>exact call_list_range hh hr sm hn (by omega) hQ
 | false =>
  refine callType_codes (Q₁:=fun ob z=>ob = .ref s.heap.objs.size/\z = { s with heap:=s.heap.push { cls:=.type "list",data:=.seq #[] } }) F.called_list (F.typeCall_list_1 _) F.entry_list_init (code_list_new _ ⟨rfl,rfl⟩) ?_
  rintro ob z ⟨rfl,rfl⟩
  have hL:(s.heap.push { cls:=.type "list",data:=.seq #[] }).get? s.heap.objs.size = some { cls:=.type "list",data:=.seq #[] }:=Heap.get?_push_size _ rfl
  refine ⟨⟨_,hL,rfl⟩,F.args_list_init_2 _ _,?_⟩
  refine zmt (A:=A.in1) hh (Heap.get?_push_of_some _ hr) sm hn hl hL fun h' tk acc c q1 q2 q3=>⟨rfl,hQ h' tk acc c (fun b o e=>?_) q2 q3⟩
  exact q1 b o (Nat.ne_of_lt (Heap.lt_size e)) (Heap.get?_push_of_some _ e)
end
theorem zjM:∀ (xs:List V) (us:List Value),xs.length = us.length->(∀ (k:Nat) (x:V) (u:Value),xs[k]? = some x->us[k]? = some u->RelV x u)->Vals xs us
 | [],[],_,_=>.nil
 | x :: xs,u :: us,hl,h=>.cons (h 0 x u rfl rfl) (zjM xs us (by simpa using hl) fun k y v e1 e2=>h (k + 1) y v e1 e2)
 | [],_ :: _,hl,_=>by simp at hl
 | _ :: _,[],hl,_=>by simp at hl
theorem zpR {lo:Int}:∀ {n:Nat} {acc:Array Value},IntsFrom lo acc n->Vals ((List.range n).map fun k:Nat=>V.int (lo + k)) acc.toList:=by
 intro n acc h
 obtain ⟨hz,hv⟩:=h
 refine zjM _ _ (by simp [hz]) fun k x u ex eu=>?_
 rw [List.getElem?_map] at ex
 have hk:k < n:=by
  have:=(List.getElem?_eq_some_iff.mp eu).1
  simpa [hz] using this
 rw [List.getElem?_range hk] at ex
 cases ex
 obtain ⟨tk,rfl⟩:=hv k u (by simpa using eu)
 exact ⟨tk,by rw [Int.mul_one]⟩
end
end L2
namespace HT
open PySem PyProof.Rows
section
variable {prog:Program} {w:World} {A:Around} {E:Value->Shared->Prop} {s:Shared}
theorem tup_whole {t sl:Addr} {items:Array Value} {vl vu:Value} {lo hi:Option Int} {Q:Value->Shared->Prop} (ht:IsTup s.heap t items) (hs:s.heap.IsSliceOf sl vl vu .none) (pl:IsPart vl lo) (pu:IsPart vu hi)
  (hw:sIx items.size 0 lo = 0/\sIx items.size items.size hi = items.size) (h:Q (.ref t) s):wpAny (model prog w) A (getItem (.ref t) (.ref sl)) Q E s:=by
 obtain ⟨os,hos,hcs,hds⟩:=id hs
 have hTs:s.TypeIs (.ref sl) "slice":=⟨os,hos,hcs⟩
 unfold getItem
 try with_reducible refine wpAny_holding ?_
 first | refine wpAny_bind (wpAny_pure ?_) | skip
 refine wpAny_bind (wpAny_sequenceKey ht.typeIs (by decide) ?_)
 refine wpAny_bind (wpAny_callSpecial?_slot (name:=Str.ofString "__getitem__") ht.typeIs PyProof.Rows.slot_tuple_getitem
  (wpAny_call_entry PyProof.Rows.slot_tuple_getitem ht.typeIs entry_tuple_getitem ?_ (args_tuple_getitem _ _)))
 show wpAny _ _ (Builtin.Tuple.tupleItemsOf (.ref t) >>= _) _ _ s
 refine wpAny_bind (tupleItemsOf_ ht (wpAny_bind (wpAny_typeOf hTs ?_)))
 rw [if_pos (by decide)]
 refine wpAny_bind (zdS hs pl pu ?_)
 rw [hw.1,hw.2]
 show wpAny _ _ (if (((0:Nat):Int) == 0 && (1:Int) == 1 && (items.size - 0) == items.size) = true then _ else _) _ _ s
 rw [if_pos (by simp)]
 unfold Builtin.Tuple.tupleIsExact
 refine wpAny_bind (wpAny_bind (wpAny_typeOf ht.typeIs (wpAny_pure ?_)))
 rw [if_pos (by decide)]
 exact wpAny_bind (wpAny_rule (wpAny_pure ⟨_,rfl,wpAny_pure h⟩))
end
end HT
namespace L2
open PySem PySem.Spec PyProof.Rows
section
section
variable {X:Cx} {e ek:Expr} {te tk:TE} {pos p2:Pos}
def zsG (K:W.Frag):V->Option Int->Option Int->Hp->VK->Prop:=fun x lo hi H Q=>∃ a xs,x = .ref a/\SqT K H a xs /\
 ((HT.sIx xs.length 0 lo = 0/\HT.sIx xs.length xs.length hi = xs.length)->Q (.ref a) H)/\∀ p,H p = none->Q (.ref p) (upd H p (.tup (zjC xs lo hi)))
theorem zlb:SlR X (zsG X.K):=by
 intro zm s σ H x v vl vu lo hi sl Q I rx hs pl pu h
 obtain ⟨a,xs,rfl,hx,hw,q⟩:=h
 by_cases z:HT.sIx xs.length 0 lo = 0/\HT.sIx xs.length xs.length hi = xs.length
 ·cases rx
  obtain ⟨its,r,ht,hz⟩:=I.tuple hx
  have hlen:its.toArray.size = xs.length:=by rw [List.size_toArray]; exact r.length.symm
  refine ⟨"tuple",_,PyProof.Rows.slot_tuple_getitem.lookup,ht.typeIs,?_⟩
  exact HT.tup_whole ht hs pl pu (by rw [hlen]; exact z) ⟨.ref a,H,I,rfl,hw z⟩
 ·exact zoM zm s σ H _ v vl vu lo hi sl Q I rx hs pl pu ⟨a,xs,rfl,hx,z,q⟩
end
def zrq:D3:=fun x i j S R=>asT x fun ds=>R (.d (.tuple (zef ds i j))) S
theorem zkv {α:Type} (xs:List α) (lo hi:Option Int) (h:HT.sIx xs.length 0 lo = 0/\HT.sIx xs.length xs.length hi = xs.length):zef xs lo hi = xs:=by
 unfold zef
 rw [h.1,h.2]
 simp
theorem zmO {K:W.Frag}:RL (zsG K) zrq:=fun h o H S x v a b R Q hs hx q c=>by
 replace q:=zha q
 obtain ⟨ds,rfl,q⟩:=q
 obtain ⟨p,vs,rfl,ea,l⟩:=zey hx
 refine ⟨p,vs,rfl,.of ea,fun z=>?_,zmI hs (l.cut a b) c q⟩
 rw [l.length] at z
 rw [zkv ds a b z] at q
 exact c o H S _ _ Ex.refl hs hx q
end
section
def zqA:R2:=fun x y H Q=>∃ a b,x = .bl a/\y = .bl b/\Q (.bl (!decide (a = b))) H
theorem zpu {X:Cx}:OpR X (compareOp .IsNot) zqA:=by
 intro zm s σ H x y v u Q I rx ry h
 obtain ⟨a,b,rfl,rfl,q⟩:=h
 cases rx
 cases ry
 exact wpAny_isNot_plain (by cases a <;> cases b <;> rfl) (zj3 I q (by cases a <;> cases b <;> rfl))
def zm7:D2:=fun x y S R=>asB x fun a=>asB y fun b=>R (.d (.bool (!decide (a = b)))) S
theorem zpK:RO zqA zm7:=fun h o H S x y v u R Q hs hx hy q c=>by
 replace q:=zgg q
 obtain ⟨a,rfl,q⟩:=q
 replace q:=zgg q
 obtain ⟨b,rfl,q⟩:=q
 exact ⟨a,b,zdM hx,zdM hy,c o H S _ _ Ex.refl hs (xB _) q⟩
end
section
theorem zlu {X:Cx} {K:W.Frag} {a:Expr} {ta:TE} (ha:PE X a ta) (he:∀ whole,isTrue a X.env whole = (do let v <- whole; standAt a.pos; holding [v] (truthy v))) (hK:X.K = K) :
  PT X a (fun σ H Q=>ta σ H fun x H'=>∃ k,TruV K x H' k/\Q k H'):=by
 subst hK
 exact zc4 ha he
@[irreducible] def QE (X:Cx) (e:Expr) (t:TE):Prop:=PE X e t
theorem QE.out {X:Cx} {e:Expr} {t:TE} (h:QE X e t):PE X e t:=by unfold QE at h; exact h
end
end L2
namespace L2
open PySem PySem.Spec PySem.Calls PyProof.Rows PySem.W
end L2
namespace L2
open PySem PySem.Spec PyProof.Rows
section
def zsT:D2:=fun x y S R=>asT x fun ds=>asT y fun es=>∃ ns,ds = ns.map PyData.int/\∃ ms,es = ms.map PyData.int/\R (.d (.bool (HT.lexLt ns ms))) S
end
section
open Sem (wp)
namespace F4
end F4
end
section
theorem zmg {X:Cx} {K:W.Frag} (hK:X.K = K):CallR X (.builtin "len") (zpX K):=by
 subst hK
 exact zaf
end
section
namespace F4
end F4
end
section
namespace F4
end F4
end
section
namespace F4
end F4
end
section
theorem zpt {X:Cx} {K:W.Frag} (hK:X.K = K):OpR X (binaryOp .Add) (zpQ K):=by
 subst hK
 exact zK
end
section
theorem HOk.stays {P:Program} {w:World} {H:Hp} {h h':Heap} (x:HOk P w H h) (k:∀ b u,H b = some u->∀ o,h.get? b = some o->h'.get? b = some o):HOk P w H h':=fun a o e =>
 (x a o e).stay (fun b u hb q=>by
  rcases hb with rfl | hb
  ·exact k _ _ e _ q
  ·exact k _ _ hb _ q) (fun _ q=>q) fun _ _ q=>q
end
end L2
namespace L2
open PySem PySem.Spec PySem.Calls PyProof.Rows PySem.W PySem.Builtin PySem.Builtin.ObjectAttr PySem.Builtin.Getset_descriptor
end L2
namespace L2
open PySem PySem.Spec PySem.Calls PyProof.Rows
end L2
namespace L2
open PySem PySem.Spec PyProof.Rows
section
abbrev EXD:=Addr->List (Str × PyData)->Prop
abbrev PX:=List XV->Sto->RX->EXD->Prop
def CnX (h o:List Addr) (H:Hp) (EX:EXD) (E:XK):Prop:=∀ o' H' S' C a fs,Ex o H o' H'->RepS h o' H' S'->HasE (vx h o' H') C fs (.ref a)->EX C fs->E (.ref C) (some a) H'
theorem CnX.pre {h o o':List Addr} {H H':Hp} {EX:EXD} {E:XK} (c:CnX h o H EX E) (e:Ex o H o' H'):CnX h o' H' EX E:=fun o2 H2 S2 C a fs e2=>c o2 H2 S2 C a fs (e.trans e2)
def RSx (E:XK) (EX:EXD) (t:TS) (dt:DS):Prop:=∀ (h o:List Addr) (H:Hp) (δ:XE) (σ:St) (S:Sto) (En:DEnds) (D:Ends),RepE h o H δ σ->RepS h o H S->dt En δ S->EOk h o H En D->CnX h o H EX E->t D σ H
section
variable {E:XK} {EX:EXD} {t u:TS} {dt du:DS}
theorem zo5 (ht:RS t dt):RSx E EX t dt:=fun h o H δ σ S En D he hs q c _=>ht h o H δ σ S En D he hs q c
end
end
section
theorem zlD {X:Cx} {K:W.Frag} (hK:X.K = K):IxR X (rIx K):=by
 subst hK
 exact zD
end
end L2
namespace L2
open PySem PySem.Spec PySem.Calls PyProof.Rows PySem.W PySem.Builtin PySem.Builtin.ObjectAttr
end L2
namespace L2
open PySem PySem.Spec PySem.Calls PyProof.Rows PySem.W
end L2
namespace L2
open PySem PySem.Spec PySem.Calls PyProof.Rows
end L2
namespace L2
open PySem PySem.Spec PySem.Calls PyProof.Rows
end L2
namespace L2
open PySem PySem.Spec PyProof.Rows
section
def zmM (EX:EXD) (C:Addr) (ns:List Str) (da:DA):DS:=fun _ δ S=>da δ S fun xs _=>∃ ds,datas xs = some ds/\ds.length = ns.length/\EX C (ns.zip ds)
end
end L2
namespace L2
open PySem PySem.Spec PySem.Calls PyProof.Rows
end L2
namespace L2
open PySem PySem.Spec PyProof.Rows
section
abbrev Phi:=List Addr->List Addr->Hp->Prop
class Stb (Φ:Phi):Prop where
 st:∀ {h o o':List Addr} {H H':Hp},Φ h o H->Ex o H o' H'->Φ h o' H'
def REp (Φ:Phi) (t:TE) (dt:DE):Prop:=∀ (h o:List Addr) (H:Hp) (δ:XE) (σ:St) (S:Sto) (R:RX) (Q:VK),RepE h o H δ σ->RepS h o H S->dt δ S R->Cn h o H R Q->Φ h o H->t σ H Q
def RTp (Φ:Phi) (t:TT) (dt:DT):Prop:=∀ (h o:List Addr) (H:Hp) (δ:XE) (σ:St) (S:Sto) (R:Bool->Sto->Prop) (Q:Bool->Hp->Prop),RepE h o H δ σ->RepS h o H S->dt δ S R ->
 (∀ o' H' S' b,Ex o H o' H'->RepS h o' H' S'->R b S'->Q b H')->Φ h o H->t σ H Q
def RAp (Φ:Phi) (t:TA) (dt:DA):Prop:=∀ (h o:List Addr) (H:Hp) (δ:XE) (σ:St) (S:Sto) (R:List XV->Sto->Prop) (Q:List V->Hp->Prop),RepE h o H δ σ->RepS h o H S->dt δ S R ->
 (∀ o' H' S' xs vs,Ex o H o' H'->RepS h o' H' S'->HasXs h o' H' xs vs->R xs S'->Q vs H')->Φ h o H->t σ H Q
def RIp (Φ:Phi) (w:TI) (di:DI):Prop:=∀ (h o:List Addr) (H:Hp) (δ:XE) (σ:St) (S:Sto) (R:List PyData->Sto->Prop) (Q:It->Hp->Prop),RepE h o H δ σ->RepS h o H S->di δ S R ->
 (∀ o' H' S' ds J,Ex o H o' H'->RepS h o' H' S'->WalkX h o' H' J ds->R ds S'->Q J H')->Φ h o H->w σ H Q
section
variable {Φ:Phi} [Stb Φ] {ta tb te:TE} {da db de:DE} {tl:TA} {dl:DA} {tt tu:TT} {dt du:DT}
theorem zdK (a:RE te de):REp Φ te de:=fun h o H δ σ S R Q he hs q c _=>a h o H δ σ S R Q he hs q c
theorem zjj (a:RT tt dt):RTp Φ tt dt:=fun h o H δ σ S R Q he hs q c _=>a h o H δ σ S R Q he hs q c
theorem zpg (a:RA tl dl):RAp Φ tl dl:=fun h o H δ σ S R Q he hs q c _=>a h o H δ σ S R Q he hs q c
theorem zjA {w:TI} {di:DI} (a:RI w di):RIp Φ w di:=fun h o H δ σ S R Q he hs q c _=>a h o H δ σ S R Q he hs q c
theorem zpP (ha:REp Φ ta da) (hb:RAp Φ tl dl):RAp Φ (zjm ta tl) (ze da dl):=fun h o H δ σ S R Q he hs q c x =>
 ha h o H δ σ S _ _ he hs q (fun o1 H1 S1 y v e1 s1 x1 d1=>hb h o1 H1 δ σ S1 _ _ (he.mono e1) s1 d1 (fun o2 H2 S2 xs vs e2 s2 x2 d2 =>
  c o2 H2 S2 (y :: xs) (v :: vs) (e1.trans e2) s2 ⟨v,vs,rfl,x1.mono e2,x2⟩ d2) (Stb.st x e1)) x
theorem zsx {r:R2} {rd:D2} (hr:RO r rd) (ha:REp Φ ta da) (hb:REp Φ tb db):REp Φ (tOp r ta tb) (dOp rd da db):=fun h o H δ σ S R Q he hs q c w =>
 ha h o H δ σ S _ _ he hs q (fun o1 H1 S1 x v e1 s1 x1 d1=>hb h o1 H1 δ σ S1 _ _ (he.mono e1) s1 d1 (fun o2 H2 S2 y u e2 s2 y2 d2 =>
  hr h o2 H2 S2 x y v u R Q s2 (x1.mono e2) y2 d2 (c.pre (e1.trans e2))) (Stb.st w e1)) w
theorem zsC {r:List V->Hp->VK->Prop} {rd:List XV->Sto->RX->Prop} (hr:RC r rd) (ha:RAp Φ tl dl):REp Φ (tCB r tl) (dCB rd dl):=fun h o H δ σ S R Q he hs q c w =>
 ha h o H δ σ S _ _ he hs q (fun o1 H1 S1 xs vs e1 s1 x1 d1=>hr h o1 H1 S1 xs vs R Q s1 x1 d1 (c.pre e1)) w
theorem zsR (ha:REp Φ ta da):RTp Φ (znH ta) (dB da):=fun h o H δ σ S R Q he hs q c w =>
 ha h o H δ σ S _ _ he hs q (fun o1 H1 S1 x v e1 s1 x1 d1=>by
  replace d1:=zgg d1
  obtain ⟨b,rfl,d1⟩:=d1
  exact ⟨b,zdM x1,c o1 H1 S1 b e1 s1 d1⟩) w
end
section
variable {E:XK} {EX:EXD} {ta tb te:TE} {da db de:DE} {tl:TA} {dl:DA} {tt tu:TT} {dt du:DT}
def zos (EX:EXD) (m:Nat) (q:PX) (da:DA):DE:=fun δ S R=>da δ S fun xs S1=>∃ ds,datas xs = some ds/\ds.length = m/\q (ds.map XV.d) [] (ret0 S1 R) EX
end
def zs4 (N P:List Str) (sc:Scope):Bool:=decide (sc.kind = .function) && !sc.isCoroutine && !sc.isGenerator && decide N.Nodup && decide (N.take P.length = P) && P.all (fun x=>decide (sc.names.lookup x = some .local) || decide (sc.names.lookup x = some .cell)) && sc.names.all fun y=>decide (y.2 ≠ .free)
theorem fsc {N P:List Str} {sc:Scope} (h:zs4 N P sc = true):FnScope N P sc:=by
 simp only [zs4,Bool.and_eq_true,decide_eq_true_eq,Bool.not_eq_true',List.all_eq_true,Bool.or_eq_true] at h
 obtain ⟨⟨⟨⟨⟨⟨h1,h2⟩,h3⟩,h4⟩,h5⟩,h6⟩,h7⟩:=h
 exact ⟨h1,h2,h3,h4,h5,h6,h7⟩
end
section
section
variable {κ α:Type} [DecidableEq κ]
def lkA (m:List (κ × α)) (k:κ):Option α:=(m.find? fun p=>decide (p.1 = k)).map (·.2)
def ptA (m:List (κ × α)) (k:κ) (v:α):List (κ × α):=if (m.any fun p=>decide (p.1 = k)) = true then m.map (fun p=>if p.1 = k then (p.1,v) else p) else m ++ [(k,v)]
def HasM (H:Hp):List (κ × PyData)->List (κ × V)->Prop
 | [],m=>m = []
 | p :: r,m=>∃ v m',m = (p.1,v) :: m'/\Has H p.2 v/\HasM H r m'
theorem HasM.mono {H H':Hp} (s:Same H H'):∀ {m:List (κ × PyData)} {m':List (κ × V)},HasM H m m'->HasM H' m m'
 | [],_,q=>q
 | p :: r,_,⟨v,t,e,q,l⟩=>⟨v,t,e,Has.mono s _ _ q,HasM.mono s l⟩
theorem HasM.length {H:Hp}:∀ {m:List (κ × PyData)} {m':List (κ × V)},HasM H m m'->m'.length = m.length
 | [],_,q=>by rw [show _ = [] from q]; rfl
 | p :: r,_,⟨v,t,e,q,l⟩=>by rw [e,List.length_cons,List.length_cons,HasM.length l]
theorem HasM.val {H:Hp} (k:κ):∀ {m:List (κ × PyData)} {m':List (κ × V)},HasM H m m'->(lkA m k = none/\zkX m' k = none)\/∃ d v,lkA m k = some d/\zkX m' k = some v/\Has H d v
 | [],m',q=>by rw [show m' = [] from q]; exact .inl ⟨rfl,rfl⟩
 | p :: r,m',⟨v,t,e,q,l⟩=>by
  subst e
  by_cases hk:p.1 = k
  ·exact .inr ⟨p.2,v,by simp [lkA,hk],zfR hk,q⟩
  ·have e1:lkA (p :: r) k = lkA r k:=by simp [lkA,hk]
   rw [e1,zfS hk]
   exact HasM.val k l
theorem HasM.any {H:Hp} (k:κ):∀ {m:List (κ × PyData)} {m':List (κ × V)},HasM H m m'->(m'.any fun p=>decide (p.1 = k)) = m.any fun p=>decide (p.1 = k)
 | [],m',q=>by rw [show m' = [] from q]; rfl
 | p :: r,m',⟨v,t,e,q,l⟩=>by
  subst e
  rw [List.any_cons,List.any_cons,HasM.any k l]
theorem HasM.sets {H:Hp} {k:κ} {d:PyData} {v:V} (hv:Has H d v):∀ {m:List (κ × PyData)} {m':List (κ × V)},HasM H m m'->HasM H (m.map fun p=>if p.1 = k then (p.1,d) else p) (m'.map fun p=>if p.1 = k then (p.1,v) else p)
 | [],m',q=>by rw [show m' = [] from q]; rfl
 | p :: r,m',⟨u,t,e,q,l⟩=>by
  subst e
  rw [List.map_cons,List.map_cons]
  by_cases hk:p.1 = k
  ·exact ⟨v,_,by simp [hk],by simpa [hk] using hv,HasM.sets hv l⟩
  ·exact ⟨u,_,by simp [hk],by simpa [hk] using q,HasM.sets hv l⟩
theorem HasM.snoc {H:Hp} {k:κ} {d:PyData} {v:V} (hv:Has H d v):∀ {m:List (κ × PyData)} {m':List (κ × V)},HasM H m m'->HasM H (m ++ [(k,d)]) (m' ++ [(k,v)])
 | [],m',q=>by rw [show m' = [] from q]; exact ⟨v,[],rfl,hv,rfl⟩
 | p :: r,m',⟨u,t,e,q,l⟩=>by subst e; exact ⟨u,_,rfl,q,HasM.snoc hv l⟩
theorem HasM.put {H:Hp} {k:κ} {d:PyData} {v:V} {m:List (κ × PyData)} {m':List (κ × V)} (l:HasM H m m') (hv:Has H d v):HasM H (ptA m k d) (ziS m' k v):=by
 unfold ptA ziS
 rw [l.any k]
 split
 ·exact l.sets hv
 ·exact l.snoc hv
end
inductive DD where
 | k (m:List (Key × PyData))
 | t (m:List (List Key × PyData))
def DD.pairs:DD->List (PyData × PyData)
 | .k m=>m.map fun p=>(kD p.1,p.2)
 | .t m=>m.map fun p=>(.tuple (p.1.map kD),p.2)
def DD.len:DD->Nat
 | .k m=>m.length
 | .t m=>m.length
def zla:PyData->Option Key
 | .int i=>some (.inl i)
 | .str x=>some (.inr x)
 | _=>none
def ziK:List PyData->Option (List Key)
 | []=>some []
 | d :: ds=>(zla d).bind fun k=>(ziK ds).map (k :: ·)
def zkW:PyData->Option (List Key)
 | .tuple ds=>ziK ds
 | _=>none
def DD.get:DD->PyData->Option (Option PyData)
 | .k m,y=>(zla y).map (lkA m)
 | .t m,y=>(zkW y).map (lkA m)
def DD.put:DD->PyData->PyData->Option DD
 | .k m,y,d=>(zla y).map fun k=>.k (ptA m k d)
 | .t m,y,d=>(zkW y).map fun k=>.t (ptA m k d)
def RAt (G H:Hp) (a:Addr):DD->Prop
 | .k m=>∃ m',Rd H a (.dK m')/\HasM G m m'
 | .t m=>∃ m',Rd H a (.dT m')/\HasM G m m'
def DAt (G H:Hp) (a:Addr):DD->Prop
 | .k m=>∃ m',H a = some (.dK m')/\HasM G m m'
 | .t m=>∃ m',H a = some (.dT m')/\HasM G m m'
theorem zhz {H:Hp} {y:PyData} {v:V} {k:Key} (e:zla y = some k) (q:Has H y v):v = kV k:=by
 cases y with
 | int i=>cases e; exact zbX.mp q
 | str x=>cases e; exact zdu.mp q
 | _=>cases e
theorem zig {H:Hp}:∀ {ds:List PyData} {vs:List V} {ks:List Key},ziK ds = some ks->HasL H ds vs->vs = ks.map kV
 | [],vs,ks,e,l=>by cases e; exact zR.mp l
 | d :: ds,vs,ks,e,l=>by
  obtain ⟨v,r,rfl,q,l⟩:=zH.mp l
  unfold ziK at e
  cases hk:zla d with
  | none=>rw [hk] at e; cases e
  | some k =>
   rw [hk,Option.bind_some] at e
   cases hs:ziK ds with
   | none=>rw [hs] at e; cases e
   | some ks' =>
    rw [hs] at e
    cases e
    rw [zhz hk q,zig hs l]
    rfl
theorem zjD {H:Hp} {y:PyData} {v:V} {ks:List Key} (e:zkW y = some ks) (q:Has H y v):∃ b,v = .ref b/\H b = some (.tup (ks.map kV)):=by
 cases y with
 | tuple ds =>
  obtain ⟨b,vs,rfl,eb,l⟩:=zaJ.mp q
  exact ⟨b,rfl,by rw [<- zig (show ziK ds = some ks from e) l]; exact eb⟩
 | _=>cases e
theorem DAt.mono {G G' H H':Hp} {a:Addr} {D:DD} (s:Same G G') (e:∀ u,H a = some u->H' a = some u) (q:DAt G H a D):DAt G' H' a D:=by
 cases D with
 | k m=>obtain ⟨m',e1,l⟩:=q; exact ⟨m',e _ e1,l.mono s⟩
 | t m=>obtain ⟨m',e1,l⟩:=q; exact ⟨m',e _ e1,l.mono s⟩
theorem DAt.rd {G H:Hp} {a:Addr} {D:DD} (q:DAt G H a D):RAt G H a D:=by
 cases D with
 | k m=>obtain ⟨m',e1,l⟩:=q; exact ⟨m',.inl e1,l⟩
 | t m=>obtain ⟨m',e1,l⟩:=q; exact ⟨m',.inl e1,l⟩
theorem DAt.mo {G H:Hp} {a:Addr} {D:DD} (q:DAt G H a D):∃ u:MO,H a = some u.ho:=by
 cases D with
 | k m=>obtain ⟨m',e1,l⟩:=q; exact ⟨.k m',e1⟩
 | t m=>obtain ⟨m',e1,l⟩:=q; exact ⟨.t m',e1⟩
def RelD (G:Hp):Option PyData->Option V->Prop
 | none,r=>r = none
 | some d,r=>∃ u,r = some u/\Has G d u
theorem RAt.get {G H:Hp} {a:Addr} {D:DD} {y:PyData} {v:V} {o:Option PyData} (sv:Same G H) (q:RAt G H a D) (hy:Has G y v) (e:D.get y = some o):∃ r,DGet H a v r/\RelD G o r:=by
 cases D with
 | k m =>
  obtain ⟨m',e1,l⟩:=q
  replace e:(zla y).map (lkA m) = some o:=e
  cases hk:zla y with
  | none=>rw [hk] at e; cases e
  | some k =>
   rw [hk] at e
   cases e
   rw [zhz hk hy]
   refine ⟨_,.inl ⟨m',k,e1,rfl,rfl⟩,?_⟩
   rcases l.val k with ⟨z1,z2⟩ | ⟨d,u,z1,z2,z3⟩
   ·rw [z1]; exact z2
   ·rw [z1]; exact ⟨u,z2,z3⟩
 | t m =>
  obtain ⟨m',e1,l⟩:=q
  replace e:(zkW y).map (lkA m) = some o:=e
  cases hk:zkW y with
  | none=>rw [hk] at e; cases e
  | some k =>
   rw [hk] at e
   cases e
   obtain ⟨b,rfl,eb⟩:=zjD hk hy
   refine ⟨_,.inr ⟨m',k,b,e1,rfl,sv _ _ eb,rfl⟩,?_⟩
   rcases l.val k with ⟨z1,z2⟩ | ⟨d,u,z1,z2,z3⟩
   ·rw [z1]; exact z2
   ·rw [z1]; exact ⟨u,z2,z3⟩
theorem DAt.put {G H:Hp} {a:Addr} {D D':DD} {y d:PyData} {v u:V} (sv:Same G H) (q:DAt G H a D) (hy:Has G y v) (hd:Has G d u) (e:D.put y d = some D') (hl:D.len < 1000) :
  ∃ x:MO,DPut H a v u (upd H a x.ho)/\∀ H',H' a = some x.ho->DAt G H' a D':=by
 cases D with
 | k m =>
  obtain ⟨m',e1,l⟩:=q
  replace e:((zla y).map fun k=>DD.k (ptA m k d)) = some D':=e
  cases hk:zla y with
  | none=>rw [hk] at e; cases e
  | some k =>
   rw [hk] at e
   cases e
   rw [zhz hk hy]
   exact ⟨.k (ziS m' k u),DPut.k e1 (by rw [l.length]; exact small1000 (Nat.le_of_lt hl)),fun H' z=>⟨_,z,l.put hd⟩⟩
 | t m =>
  obtain ⟨m',e1,l⟩:=q
  replace e:((zkW y).map fun k=>DD.t (ptA m k d)) = some D':=e
  cases hk:zkW y with
  | none=>rw [hk] at e; cases e
  | some k =>
   rw [hk] at e
   cases e
   obtain ⟨b,rfl,eb⟩:=zjD hk hy
   exact ⟨.t (ziS m' k u),DPut.t e1 (sv _ _ eb) (by rw [l.length]; exact small1000 (Nat.le_of_lt hl)),fun H' z=>⟨_,z,l.put hd⟩⟩
theorem zrJ {a b:Key} (e:kD a = kD b):a = b:=by
 cases a <;> cases b <;> cases e <;> rfl
theorem zlN {H:Hp}:∀ {m:List (Key × PyData)} {m':List (Key × V)},HasM H m m'->HasV H (m.map fun p=>(kD p.1,p.2)) (m'.map (·.2))/\m'.map (fun p=>kD p.1) = m.map fun p=>kD p.1
 | [],m',q=>by rw [show m' = [] from q]; exact ⟨zn3.mpr rfl,rfl⟩
 | p :: r,m',⟨v,t,e,q,l⟩=>by
  subst e
  obtain ⟨z1,z2⟩:=zlN l
  exact ⟨zix.mpr ⟨v,_,rfl,q,z1⟩,by rw [List.map_cons,List.map_cons,z2]⟩
theorem zk1 {H:Hp}:∀ {m:List (Key × PyData)} {m':List (Key × V)},HasV H (m.map fun p=>(kD p.1,p.2)) (m'.map (·.2))->m.map (fun p=>kD p.1) = m'.map (fun p=>kD p.1)->HasM H m m'
 | [],[],_,_=>rfl
 | [],_ :: _,_,e=>by simp at e
 | _ :: _,[],_,e=>by simp at e
 | p :: r,q :: t,h,e=>by
  rw [List.map_cons,List.map_cons] at h
  obtain ⟨v,s,e1,e2,e3⟩:=zix.mp h
  rw [List.cons.injEq] at e1
  rw [List.map_cons,List.map_cons,List.cons.injEq] at e
  have z:=zrJ e.1
  obtain ⟨q1,q2⟩:=q
  refine ⟨q2,t,by rw [z],?_,zk1 (by rw [e1.2]; exact e3) e.2⟩
  have z1:q2 = v:=e1.1
  rw [z1]
  exact e2
theorem zoT {H:Hp} {m:List (Key × PyData)} {v:V}:Has H (.dict (DD.pairs (.k m))) v ↔ ∃ a ob m',v = .ref a/\H a = some (.frz ob (.dK m'))/\HasM H m m':=by
 rw [zhq]
 constructor
 ·rintro ⟨a,vs,rfl,⟨ob,m',e,e1,e2⟩ | ⟨ob,p,m',e,e1,e2⟩,l⟩
  rotate_left
  ·cases m with
   | nil=>cases e1
   | cons q r =>
    have z:=congrArg List.head? e1
    simp only [DD.pairs,List.map_cons,List.head?_cons,Option.some.injEq] at z
    cases h:q.1 <;> rw [h] at z <;> cases z
  subst e2
  refine ⟨a,ob,m',rfl,e,zk1 l ?_⟩
  rw [<- e1]
  simp [DD.pairs]
 ·rintro ⟨a,ob,m',rfl,e,l⟩
  obtain ⟨z1,z2⟩:=zlN l
  exact ⟨a,_,rfl,.inl ⟨ob,m',e,by rw [z2]; simp [DD.pairs],rfl⟩,z1⟩
abbrev DM:=List (Addr × DD)
def ad (M:DM):List Addr:=M.map (·.1)
structure RepM (h o:List Addr) (H:Hp) (M:DM):Prop where
 nd:(ad M).Nodup
 nh:∀ a ∈ ad M,a ∉ h/\a ∉ o
 ct:∀ a D,(a,D) ∈ M->DAt (vx (h ++ ad M) o H) H a D
section
variable {h o o':List Addr} {H H':Hp} {M:DM} {S:Sto}
theorem RepM.at (r:RepM h o H M) {a:Addr} (m:a ∈ ad M):∃ D,(a,D) ∈ M/\DAt (vx (h ++ ad M) o H) H a D:=by
 obtain ⟨p,mp,e⟩:=List.mem_map.mp m
 obtain ⟨b,D⟩:=p
 cases e
 exact ⟨D,mp,r.ct _ D mp⟩
theorem RepM.mono (r:RepM h o H M) (e:Ex o H o' H'):RepM h o' H' M:=by
 have k1:∀ a ∈ ad M,∀ u,H a = some u->a ∉ o'/\H' a = some u:=fun a m u z=>e.kp a u (r.nh a m).2 z
 refine ⟨r.nd,fun a m=>⟨(r.nh a m).1,?_⟩,fun a D m=>?_⟩
 ·obtain ⟨D,_,q⟩:=r.at m
  obtain ⟨u,z⟩:=q.mo
  exact (k1 a m _ z).1
 ·exact (r.ct a D m).mono e.vx fun u z=>(k1 a (List.mem_map.mpr ⟨_,m,rfl⟩) u z).2
theorem RepM.nil:RepM h o H []:=⟨List.nodup_nil,fun a m=>(by cases m),fun a D m=>(by cases m)⟩
def zpI (M:DM) (a:Addr) (D:DD):DM:=M.map fun p=>if p.1 = a then (a,D) else p
theorem zf5 {a:Addr} {D:DD}:∀ {M:DM},ad (zpI M a D) = ad M
 | []=>rfl
 | p :: r=>by
  have z:=zf5 (a:=a) (D:=D) (M:=r)
  unfold ad zpI at z ⊢
  rw [List.map_cons,List.map_cons,List.map_cons,z]
  by_cases e:p.1 = a <;> simp [e]
theorem zgp {a:Addr} {u:HO} (m:a ∈ h):Same (vx h o H) (vx h o (upd H a u)):=fun b w e=>by
 obtain ⟨z1,z2,z3⟩:=zah.mp e
 exact zah.mpr ⟨z1,z2,by rw [zS (fun z=>z1 (by rw [z]; exact m))]; exact z3⟩
theorem HasX.view (s:Same (vx h o H) (vx h o H')):∀ {x:XV} {v:V},HasX h o H x v->HasX h o H' x v
 | .d d,v,q=>Has.mono s d v q
 | .l k,v,q=>q
 | .o w,v,q=>q
 | .x C fs,v,q=>HasE.mono s q
theorem RepE.view {δ:XE} {σ:St} (s:Same (vx h o H) (vx h o H')) (r:RepE h o H δ σ):RepE h o H' δ σ:=⟨r.len,fun i x e=>let ⟨v,e1,e2⟩:=r.get i x e; ⟨v,e1,e2.view s⟩⟩
theorem RepS.hidden {a:Addr} {u:MO} (r:RepS h o H S) (m:a ∈ h):RepS h o (L2.upd H a u.ho) S where
 len:=r.len
 nd:=r.nd
 dis:=r.dis
 hal:=fun b mb=>by
  by_cases e:b = a
  ·subst e; exact ⟨u,zav⟩
  ·obtain ⟨w,z⟩:=r.hal b mb
   exact ⟨w,by rw [zS e]; exact z⟩
 cont:=fun k b ds e1 e2=>by
  obtain ⟨vs,e3,l⟩:=r.cont k b ds e1 e2
  have ne:b ≠ a:=fun z=>r.dis b (List.mem_of_getElem? e1) (z ▸ m)
  exact ⟨vs,by rw [zS ne]; exact e3,HasL.mono (zgp m) _ _ l⟩
theorem RepM.put {a:Addr} {D D':DD} {u:MO} (r:RepM h o H M) (m:(a,D) ∈ M) (q:∀ H',H' a = some u.ho->DAt (vx (h ++ ad M) o H) H' a D'):RepM h o (L2.upd H a u.ho) (zpI M a D'):=by
 have ma:a ∈ ad M:=List.mem_map.mpr ⟨_,m,rfl⟩
 refine ⟨by rw [zf5]; exact r.nd,by rw [zf5]; exact r.nh,fun b D2 mb=>?_⟩
 rw [zf5]
 have sv:Same (vx (h ++ ad M) o H) (vx (h ++ ad M) o (L2.upd H a u.ho)):=zgp (List.mem_append_right _ ma)
 obtain ⟨p,mp,ep⟩:=List.mem_map.mp mb
 by_cases e:p.1 = a
 ·rw [if_pos e] at ep
  cases ep
  exact (q _ zav).mono sv fun _ z=>z
 ·rw [if_neg e] at ep
  subst ep
  exact (r.ct _ _ mp).mono sv fun w z=>by rw [zS e]; exact z
theorem RepS.less {l:List Addr} (r:RepS (h ++ l) o H S):RepS h o H S where
 len:=r.len
 nd:=r.nd
 dis:=fun a ma z=>r.dis a ma (List.mem_append_left _ z)
 hal:=fun b mb=>r.hal b (List.mem_append_left _ mb)
 cont:=fun k b ds e1 e2=>by
  obtain ⟨vs,e3,q⟩:=r.cont k b ds e1 e2
  exact ⟨vs,e3,HasL.mono (fun c u z=>let ⟨z1,z2,z3⟩:=zah.mp z; zah.mpr ⟨fun mm=>z1 (List.mem_append_left _ mm),z2,z3⟩) _ _ q⟩
theorem zfX {l:List Addr}:Same (vx (h ++ l) o H) (vx h o H):=fun c u z=>let ⟨z1,z2,z3⟩:=zah.mp z; zah.mpr ⟨fun mm=>z1 (List.mem_append_left _ mm),z2,z3⟩
theorem HasX.less {l:List Addr}:∀ {x:XV} {v:V},HasX (h ++ l) o H x v->HasX h o H x v
 | .d d,v,q=>Has.mono zfX d v q
 | .l k,v,q=>q
 | .o w,v,q=>q
 | .x C fs,v,q=>HasE.mono zfX q
end
end
section
structure DEndsM where
 nx:XE->Sto->DM->Prop
 rt:XV->Sto->DM->Prop
 bk:XE->Sto->DM->Prop:=fun _ _ _=>False
 ct:XE->Sto->DM->Prop:=fun _ _ _=>False
abbrev DSm:=DEndsM->XE->Sto->DM->Prop
def Fr (H:Hp) (M:DM):Prop:=∀ a ∈ ad M,H a = none
def NxM (h o:List Addr) (H:Hp) (A:List Addr) (N:XE->Sto->DM->Prop) (Y:St->Hp->Prop):Prop:=∀ o' H' δ' S' M' σ',Ex o H o' H'->ad M' = A->RepE (h ++ ad M') o' H' δ' σ'->RepS (h ++ ad M') o' H' S'->RepM h o' H' M'->N δ' S' M'->Y σ' H'
structure EOkM (h o:List Addr) (H:Hp) (A:List Addr) (E:DEndsM) (D:Ends):Prop where
 nx:NxM h o H A E.nx D.nx
 rt:∀ o' H' S' M' x v,Ex o H o' H'->ad M' = A->RepS (h ++ ad M') o' H' S'->RepM h o' H' M'->HasX (h ++ ad M') o' H' x v->E.rt x S' M'->D.rt v H'
 bk:NxM h o H A E.bk D.bk
 ct:NxM h o H A E.ct D.ct
def RSm (E:XK) (EX:EXD) (t:TS) (dt:DSm):Prop:=∀ (h o0:List Addr) (H0:Hp) (o:List Addr) (H:Hp) (δ:XE) (σ:St) (S:Sto) (M:DM) (En:DEndsM) (D:Ends),Ex o0 H0 o H->Fr H0 M->RepE (h ++ ad M) o H δ σ->RepS (h ++ ad M) o H S->RepM h o H M->dt En δ S M ->
 EOkM h o0 H0 (ad M) En D->CnX h o0 H0 EX E->t D σ H
theorem CnX.inn {E:XK} {EX:EXD} {h o0 o l:List Addr} {H0 H:Hp} (x:CnX h o0 H0 EX E) (e0:Ex o0 H0 o H):CnX (h ++ l) o H EX E:=fun o' H' S' C a fs e s' hE q=>x o' H' S' C a fs (e0.trans e) s'.less (HasE.mono zfX hE) q
def zdV (dt:DS):DSm:=fun En δ S M=>dt { nx:=fun δ' S'=>En.nx δ' S' M,rt:=fun x S'=>En.rt x S' M,bk:=fun δ' S'=>En.bk δ' S' M,ct:=fun δ' S'=>En.ct δ' S' M } δ S
def zij (t u:DSm):DSm:=fun En δ S M=>t { En with nx:=u En } δ S M
def zqs (c:DM->DT) (t u:DSm):DSm:=fun En δ S M=>c M δ S fun b S1=>if b = true then t En δ S1 M else u En δ S1 M
def zfA (g:DG) (b:DSm):List PyData->DSm
 | [],E,δ,S,M=>E.nx δ S M
 | d :: ds,E,δ,S,M=>g (.d d) δ S fun δ1 S1=>b { nx:=fun δ2 S2 M2=>zfA g b ds E δ2 S2 M2,ct:=fun δ2 S2 M2=>zfA g b ds E δ2 S2 M2,bk:=E.nx,rt:=E.rt } δ1 S1 M
def zlf (i:DM->DI) (g:DG) (b:DSm):DSm:=fun En δ S M=>i M δ S fun ds S1=>zfA g b ds En δ S1 M
def PhM (M:DM):Phi:=fun h' o H=>∃ h,h' = h ++ ad M/\RepM h o H M
instance {M:DM}:Stb (PhM M):=⟨fun ⟨h,e,r⟩ x=>⟨h,e,r.mono x⟩⟩
section
variable {E:XK} {EX:EXD} {t u:TS} {dt du:DSm}
theorem znt {ds:DS} (ht:RSx E EX t ds):RSm E EX t (zdV ds):=fun h o0 H0 o H δ σ S M En D e0 fr he hs rm q c x =>
 ht (h ++ ad M) o H δ σ S _ D he hs q ⟨fun o' H' δ' S' σ' e he' hs' n=>c.nx o' H' δ' S' M σ' (e0.trans e) rfl he' hs' (rm.mono e) n,fun o' H' S' y v e hs' hy n=>c.rt o' H' S' M y v (e0.trans e) rfl hs' (rm.mono e) hy n,
  fun o' H' δ' S' σ' e he' hs' n=>c.bk o' H' δ' S' M σ' (e0.trans e) rfl he' hs' (rm.mono e) n,fun o' H' δ' S' σ' e he' hs' n=>c.ct o' H' δ' S' M σ' (e0.trans e) rfl he' hs' (rm.mono e) n⟩ (x.inn e0)
theorem zdZ {ds:DS} (ht:RS t ds):RSm E EX t (zdV ds):=znt (zo5 ht)
theorem zhZ (ht:RSm E EX t dt) (hu:RSm E EX u du):RSm E EX (zgx t u) (zij dt du):=fun h o0 H0 o H δ σ S M En D e0 fr he hs rm q c x =>
 ht h o0 H0 o H δ σ S M _ _ e0 fr he hs rm q ⟨fun o1 H1 δ1 S1 M1 σ1 e1 ea he1 hs1 rm1 q1=>hu h o0 H0 o1 H1 δ1 σ1 S1 M1 En D e1 (by unfold Fr; rw [ea]; exact fr) he1 hs1 rm1 q1 (by rw [ea]; exact c) x,c.rt,c.bk,c.ct⟩ x
theorem zqd {tc:TT} {dc:DM->DT} (hc:∀ M,RTp (PhM M) tc (dc M)) (ht:RSm E EX t dt) (hu:RSm E EX u du):RSm E EX (zsb tc t u) (zqs dc dt du):=fun h o0 H0 o H δ σ S M En D e0 fr he hs rm q c x =>
 hc M (h ++ ad M) o H δ σ S _ _ he hs q (fun o1 H1 S1 b e1 s1 d1=>by
  cases b with
  | true=>exact zlL (ht h o0 H0 o1 H1 δ σ S1 M En D (e0.trans e1) fr (he.mono e1) s1 (rm.mono e1) (by simpa using d1) c x)
  | false=>exact zmE (hu h o0 H0 o1 H1 δ σ S1 M En D (e0.trans e1) fr (he.mono e1) s1 (rm.mono e1) (by simpa using d1) c x)) ⟨h,rfl,rm⟩
theorem zoO {wi:TI} {g:TG} {tb:TS} {di:DM->DI} {dg:DG} {db:DSm} (hi:∀ M,RIp (PhM M) wi (di M)) (hg:RG g dg) (hb:RSm E EX tb db):RSm E EX (zq2 wi g tb) (zlf di dg db):=fun h o0 H0 o H δ σ S M En D e0 fr he hs rm q c x =>
 hi M (h ++ ad M) o H δ σ S _ _ he hs q (fun o1 H1 S1 ds J e1 s1 wk d1=>by
  refine ⟨fun i m σ2 H2=>m = ds.length - i/\i <= ds.length/\∃ o2 δ2 S2 M2,Ex o0 H0 o2 H2/\ExH (h ++ ad M) o1 H1 o2 H2/\ad M2 = ad M/\RepE (h ++ ad M) o2 H2 δ2 σ2/\RepS (h ++ ad M) o2 H2 S2/\RepM h o2 H2 M2/\zfA dg db (ds.drop i) En δ2 S2 M2,
   ⟨ds.length,by simp,Nat.zero_le _,o1,δ,S1,M,e0.trans e1,ExH.refl,rfl,he.mono e1,s1,rm.mono e1,d1⟩,?_⟩
  rintro i m σ2 H2 ⟨rfl,hi,o2,δ2,S2,M2,e2,x2,ea,he2,hs2,rm2,d2⟩
  by_cases hlt:i < ds.length
  ·have ed:ds[i]? = some ds[i]:=List.getElem?_eq_getElem hlt
   rw [List.drop_eq_getElem_cons hlt] at d2
   refine .inr ⟨wk.go i _ o2 H2 x2 ed,fun σ3 H3=>∃ o3 δ3 S3 M3,Ex o0 H0 o3 H3/\ExH (h ++ ad M) o1 H1 o3 H3/\ad M3 = ad M/\RepE (h ++ ad M) o3 H3 δ3 σ3/\RepS (h ++ ad M) o3 H3 S3/\RepM h o3 H3 M3/\zfA dg db (ds.drop (i + 1)) En δ3 S3 M3,fun σ3 H3 n=>⟨ds.length - (i + 1),by omega,rfl,hlt,n⟩,fun y H3 yy=>?_⟩
   obtain ⟨s3,hx⟩:=wk.yld i _ o2 H2 y H3 S2 x2 hs2 ed yy
   have e23:Ex o2 H2 o2 H3:=Ex.of_same s3
   refine hg (h ++ ad M) o2 H3 δ2 σ2 S2 (.d ds[i]) y _ _ (he2.mono e23) (hs2.same s3) hx d2 fun o4 H4 δ4 S4 σ4 e4 he4 hs4 d4=>?_
   have e24:Ex o2 H2 o4 H4:=e23.trans e4
   have nM:∀ b u,H0 b = some u->b ∉ ad M:=fun b u z mb=>by
    rw [fr b mb] at z
    cases z
   have e04:Ex o0 H0 o4 (fun b=>if b ∈ ad M then none else H4 b):=⟨(e2.trans e24).pre,fun b u nb z=>by
    obtain ⟨z1,z2⟩:=(e2.trans e24).kp b u nb z
    exact ⟨z1,by show (if b ∈ ad M then none else H4 b) = some u; rw [if_neg (nM b u z)]; exact z2⟩⟩
   have exh:∀ {o5 H5},Ex o4 (fun b=>if b ∈ ad M then none else H4 b) o5 H5->ExH (h ++ ad M) o4 H4 o5 H5:=fun e5=>⟨e5.pre,fun b u n1 n2 z=>e5.kp b u n2 (by show (if b ∈ ad M then none else H4 b) = some u; rw [if_neg (fun mb=>n1 (List.mem_append_right _ mb))]; exact z)⟩
   have again:∀ o5 H5 δ5 S5 M5 σ5,Ex o4 (fun b=>if b ∈ ad M then none else H4 b) o5 H5->ad M5 = ad M2->RepE (h ++ ad M5) o5 H5 δ5 σ5->RepS (h ++ ad M5) o5 H5 S5->RepM h o5 H5 M5->zfA dg db (ds.drop (i + 1)) En δ5 S5 M5 ->
     ∃ o3 δ3 S3 M3,Ex o0 H0 o3 H5/\ExH (h ++ ad M) o1 H1 o3 H5/\ad M3 = ad M/\RepE (h ++ ad M) o3 H5 δ3 σ5/\RepS (h ++ ad M) o3 H5 S3/\RepM h o3 H5 M3/\zfA dg db (ds.drop (i + 1)) En δ3 S3 M3:=fun o5 H5 δ5 S5 M5 σ5 e5 a5 he5 hs5 rm5 d5 =>
    ⟨o5,δ5,S5,M5,e04.trans e5,(x2.trans e24.hid).trans (exh e5),a5.trans ea,by rw [<- ea,<- a5]; exact he5,by rw [<- ea,<- a5]; exact hs5,rm5,d5⟩
   refine hb h o4 (fun b=>if b ∈ ad M then none else H4 b) o4 H4 δ4 σ4 S4 M2 _ _ ⟨⟨[],by simp⟩,fun b u nb eb=>?_⟩ (fun a ma=>by show (if a ∈ ad M then none else H4 a) = none; rw [if_pos (by rw [<- ea]; exact ma)]) (by rw [ea]; exact he4) (by rw [ea]; exact hs4) (rm2.mono e24) d4
    ⟨again,fun o5 H5 S5 M5 y5 v5 e5 a5 hs5 rm5 hx5 q5=>c.rt o5 H5 S5 M5 y5 v5 (e04.trans e5) (a5.trans ea) hs5 rm5 hx5 q5,fun o5 H5 δ5 S5 M5 σ5 e5 a5 he5 hs5 rm5 q5=>c.nx o5 H5 δ5 S5 M5 σ5 (e04.trans e5) (a5.trans ea) he5 hs5 rm5 q5,again⟩ (x.pre e04)
   refine ⟨nb,?_⟩
   by_cases mb:b ∈ ad M
   ·simp [mb] at eb
   ·simpa [mb] using eb
  ·have ei:i = ds.length:=by omega
   subst ei
   rw [List.drop_length] at d2
   exact .inl ⟨wk.stop _ o2 H2 x2 (Nat.le_refl _),c.nx o2 H2 δ2 S2 M2 σ2 e2 ea (by rw [ea]; exact he2) (by rw [ea]; exact hs2) rm2 d2⟩) ⟨h,rfl,rm⟩
end
end
section
section
variable {h h' o:List Addr} {H H':Hp}
theorem HasX.to (s:Same (vx h o H) (vx h' o H')):∀ {x:XV} {v:V},HasX h o H x v->HasX h' o H' x v
 | .d d,v,q=>Has.mono s d v q
 | .l k,v,q=>q
 | .o w,v,q=>q
 | .x C fs,v,q=>HasE.mono s q
theorem RepE.to {δ:XE} {σ:St} (s:Same (vx h o H) (vx h' o H')) (r:RepE h o H δ σ):RepE h' o H' δ σ:=⟨r.len,fun i x e=>let ⟨v,e1,e2⟩:=r.get i x e; ⟨v,e1,e2.to s⟩⟩
end
def zrD (a:Addr) (m:List (Key × PyData)):XV->XV
 | .o (.ref b)=>if b = a then .d (.dict (DD.pairs (.k m))) else .o (.ref b)
 | x=>x
theorem zrh {h h' o:List Addr} {H H':Hp} {a:Addr} {m:List (Key × PyData)} {m':List (Key × V)} {ob:Obj} (s:Same (vx h o H) (vx h' o H')) (e:vx h' o H' a = some (.frz ob (.dK m'))) (l:HasM (vx h o H) m m'):∀ {x:XV} {v:V},HasX h o H x v->HasX h' o H' (zrD a m x) v
 | .d d,v,z=>Has.mono s d v z
 | .l k,v,z=>z
 | .x C fs,v,z=>HasE.mono s z
 | .o w,v,z=>by
  cases w with
  | ref b =>
   unfold zrD
   dsimp only
   split
   ·rename_i eb
    subst eb
    rw [show v = .ref b from z]
    exact zoT.mpr ⟨b,ob,m',rfl,e,l.mono s⟩
   ·exact z
  | _=>exact z
theorem zm9 {h h' o:List Addr} {H H':Hp} {a:Addr} {m:List (Key × PyData)} {m':List (Key × V)} {ob:Obj} {δ:XE} {σ:St} (s:Same (vx h o H) (vx h' o H')) (e:vx h' o H' a = some (.frz ob (.dK m'))) (l:HasM (vx h o H) m m') (r:RepE h o H δ σ):RepE h' o H' (δ.map (Option.map (zrD a m))) σ:=by
 refine ⟨by rw [List.length_map]; exact r.len,fun i x ex=>?_⟩
 rw [List.getElem?_map] at ex
 cases hd:δ[i]? with
 | none=>rw [hd] at ex; cases ex
 | some y =>
  rw [hd] at ex
  cases y with
  | none=>cases ex
  | some y =>
   cases ex
   obtain ⟨v,e1,e2⟩:=r.get i y hd
   exact ⟨v,e1,zrh s e l e2⟩
theorem zaF {M:DM} {a:Addr} {D:DD}:ad (M ++ [(a,D)]) = ad M ++ [a]:=by simp [ad]
theorem RepM.init {h o:List Addr} {H:Hp} {M:DM} {a:Addr} {D:DD} (r:RepM h o H (M ++ [(a,D)])):RepM h o H M:=by
 have nd:=r.nd
 rw [zaF] at nd
 refine ⟨(List.nodup_append.mp nd).1,fun b m=>r.nh b (by rw [zaF]; exact List.mem_append_left _ m),fun b D2 m=>?_⟩
 have z:=r.ct b D2 (List.mem_append_left _ m)
 rw [zaF,<- List.append_assoc] at z
 exact z.mono zfX fun _ z=>z
def zmm (f:Bool) (i:Nat) (D0:DD) (b:DSm):DSm:=fun En δ S M=>∀ a,a ∉ ad M->b { nx:=(fun δ' S' M'=>if f = true then (∃ M1 m,M' = M1 ++ [(a,.k m)]/\δ'[i]? = some (some (.o (.ref a)))/\En.nx (δ'.map (Option.map (zrD a m))) S' M1) else (∃ M1 D,M' = M1 ++ [(a,D)]/\En.nx δ' S' M1)),rt:=(fun x S' M'=>∃ M1 D,M' = M1 ++ [(a,D)]/\En.rt x S' M1),bk:=(fun δ' S' M'=>∃ M1 D,M' = M1 ++ [(a,D)]/\En.bk δ' S' M1),ct:=(fun δ' S' M'=>∃ M1 D,M' = M1 ++ [(a,D)]/\En.ct δ' S' M1) } (δ.set i (some (.o (.ref a)))) S (M ++ [(a,D0)])
section
variable {E:XK} {EX:EXD} {tb:TS} {db:DSm} {i:Nat}
theorem znG {f:Bool} {u:MO} {D0:DD} (hD:∀ (G H:Hp) a,H a = some u.ho->DAt G H a D0) (hb:RSm E EX tb db) {h o0:List Addr} {H0:Hp} {o:List Addr} {H:Hp} {δ:XE} {σ:St} {S:Sto} {M:DM} {En:DEndsM} {D:Ends} (e0:Ex o0 H0 o H) (fr:Fr H0 M) (he:RepE (h ++ ad M) o H δ σ) (hs:RepS (h ++ ad M) o H S) (rm:RepM h o H M)
  (q:zmm f i D0 db En δ S M) (c:EOkM h o0 H0 (ad M) En D) (x:CnX h o0 H0 EX E) (p:Addr) (hp:H p = none):(if f = true then ztv i tb else tb) D (σ.set i (some (.ref p))) (upd H p u.ho):=by
 have nM:p ∉ ad M:=fun m=>by
  obtain ⟨D2,_,z⟩:=rm.at m
  obtain ⟨w,ew⟩:=z.mo
  rw [hp] at ew
  cases ew
 have f1:=hs.fresh hp
 have nh:p ∉ h:=fun m=>f1.1 (List.mem_append_left _ m)
 have sH:Same H (upd H p u.ho):=Same.laid hp
 have e1:Ex o0 H0 o (upd H p u.ho):=e0.trans (Ex.of_same sH)
 have H0p:H0 p = none:=by
  cases z:H0 p with
  | none=>rfl
  | some w =>
   by_cases m:p ∈ o0
   ·obtain ⟨r,er⟩:=e0.pre
    exact absurd (show p ∈ o by rw [er]; exact List.mem_append_left _ m) f1.2
   ·have:=(e0.kp p w m z).2
    rw [hp] at this
    cases this
 have sv:Same (vx (h ++ ad M) o H) (vx (h ++ (ad M ++ [p])) o (upd H p u.ho)):=fun b w z=>by
  obtain ⟨z1,z2,z3⟩:=zah.mp z
  have ne:b ≠ p:=zO z3 hp
  refine zah.mpr ⟨fun m=>?_,z2,by rw [zS ne]; exact z3⟩
  rw [<- List.append_assoc] at m
  rcases List.mem_append.mp m with m | m
  ·exact z1 m
  ·exact ne (List.mem_singleton.mp m)
 have sM:RepS (h ++ ad (M ++ [(p,D0)])) o (upd H p u.ho) S:=by
  rw [zaF]
  refine ⟨hs.len,hs.nd,fun a ma z=>?_,fun b mb=>?_,fun k b ds e1 e2=>?_⟩
  ·rw [<- List.append_assoc] at z
   rcases List.mem_append.mp z with z | z
   ·exact hs.dis a ma z
   ·rw [List.mem_singleton.mp z] at ma
    exact f1.2 ma
  ·rw [<- List.append_assoc] at mb
   rcases List.mem_append.mp mb with m | m
   ·obtain ⟨w,ew⟩:=hs.hal b m
    exact ⟨w,sH _ _ ew⟩
   ·rw [List.mem_singleton.mp m]
    exact ⟨u,zav⟩
  ·obtain ⟨vs,e3,l⟩:=hs.cont k b ds e1 e2
   exact ⟨vs,sH _ _ e3,HasL.mono sv _ _ l⟩
 have mM:RepM h o (upd H p u.ho) (M ++ [(p,D0)]):=by
  refine ⟨by rw [zaF]; exact zdt rm.nd nM,fun a ma=>?_,fun a D2 m=>?_⟩
  ·rw [zaF] at ma
   rcases List.mem_append.mp ma with m | m
   ·exact rm.nh a m
   ·rw [List.mem_singleton.mp m]
    exact ⟨nh,f1.2⟩
  ·rw [zaF]
   rcases List.mem_append.mp m with m | m
   ·exact (rm.ct a D2 m).mono sv fun w z=>sH _ _ z
   ·have:=List.mem_singleton.mp m
    cases this
    exact hD _ _ _ zav
 have hE:RepE (h ++ ad (M ++ [(p,D0)])) o (upd H p u.ho) (δ.set i (some (.o (.ref p)))) (σ.set i (some (.ref p))):=by
  rw [zaF]
  exact (he.to sv).set (show HasX _ _ _ (.o (.ref p)) (.ref p) from rfl)
 have fr1:Fr H0 (M ++ [(p,D0)]):=fun a ma=>by
  rw [zaF] at ma
  rcases List.mem_append.mp ma with m | m
  ·exact fr a m
  ·rw [List.mem_singleton.mp m]; exact H0p
 have back:∀ {N:XE->Sto->DM->Prop} {Y:St->Hp->Prop},NxM h o0 H0 (ad M) N Y->NxM h o0 H0 (ad (M ++ [(p,D0)])) (fun δ' S' M'=>∃ M1 D,M' = M1 ++ [(p,D)]/\N δ' S' M1) Y:=fun {N Y} nx o' H' δ' S' M' σ' ex ea hE' hS' hM' ⟨M1,D2,eM,n⟩=>by
  subst eM
  rw [zaF,zaF] at ea
  rw [zaF,<- List.append_assoc] at hE' hS'
  exact nx o' H' _ S' M1 σ' ex (List.append_inj_left' ea rfl) (hE'.to zfX) hS'.less hM'.init n
 have ret:∀ o' H' S' M' y v,Ex o0 H0 o' H'->ad M' = ad (M ++ [(p,D0)])->RepS (h ++ ad M') o' H' S'->RepM h o' H' M'->HasX (h ++ ad M') o' H' y v->(∃ M1 D,M' = M1 ++ [(p,D)]/\En.rt y S' M1)->D.rt v H':=by
  rintro o' H' S' M' y v ex ea hS' hM' hx' ⟨M1,D2,eM,n⟩
  subst eM
  rw [zaF,zaF] at ea
  rw [zaF,<- List.append_assoc] at hx' hS'
  exact c.rt o' H' S' M1 _ v ex (List.append_inj_left' ea rfl) hS'.less hM'.init hx'.less n
 have qq:=q p nM
 cases f with
 | false =>
  refine hb h o0 H0 o _ _ _ S (M ++ [(p,D0)]) _ D e1 fr1 hE sM mM qq ⟨?_,ret,back c.bk,back c.ct⟩ x
  exact fun o' H' δ' S' M' σ' ex ea hE' hS' hM' n=>back c.nx o' H' δ' S' M' σ' ex ea hE' hS' hM' (by simpa using n)
 | true =>
  refine hb h o0 H0 o _ _ _ S (M ++ [(p,D0)]) _ { D with nx:=fun σ' H'=>∃ a m,σ'[i]? = some (some (.ref a))/\H' a = some (.dK m)/\∀ ob,D.nx σ' (upd H' a (.frz ob (.dK m))) } e1 fr1 hE sM mM qq ⟨?_,ret,back c.bk,back c.ct⟩ x
  intro o' H' δ' S' M' σ' ex ea hE' hS' hM' n
  obtain ⟨M1,m,eM,ei,n2⟩:∃ M1 m,M' = M1 ++ [(p,DD.k m)]/\δ'[i]? = some (some (.o (.ref p)))/\En.nx (δ'.map (Option.map (zrD p m))) S' M1:=by simpa using n
  subst eM
  obtain ⟨v,ev,hv⟩:=hE'.get i _ ei
  have evp:v = .ref p:=hv
  subst evp
  have nn:=hM'.nh p (by rw [zaF]; simp)
  have nd:=hM'.nd
  rw [zaF,zaF] at ea
  rw [zaF] at nd
  have pn:p ∉ ad M1:=fun m=>(List.nodup_append.mp nd).2.2 p m p (by simp) rfl
  obtain ⟨m',em,l⟩:=hM'.ct p (.k m) (by simp)
  refine ⟨p,m',ev,em,fun ob=>?_⟩
  have np:p ∉ h ++ ad M1:=fun z=>(List.mem_append.mp z).elim nn.1 pn
  have s2:Same (vx (h ++ ad (M1 ++ [(p,DD.k m)])) o' H') (vx (h ++ ad M1) o' (upd H' p (.frz ob (.dK m')))):=fun b w z=>by
   obtain ⟨z1,z2,z3⟩:=zah.mp z
   rw [zaF,<- List.append_assoc] at z1
   have ne:b ≠ p:=fun z=>z1 (by rw [z]; simp)
   exact zah.mpr ⟨fun mm=>z1 (List.mem_append_left _ mm),z2,by rw [zS ne]; exact z3⟩
  refine c.nx o' _ _ S' M1 σ' ⟨ex.pre,fun b w nb zb=>?_⟩ (List.append_inj_left' ea rfl) (zm9 s2 (zah.mpr ⟨np,nn.2,zav⟩) l hE') ?_ ?_ n2
  ·obtain ⟨z1,z3⟩:=ex.kp b w nb zb
   exact ⟨z1,by rw [zS (fun z=>by rw [z,H0p] at zb; cases zb)]; exact z3⟩
  ·refine ⟨hS'.len,hS'.nd,fun a ma z=>hS'.dis a ma (by rw [zaF,<- List.append_assoc]; exact List.mem_append_left _ z),fun b mb=>?_,fun k b ds q1 q2=>?_⟩
   ·obtain ⟨w,ew⟩:=hS'.hal b (by rw [zaF,<- List.append_assoc]; exact List.mem_append_left _ mb)
    exact ⟨w,by rw [zS (fun z=>np (by rw [<- z]; exact mb))]; exact ew⟩
   ·obtain ⟨vs,q3,l3⟩:=hS'.cont k b ds q1 q2
    exact ⟨vs,by rw [zS (fun z=>nn.2 (by rw [<- z]; exact List.mem_of_getElem? q1))]; exact q3,HasL.mono s2 _ _ l3⟩
  ·have r1:=hM'.init
   refine ⟨r1.nd,r1.nh,fun b D3 mb=>?_⟩
   have nb:b ≠ p:=fun z=>pn (by rw [<- z]; exact List.mem_map.mpr ⟨_,mb,rfl⟩)
   exact (hM'.ct b D3 (List.mem_append_left _ mb)).mono s2 fun w z=>by rw [zS nb]; exact z
theorem zpH (hb:RSm E EX tb db):RSm E EX (zgx (zr7 zoG (zjb i)) tb) (zmm false i (.t []) db):=fun h o0 H0 o H δ σ S M En D e0 fr he hs rm q c x p hp =>
 znG (f:=false) (D0:=.t []) (u:=.t []) (fun G H a z=>⟨[],z,rfl⟩) hb e0 fr he hs rm q c x p hp
def zrk (dt:DSm):DS:=fun En δ S=>dt { nx:=fun δ' S' _=>En.nx δ' S',rt:=fun x S' _=>En.rt x S',bk:=fun δ' S' _=>En.bk δ' S',ct:=fun δ' S' _=>En.ct δ' S' } δ S []
theorem zqi {t:TS} {dt:DSm} (ht:RSm E EX t dt):RSx E EX t (zrk dt):=fun h o H δ σ S En D he hs q c x=>by
 have z:h ++ ad [] = h:=List.append_nil _
 have nx:∀ {N:XE->Sto->Prop} {Y:St->Hp->Prop},Nx h o H N Y->NxM h o H (ad []) (fun δ' S' _=>N δ' S') Y:=fun {N Y} n o' H' δ' S' M' σ' ex ea he' hs' _ q'=>by
  rw [ea,z] at he' hs'
  exact n o' H' δ' S' σ' ex he' hs' q'
 refine ht h o H o H δ σ S [] _ D Ex.refl (fun a m=>by cases m) (by rw [z]; exact he) (by rw [z]; exact hs) RepM.nil q ⟨nx c.nx,?_,nx c.bk,nx c.ct⟩ x
 rintro o' H' S' M' y v ex ea hs' _ hx' q'
 rw [ea,z] at hs' hx'
 exact c.rt o' H' S' y v ex hs' hx' q'
theorem zpf {t:TS} {dt:DSm} (ht:RSm E0 (fun _ _=>False) t dt):RS t (zrk dt):=fun h o H δ σ S En D he hs q c=>zqi ht h o H δ σ S En D he hs q c fun _ _ _ _ _ _ _ _ _ z=>z.elim
end
end
section
def ROp (Φ:Phi) (r:R2) (rd:D2):Prop:=∀ (h o:List Addr) (H:Hp) (S:Sto) (x y:XV) (v u:V) (R:RX) (Q:VK),Φ h o H->RepS h o H S->HasX h o H x v->HasX h o H y u->rd x y S R->Cn h o H R Q->r v u H Q
section
variable {Φ:Phi} [Stb Φ] {ta tb:TE} {da db:DE}
theorem zlZ {r:R2} {rd:D2} (hr:ROp Φ r rd) (ha:REp Φ ta da) (hb:REp Φ tb db):REp Φ (tOp r ta tb) (dOp rd da db):=fun h o H δ σ S R Q he hs q c w =>
 ha h o H δ σ S _ _ he hs q (fun o1 H1 S1 x v e1 s1 x1 d1=>hb h o1 H1 δ σ S1 _ _ (he.mono e1) s1 d1 (fun o2 H2 S2 y u e2 s2 y2 d2 =>
  hr h o2 H2 S2 x y v u R Q (Stb.st w (e1.trans e2)) s2 (x1.mono e2) y2 d2 (c.pre (e1.trans e2))) (Stb.st w e1)) w
theorem zqH {tt:TT} {dt:DT} (ha:RTp Φ tt dt):RTp Φ (zss tt) (zmS dt):=fun h o H δ σ S R Q he hs q c w=>ha h o H δ σ S _ _ he hs q (fun o1 H1 S1 b e1 s1 d1=>c o1 H1 S1 _ e1 s1 d1) w
theorem zqS {tt tu:TT} {dt du:DT} (ha:RTp Φ tt dt) (hb:RTp Φ tu du):RTp Φ (tOr tt tu) (dOr dt du):=fun h o H δ σ S R Q he hs q c w =>
 ha h o H δ σ S _ _ he hs q (fun o1 H1 S1 b e1 s1 d1=>by
  cases b with
  | true=>exact zlL (c o1 H1 S1 _ e1 s1 (by simpa using d1))
  | false=>exact zmE (hb h o1 H1 δ σ S1 _ _ (he.mono e1) s1 (by simpa using d1) (fun o2 H2 S2 b e2=>c o2 H2 S2 b (e1.trans e2)) (Stb.st w e1))) w
end
def IsDD (M:DM) (x:XV) (D:DD):Prop:=(∃ a,x = .o (.ref a)/\(a,D) ∈ M)\/∃ m,D = .k m/\x = .d (.dict (DD.pairs (.k m)))
theorem zpS {M:DM} {h o:List Addr} {H:Hp} {x:XV} {D:DD} {v:V} (φ:PhM M h o H) (q:IsDD M x D) (hx:HasX h o H x v):∃ a,v = .ref a/\RAt (vx h o H) H a D:=by
 rcases q with ⟨a,rfl,m⟩ | ⟨m,rfl,rfl⟩
 ·obtain ⟨h0,rfl,rm⟩:=φ
  exact ⟨a,hx,(rm.ct a D m).rd⟩
 ·obtain ⟨a,ob,m',rfl,e,l⟩:=zoT.mp (show Has _ _ v from hx)
  exact ⟨a,rfl,m',.inr ⟨ob,zaE _ _ e⟩,l⟩
def zsO (n:Bool):R2:=fun y x H Q=>∃ a o,x = .ref a/\DGet H a y o/\Q (.bl (if n = true then !o.isSome else o.isSome)) H
theorem zqv {X:Cx} (hu:X.A.units + 64 < cLine):OpR X (compareOp .In) (zsO false):=fun zm s σ H y x v u Q I ry rx ⟨a,o,e,g,q⟩=>by
 subst e
 obtain rfl:u = Value.ref a:=rx
 exact ztt (by omega) I g ry fun s3 I3=>⟨.bl o.isSome,H,I3,rfl,q⟩
theorem ziQ {X:Cx} (hu:X.A.units + 64 < cLine):OpR X (compareOp .NotIn) (zsO true):=fun zm s σ H y x v u Q I ry rx ⟨a,o,e,g,q⟩=>by
 subst e
 obtain rfl:u = Value.ref a:=rx
 exact zp5 (by omega) I g ry fun s3 I3=>⟨.bl (!o.isSome),H,I3,rfl,q⟩
def zqq (M:DM) (n:Bool):D2:=fun y x S R=>asD y fun k=>∃ D o,IsDD M x D/\D.get k = some o/\R (.d (.bool (if n = true then !o.isSome else o.isSome))) S
theorem zpc {G:Hp} {o:Option PyData} {r:Option V} (q:RelD G o r):r.isSome = o.isSome:=by
 cases o with
 | none=>rw [show r = none from q]; rfl
 | some d=>obtain ⟨u,rfl,_⟩:=q; rfl
theorem zlx {M:DM} {n:Bool}:ROp (PhM M) (zsO n) (zqq M n):=fun h o H S y x v u R Q φ hs hy hx q c=>by
 obtain ⟨k,rfl,D,r,hD,e,q⟩:=ze5 q
 obtain ⟨a,rfl,da⟩:=zpS φ hD hx
 obtain ⟨r',g,rr⟩:=da.get zaE hy e
 refine ⟨a,r',rfl,g,?_⟩
 rw [zpc rr]
 exact c o H S _ _ Ex.refl hs (xB _) q
def zm2 (j:Nat) (dk dv:DM->DE):DSm:=fun En δ S M=>dv M δ S fun x S1=>asD x fun d=>zp j δ S1 fun y S2=>∃ a,y = .o (.ref a)/\dk M δ S2 fun z S3=>asD z fun k=>∃ D D',(a,D) ∈ M/\D.put k d = some D'/\D.len < 1000/\En.nx δ S3 (zpI M a D')
theorem zqM {E:XK} {EX:EXD} {j:Nat} {ty tv:TE} {dk dv:DM->DE} (hk:∀ M,REp (PhM M) ty (dk M)) (hv:∀ M,REp (PhM M) tv (dv M)):RSm E EX (zrr (zmR j) ty tv) (zm2 j dk dv):=fun h o0 H0 o H δ σ S M En D e0 fr he hs rm q c x =>
 hv M (h ++ ad M) o H δ σ S _ _ he hs q (fun o1 H1 S1 y v e1 s1 x1 d1=>by
  obtain ⟨d,rfl,y1,ey,a,rfl,d2⟩:=ze5 d1
  have he1:=he.mono e1
  obtain ⟨v1,ev,hv1⟩:=he1.get j _ ey
  have ev1:v1 = .ref a:=hv1
  subst ev1
  refine ⟨_,ev,hk M (h ++ ad M) o1 H1 δ σ S1 _ _ he1 s1 d2 (fun o2 H2 S2 z u e2 s2 z2 d3=>?_) ⟨h,rfl,rm.mono e1⟩⟩
  obtain ⟨k,rfl,D1,D2,mD,eD,hl,n⟩:=ze5 d3
  have e12:=e1.trans e2
  have rm2:=rm.mono e12
  have ma:a ∈ ad M:=List.mem_map.mpr ⟨_,mD,rfl⟩
  obtain ⟨w,pt,fin⟩:=(rm2.ct a D1 mD).put zaE z2 (x1.mono e2) eD hl
  have mh:a ∈ h ++ ad M:=List.mem_append_right _ ma
  refine ⟨a,_,rfl,pt,c.nx o2 _ δ S2 (zpI M a D2) σ ⟨(e0.trans e12).pre,fun b w' nb zb=>?_⟩ zf5 ?_ ?_ (rm2.put mD fin) n⟩
  ·obtain ⟨z1,z3⟩:=(e0.trans e12).kp b w' nb zb
   exact ⟨z1,by rw [zS (fun z=>by rw [z,fr a ma] at zb; cases zb)]; exact z3⟩
  ·rw [zf5]
   exact (he1.mono e2).view (zgp mh)
  ·rw [zf5]
   exact s2.hidden mh) ⟨h,rfl,rm⟩
theorem zqb {t t':TS} {d:DS} (h:RS t d) (e:t' = t:=by rfl):RS t' d:=e ▸ h
end
end L2
namespace L2
open PySem PySem.Spec PySem.Calls PyProof.Rows
def DD.itemsD (m:List (Key × PyData)):List PyData:=m.map fun p=>.tuple [kD p.1,p.2]
def zlw (e:DE):DI:=fun δ S R=>e δ S fun x S1=>∃ m,x = .d (.dict (DD.pairs (.k m)))/\R (DD.itemsD m) S1
end L2
namespace L2
open PySem PySem.Spec PyProof.Rows
end L2
namespace HT
open PySem PyProof.Rows
end HT
namespace L2
open PySem PySem.Spec PyProof.Rows
end L2
namespace L2
open PySem PySem.Spec PySem.Calls PyProof.Rows
end L2
namespace HT
open PySem PyProof.Rows
end HT
namespace L2
open PySem PySem.Spec PySem.Calls PyProof.Rows
end L2
namespace HT
open PySem PyProof.Rows
end HT
namespace L2
open PySem PySem.Spec PySem.Calls PyProof.Rows
end L2
namespace L2
open PySem PySem.Spec PyProof.Rows
end L2
namespace L2
open PySem PyProof.Rows
section
variable {prog:Program} {w:World} {A:Around} {E:Value->Shared->Prop} {s:Shared} {kd:SortKind} {D:Keyed->Prop} {lt:Keyed->Keyed->Bool}
def flt (lt:Keyed->Keyed->Bool):Keyed->Keyed->Bool:=fun x y=>lt y x
def G (xs:Array Keyed) (i:Nat):Keyed:=(xs[i]?).getD (.none,.none)
end
end L2
namespace L2
open PySem PySem.Spec PySem.Calls PyProof.Rows PySem.W
def zoK:List XV->Sto->RX->Prop:=fun xs S R=>arg1 xs fun x=>∃ m:List (Key × PyData),x = .d (.dict (DD.pairs (.k m)))/\∃ ns:List Int,m.map (·.1) = ns.map Sum.inl/\ns.length <= 10000000/\∀ ms:List Int,ms.Perm ns->ms.Pairwise (· <= ·)->R (.d (.list (ms.map PyData.int))) S
end L2
namespace L2
open PySem PySem.Spec PyProof.Rows
end L2
namespace L2
open PySem PySem.Spec PySem.Calls PyProof.Rows
end L2
namespace L2
open PySem PySem.Spec PySem.Calls PyProof.Rows
def zr9 (j:Nat) (dk dv:DM->DE):DSm:=fun En δ S M=>zp j δ S fun y S1=>∃ a m,y = .o (.ref a)/\(a,DD.k m) ∈ M/\dk M δ S1 fun z S2=>dv M δ S2 fun x S3=>asD z fun k=>asD x fun d=>∃ kk,zla k = some kk/\m.length < 1000/\if (lkA m kk).isSome = true then En.nx δ S3 M else En.nx δ S3 (zpI M a (.k (ptA m kk d)))
def zoP (k:Int) (e:DE):DE:=fun δ S R=>e δ S fun x S1=>asD x fun d=>R (.d (.dict [(.int k,d)])) S1
end L2
namespace L2
open PySem PySem.Spec PySem.Calls PyProof.Rows
end L2
namespace L2
open PySem PySem.Spec PyProof.Rows
end L2
namespace L2
theorem len0 {α:Type} {l:List α} (h:l.length = 0):l = []:=List.eq_nil_of_length_eq_zero h
theorem len1 {α:Type} {l:List α} (h:l.length = 1):∃ a0,l = [a0]:=by
 cases l with
 | nil=>cases h
 | cons x r =>
  obtain rfl:=len0 (Nat.succ.inj h)
  exact ⟨x,rfl⟩
theorem len2 {α:Type} {l:List α} (h:l.length = 2):∃ a0 a1,l = [a0,a1]:=by
 cases l with
 | nil=>cases h
 | cons x r =>
  obtain ⟨a1,rfl⟩:=len1 (Nat.succ.inj h)
  exact ⟨x,a1,rfl⟩
theorem len3 {α:Type} {l:List α} (h:l.length = 3):∃ a0 a1 a2,l = [a0,a1,a2]:=by
 cases l with
 | nil=>cases h
 | cons x r =>
  obtain ⟨a1,a2,rfl⟩:=len2 (Nat.succ.inj h)
  exact ⟨x,a1,a2,rfl⟩
theorem len4 {α:Type} {l:List α} (h:l.length = 4):∃ a0 a1 a2 a3,l = [a0,a1,a2,a3]:=by
 cases l with
 | nil=>cases h
 | cons x r =>
  obtain ⟨a1,a2,a3,rfl⟩:=len3 (Nat.succ.inj h)
  exact ⟨x,a1,a2,a3,rfl⟩
theorem len5 {α:Type} {l:List α} (h:l.length = 5):∃ a0 a1 a2 a3 a4,l = [a0,a1,a2,a3,a4]:=by
 cases l with
 | nil=>cases h
 | cons x r =>
  obtain ⟨a1,a2,a3,a4,rfl⟩:=len4 (Nat.succ.inj h)
  exact ⟨x,a1,a2,a3,a4,rfl⟩
end L2
namespace L2
open PySem PySem.Spec PyProof.Rows
end L2
namespace L2
open PySem PySem.Spec PySem.Calls PyProof.Rows
open Sem (wp)
def zrC (a:DA):DE:=fun δ S R=>a δ S fun xs S1=>arg2 xs fun x y=>∃ ds,zkh x = some ds/\∃ es,zkh y = some es/\min ds.length es.length <= 1000/\R (.d (.list (zhP ds es))) S1
end L2
namespace L2
open PySem PySem.Spec PyProof.Rows
section
section
variable {Φ:Phi} [Stb Φ] {ta tb te:TE} {da db de:DE}
theorem zkS {caps:List (Option Nat)} {wi:TI} {g:TG} {tt:TT} {te:TE} {di:DI} {dg:DG} {dtt:DT} {dte:DE} (hi:RIp Φ wi di) (hg:RG g dg) (ht:RTp Φ tt dtt) (he':REp Φ te dte)
  {h o:List Addr} {H:Hp} {δ:XE} {σ:St} {S:Sto} {Q:VK} {fin:Nat->Sto->Prop} (w:Φ h o H) (he:RepE h o H δ σ) (hs:RepS h o H S) (q:di δ S fun ds S1=>zeL S1.length dg dtt dte (fin S1.length) ds (znS caps δ) (S1 ++ [[]]))
  (c:∀ o1 H1 D o2 H2 S2,Ex o H o1 H1->H1 D = none->Ex (o1 ++ [D]) (upd H1 D (.lst [])) o2 H2->RepS h o2 H2 S2->fin o1.length S2->Q (.ref D) H2):zjl caps wi g tt te σ H Q:=by
 refine hi h o H δ σ S _ _ he hs q (fun o1 H1 S1 ds J e1 s1 wk d1 D hD=>?_) w
 have eN:Ex o1 H1 (o1 ++ [D]) (upd H1 D (.lst [])):=Ex.new s1 hD
 have sN:RepS h (o1 ++ [D]) (upd H1 D (.lst [])) (S1 ++ [[]]):=s1.new hD (zR.mpr rfl)
 have hn:S1.length = o1.length:=s1.len
 refine ⟨fun i m τ H2=>m = ds.length - i/\i <= ds.length/\∃ o2 δ2 S2,Ex (o1 ++ [D]) (upd H1 D (.lst [])) o2 H2/\RepE h o2 H2 δ2 τ/\RepS h o2 H2 S2/\zeL S1.length dg dtt dte (fin S1.length) (ds.drop i) δ2 S2,⟨ds.length,by simp,Nat.zero_le _,_,_,_,Ex.refl,((he.mono e1).mono eN).tau,sN,d1⟩,?_⟩
 rintro i m τ H2 ⟨rfl,hi,o2,δ2,S2,e2,he2,hs2,d2⟩
 by_cases hlt:i < ds.length
 ·have ed:ds[i]? = some ds[i]:=List.getElem?_eq_getElem hlt
  rw [List.drop_eq_getElem_cons hlt] at d2
  refine .inr ⟨wk.go i _ o2 H2 (eN.trans e2).hid ed,fun x H3 y=>?_⟩
  obtain ⟨s3,hx⟩:=wk.yld i _ o2 H2 x H3 S2 (eN.trans e2).hid hs2 ed y
  have e23:Ex o2 H2 o2 H3:=Ex.of_same s3
  refine hg h o2 H3 δ2 τ S2 (.d ds[i]) x _ _ (he2.mono e23) (hs2.same s3) hx d2 fun o4 H4 δ4 S4 τ4 e4 he4 hs4 d4=>?_
  refine ht h o4 H4 δ4 τ4 S4 _ _ he4 hs4 d4 (fun o5 H5 S5 b e5 s5 d5=>?_) (Stb.st w (e1.trans (eN.trans ((e2.trans e23).trans e4))))
  have e15:=((e2.trans e23).trans e4).trans e5
  cases b with
  | false=>exact zmE ⟨ds.length - (i + 1),by omega,rfl,hlt,o5,δ4,S5,e15,he4.mono e5,s5,by simpa using d5⟩
  | true =>
   refine zlL (he' h o5 H5 δ4 τ4 S5 _ _ (he4.mono e5) s5 (by simpa using d5) (fun o6 H6 S6 z v e6 s6 z6 d6=>?_) (Stb.st w (e1.trans (eN.trans e15))))
   replace d6:=ze5 d6
   obtain ⟨e,rfl,acc,ea,hl,d6⟩:=d6
   have e16:=e15.trans e6
   have eD:o6[S1.length]? = some D:=by
    obtain ⟨r,rfl⟩:=e16.pre
    rw [hn]
    exact zd4 (by rw [List.getElem?_concat_length])
   obtain ⟨vs,ev,l⟩:=s6.cont _ D acc eD ea
   refine ⟨vs,ev,by rw [l.length]; exact small1000 (Nat.le_of_lt hl),ds.length - (i + 1),by omega,rfl,hlt,o6,δ4,_,e16.trans (Ex.upd eD),((he4.mono e5).mono e6).mono (Ex.upd eD),s6.upd eD (l.append (zH.mpr ⟨v,[],rfl,z6,zR.mpr rfl⟩)),d6⟩
 ·have ei:i = ds.length:=by omega
  subst ei
  rw [List.drop_length] at d2
  exact .inl ⟨wk.stop _ o2 H2 (eN.trans e2).hid (Nat.le_refl _),c o1 H1 D o2 H2 S2 e1 hD e2 hs2 (hn ▸ d2)⟩
theorem zno {caps:List (Option Nat)} {wi:TI} {g:TG} {tt:TT} {te:TE} {di:DI} {dg:DG} {dtt:DT} {dte:DE} (hi:RIp Φ wi di) (hg:RG g dg) (ht:RTp Φ tt dtt) (he':REp Φ te dte):REp Φ (zjl caps wi g tt te) (zck caps di dg dtt dte):=fun h o H δ σ S R Q he hs q c w=>by
 refine zkS (w:=w) (fin:=fun n S2=>∃ (S0:Sto) (acc:List PyData),S2 = S0 ++ [acc]/\S0.length = n/\R (.d (.list acc)) S0) hi hg ht he' he hs q fun o1 H1 D o2 H2 S2 e1 hD e2 s2 ⟨S0,acc,eS,hl,f⟩=>?_
 subst eS
 have eN:Ex o1 H1 (o1 ++ [D]) (upd H1 D (.lst [])):=⟨⟨[D],rfl⟩,fun b w hb e=>by
  have ne:b ≠ D:=zO e hD
  exact ⟨by simp [hb,ne],by rw [zS ne]; exact e⟩⟩
 have e12:=eN.trans e2
 obtain ⟨r,rfl⟩:=e2.pre
 have er:r = []:=by
  have:=s2.len
  simp only [List.length_append,List.length_singleton,hl] at this
  exact List.eq_nil_of_length_eq_zero (by omega)
 subst er
 rw [List.append_nil] at s2 e12
 have s0:RepS h o1 H2 S0:=s2.pop hl
 refine c o1 H2 S0 (.d (.list acc)) _ (e1.trans (Ex.pop (o':=o1) e12)) s0 ?_ f
 obtain ⟨vs,ev,l⟩:=s2.cont o1.length D acc (by rw [List.getElem?_concat_length]) (by rw [<- hl,List.getElem?_concat_length])
 have nD:D ∉ o1:=by
  have:=(List.nodup_append.mp s2.nd).2.2
  intro m
  exact this D m D (by simp) rfl
 exact zba.mpr ⟨D,vs,rfl,zah.mpr ⟨s2.dis D (by simp),nD,ev⟩,l.mono zfB⟩
theorem zqz {K:W.Frag} (ha:REp Φ ta da):RTp Φ (fun σ H Q=>ta σ H fun x H'=>∃ k,TruV K x H' k/\Q k H') (zkY da):=fun h o H δ σ S R Q he hs q c w =>
 ha h o H δ σ S _ _ he hs q (fun o1 H1 S1 x v e1 s1 x1 d1=>by
  have z:=zfy (K:=K) (zd (i:=0)) h o1 H1 [some x] [some v] S1 R Q ⟨rfl,fun i y e=>by
   cases i with
   | zero=>cases e; exact ⟨v,rfl,x1⟩
   | succ i=>simp at e⟩ s1 ⟨x,rfl,d1⟩ (fun o2 H2 S2 b e2=>c o2 H2 S2 b (e1.trans e2))
  obtain ⟨v',e,z⟩:=z
  cases e
  exact z) w
end
theorem znD {X:Cx} {K:W.Frag} (hK:X.K = K):SlR X (zsG K):=by
 subst hK
 exact zlb
end
end L2
namespace L2
open PySem PySem.Spec PySem.Calls PyProof.Rows
open Sem (wp)
structure LamScope (ps caps:List Str) (sc:Scope):Prop where
 kind:sc.kind = .function
 co:sc.isCoroutine = false
 gen:sc.isGenerator = false
 nd:(ps ++ caps).Nodup
 par:∀ x ∈ ps,sc.names.lookup x = some .local
 cap:∀ x ∈ caps,sc.names.lookup x = some .free
 nocell:∀ y ∈ sc.names,y.2 ≠ .cell
 free:∀ x,sc.names.lookup x = some .free->x ∈ caps
def cxL (P:Program) (w:World) (K:W.Frag) (mg:Str->Option Value) (base:Heap) (N:List Str) (qual:Str) (scope:Scope) (cl:List (Str × Addr)) (f:Addr) (cd:Value) (A:Around) (outer:List Env) (s:Shared) (H:Hp):Cx where
 prog:=P
 w:=w
 K:=K
 mg:=mg
 base:=base
 A:=A.deeper (PySem.W.envX qual scope s.heap.objs.size f cd cl)
 N:=N
 s₀:=s
 H₀:=H
 env:=PySem.W.envX qual scope s.heap.objs.size f cd cl
 outer:=outer
 stack:=PySem.W.envX qual scope s.heap.objs.size f cd cl :: outer
 ex:=[]
 calm:=true
 fn:=fun _=>false
 pn:=[]
 xe:=fun _ _=>False
theorem zg4:∀ {ps:List Str} {us:List Value} {i:Nat} {y:Str} {u:Value},ps.Nodup->ps[i]? = some y->us[i]? = some u->((ps.zip us).reverse).lookup y = some u
 | [],_,_,_,_,_,e,_=>by simp at e
 | _ :: _,[],_,_,_,_,_,e=>by simp at e
 | p :: ps,v :: us,0,y,u,nd,e1,e2=>by
  simp at e1 e2
  subst e1 e2
  rw [List.nodup_cons] at nd
  rw [List.zip_cons_cons,List.reverse_cons,List.lookup_append]
  have:((ps.zip us).reverse).lookup p = none:=by
   rw [List.lookup_eq_none_iff]
   intro q mq
   have:=(List.of_mem_zip (List.mem_reverse.mp mq)).1
   have ne:p ≠ q.1:=fun e=>nd.1 (by rw [e]; exact this)
   simpa using ne
  rw [this]
  simp [List.lookup]
 | p :: ps,v :: us,i + 1,y,u,nd,e1,e2=>by
  rw [List.nodup_cons] at nd
  rw [List.zip_cons_cons,List.reverse_cons,List.lookup_append,zg4 nd.2 (by simpa using e1) (by simpa using e2)]
  rfl
section
variable {P:Program} {w:World} {K:W.Frag} {mg:Str->Option Value} {base:Heap} {A:Around} {outer:List Env} {s:Shared} {H:Hp}
structure Caps (H:Hp) (h:Heap) (cl:List (Str × Addr)) (caps:List Str) (cs:List V):Prop where
 len:cs.length = caps.length
 inj:∀ x y c,cl.lookup x = some c->cl.lookup y = some c->x = y
 has:∀ x,x ∈ caps ↔ ∃ c,cl.lookup x = some c
 at_:∀ (i:Nat) x v,caps[i]? = some x->cs[i]? = some v->∃ c u,cl.lookup x = some c/\RelV v u/\h.IsCell c (some u)
 free:∀ x c,cl.lookup x = some c->H c = none/\∃ v,h.IsCell c v
theorem zp3 {k:Nat} {ps caps:List Str} {name qual:Str} {params:Arguments} {body:Expr} {scope:Scope} {cl:List (Str × Addr)} {pm ctv:Value} {c' f:Addr} {us:List Value} {vs cs:List V} {Q:VK} {t:TE}
  (S:LamScope ps caps scope) (hr:Room (k + 1) A) (e0:Env0 P w K mg base A outer s H) (ho:s.heap.get? f = some (PySem.W.kla_obj name qual params body scope cl pm c' ctv)) (hcd:s.heap.CodeRec (.ref c') qual)
  (hbind:bindArgs (PySem.W.kla_fn name qual params body scope cl pm (.ref c') ctv) ⟨us,[]⟩ = pure (ps.zip us)) (hl:vs.length = ps.length) (r:Vals vs us) (C:Caps H s.heap cl caps cs)
  (hb:PE (cxL P w K mg base (ps ++ caps) qual scope cl f (.ref c') A outer s H) body t) (q:t (vs.map some ++ cs.map some) H Q) :
  codeAny (model P w) A (.call (.ref f) ⟨us,[]⟩) (fun r' s'=>match r' with | .ok (.ret u)=>CE outer P w H s Q u s' | _=>False) s:=by
 have KX:K.In s.heap:=e0.mod.kin.keeps fun b o e=>(e0.bs b o e).1
 have lim:s.heap.NoLimit:=e0.mod.nolimit.keeps fun b o e=>(e0.bs b o e).1
 refine PySem.W.kla_callFunE hr.depth ho rfl S.co S.gen rfl hcd ?_
 rw [hbind]
 refine wpAny_pure (wpAny_newFunctionEnv S.nocell (fun y hy=>S.par y.1 (List.of_mem_zip hy).1) (fun h₁ hns hsb=>⟨lim.fresh _ hsb,?_⟩) S.kind)
 show codeAny _ _ (.expr body (PySem.W.envX qual scope s.heap.objs.size f (.ref c') cl)) _ _
 have hk:∀ b o,s.heap.get? b = some o->h₁.get? b = some o:=fun b o e=>hsb.extBut b o (Nat.ne_of_lt (Heap.lt_size e)) (Heap.get?_push_of_some _ e)
 have noA:∀ b:Addr,b ∉ (cxL P w K mg base (ps ++ caps) qual scope cl f (.ref c') A outer s H).ex:=fun b z=>absurd (show b ∈ ([]:List Addr) from z) (by simp)
 have ul:us.length = ps.length:=by rw [<- r.length]; exact hl
 have I:Inv (cxL P w K mg base (ps ++ caps) qual scope cl f (.ref c') A outer s H) [] (vs.map some ++ cs.map some) H { s with heap:=h₁,toks:=s.toks + (ps.zip us).length }:=by
  refine ⟨⟨e0.mod,S.kind,rfl,rfl,Nat.le_refl _,fun x y c h1 h2=>C.inj x y c h1 h2,fun y hy=>?_,fun y c h _=>absurd (show false = true from h) (by decide),fun _=>hr.hd,Around.frames_deeper e0.frames,.inr ⟨rfl,rfl⟩,fun b z=>absurd z (noA b),e0.bs,e0.bsz,fun b _ _=>noA b,fun b z=>absurd z (noA b),e0.funs,e0.frf⟩,
   rfl,e0.bare,Un.kept hk,⟨_,hns,fun i y v h1 h2 h3=>?_⟩,fun y c h=>?_,e0.hok.fresh (Nat.le_refl _),fun y c h=>(C.free y c h).1,fun p hp=>absurd (show p ∈ ([]:List (Addr × Obj)) from hp) (by simp),e0.hok.kept hk,?_⟩
  ·have hy:scope.names.lookup y = some .cell\/scope.names.lookup y = some .free:=hy
   rcases hy with hy | hy
   ·exact absurd rfl (S.nocell _ (PySem.mem_of_lookup hy))
   ·exact (C.has y).mp (S.free y hy)
  ·by_cases hi:i < ps.length
   ·have h1':ps[i]? = some y:=by
     have h1:(ps ++ caps)[i]? = some y:=h1
     rwa [List.getElem?_append_left hi] at h1
    have h2':vs[i]? = some v:=by
     rw [List.getElem?_append_left (by rw [List.length_map]; omega),List.getElem?_map] at h2
     cases e:vs[i]? with
     | none=>rw [e] at h2; cases h2
     | some a=>rw [e] at h2; cases h2; rfl
    obtain ⟨u,hu,rv⟩:=r.get h2'
    exact ⟨u,rv,.inl ⟨S.par y (List.mem_of_getElem? h1'),zg4 (List.nodup_append.mp S.nd).1 h1' hu⟩⟩
   ·have h1':caps[i - ps.length]? = some y:=by
     have h1:(ps ++ caps)[i]? = some y:=h1
     rwa [List.getElem?_append_right (by omega)] at h1
    have h2':cs[i - ps.length]? = some v:=by
     rw [List.getElem?_append_right (by rw [List.length_map]; omega),List.length_map,hl,List.getElem?_map] at h2
     cases e:cs[i - ps.length]? with
     | none=>rw [e] at h2; cases h2
     | some a=>rw [e] at h2; cases h2; rfl
    obtain ⟨c,u,e1,rv,cl'⟩:=C.at_ _ y v h1' h2'
    exact ⟨u,rv,.inr ⟨.inr (S.cap y (List.mem_of_getElem? h1')),c,e1,cl'.keeps hk⟩⟩
  ·obtain ⟨v,q⟩:=(C.free y c h).2
   exact ⟨v,q.keeps hk⟩
  ·show (vs.map some ++ cs.map some).length = (ps ++ caps).length
   simp [hl,C.len]
 refine PySem.W.kla_codeExpr (wpAny_mono (hb [] _ _ H _ I q) (fun u s' hs=>?_) fun e s' z=>z.elim)
 obtain ⟨v,H',J,rv,q'⟩:=hs
 exact ⟨v,H',J.os,J.bare,J.base,J.hok,rv,q'⟩
end
abbrev lamKey (qual:Str) (pos:Pos):Array Value:=#[rawInt pos.line,rawInt pos.col,.str qual 0]
abbrev zg0 (qual:Str) (params:Arguments) (body:Expr) (scope:Scope) (cl:List (Str × Addr)) (pm:Value) (c':Addr) (ctv:Value):Obj:=PySem.W.kla_obj "<lambda>" qual params body scope cl pm c' ctv
section
variable {X:Cx} {zm:List (Addr × Obj)} {σ:St} {H:Hp} {s:Shared} {M:Model} {A:Around} {E:Value->Shared->Prop} {Q:Value->Shared->Prop} {c P:Addr} {qual:Str} {params:Arguments} {body:Expr} {scope:Scope} {pos:Pos} {cl:List (Str × Addr)}
theorem znv (I:Inv X zm σ H s) (hcode:X.env.code = .ref c) (hT:((c,P),lamKey qual pos) ∈ tabsG) (hcl:closureFor scope X.env = pure cl)
  (h:∀ (f c':Addr) (ctv pm:Value) (H':Hp) (s':Shared),Inv X zm σ H' s'->Same H H'->H f = none->H' f = some (.frz (zg0 qual params body scope cl pm c' ctv) (.own 0))->(∃ oc vs t',H' c' = some (.frz oc (.own 0))/\oc.data = .fields vs/\vs[1]? = some (.str qual t'))->Q (.ref f) s') :
  wpAny M A (makeFunction "<lambda>" qual params (.expr body) scope X.env [] [] [] pos pos.line) Q E s:=by
 have hH:H P = some (.tbl (lamKey qual pos)):=I.stkFree.tab _ hT
 have C:PySem.W.CodeHd X.base c P:=I.mod.hd _ hT
 have B:BltAt X.base X.mg:=I.mod.bm
 obtain ⟨qs,hP,hq⟩:=(show ObjOk X.prog X.w H s.heap P (.tbl (lamKey qual pos)) from I.hok P _ hH)
 have neP:∀ b o,X.base.get? b = some o->b ≠ P:=fun b o e z=>by
  have:=(I.bs b o e).2
  rw [z,hH] at this
  cases this
 have hg:s.heap.Ns mainGlobals X.mg:=I.mod.glob.keeps I.bk
 have hgP:mainGlobals ≠ P:=by
  obtain ⟨o,es,ep,e,_⟩:=I.mod.glob
  exact neP _ o e
 have hB:s.heap.BuiltinsAt X.mg P:=by
  obtain ⟨bm,ob,b1,b2,b3,b4,b5,b6⟩:=B
  refine ⟨bm,ob,b1,b2,fun z=>?_,neP _ _ b3,I.bk _ _ b3,b4,b5,b6⟩
  obtain ⟨o,es,ep,e,d,_⟩:=I.mod.glob
  rw [z,e] at b3
  cases b3
  rw [d] at b6
  cases b6
 have hC:=C.keeps I.bk
 rcases hq with rfl | ⟨l,k,q,t,c',oc,vs,t',e1,rfl,e3,e4,e5⟩
 ·refine PySem.W.kla_makeFunction (mg:=X.mg) hcl I.ok.glob hg hcode hC hP trivial rfl hgP hB fun c' ctv h' tk hx hge hlt hrec htb=>?_
  obtain ⟨c₂,oc,vs,t',e2,hoc,hd,hv⟩:=hrec
  cases e2
  have hsz:s.heap.objs.size <= h'.objs.size:=Nat.le_of_lt (Nat.lt_of_le_of_lt hge hlt)
  have nc:H c' = none:=I.hok.fresh hge
  have nf:H h'.objs.size = none:=I.hok.fresh hsz
  have cf:c' ≠ h'.objs.size:=Nat.ne_of_lt hlt
  let fo:Obj:=zg0 qual params body scope cl ((X.mg "__name__").getD .none) c' ctv
  let H':Hp:=upd (upd H c' (.frz oc (.own 0))) h'.objs.size (.frz fo (.own 0))
  have gr:Same H H':=(Same.laid nc).trans (Same.laid (by rw [zS (Ne.symm cf)]; exact nf))
  have hpc:P ≠ c':=zO hH nc
  have hpf:P ≠ h'.objs.size:=zO hH nf
  have kp:∀ b o,b ≠ P->s.heap.get? b = some o->(h'.push fo).get? b = some o:=fun b o nb e=>Heap.get?_push_of_some _ (hx b o nb e)
  have eH:∀ b,b ≠ c'->b ≠ h'.objs.size->H' b = H b:=fun b n1 n2=>by show upd _ _ _ b = _; rw [zS n2,zS n1]
  have hc':H' c' = some (.frz oc (.own 0)):=by show upd _ _ _ c' = _; rw [zS cf,zav]
  have hf':H' h'.objs.size = some (.frz fo (.own 0)):=zav
  refine h h'.objs.size c' ctv _ H' _ (I.un ⟨fun b o e n _ _=>kp b o (fun z=>by rw [z,hH] at n; cases n) e,fun b o e n _ _=>⟨o.slots,kp b o (fun z=>by rw [z,hH] at n; cases n) e⟩,fun b o e n _=>?_,fun b o e _=>?_,fun b xs e=>gr b _ e,fun b o u e=>gr b _ e,fun b ps e=>gr b _ e⟩ fun b u e=>?_) gr nf hf' ⟨oc,vs,t',hc',hd,hv⟩
  ·have lb:=Heap.lt_size e
   rw [eH b (Nat.ne_of_lt (Nat.lt_of_lt_of_le lb hge)) (Nat.ne_of_lt (Nat.lt_of_lt_of_le lb hsz))]
   exact n
  ·by_cases hb:b = P
   ·subst hb
    exact ⟨_,Heap.get?_push_of_some _ htb⟩
   ·exact ⟨o,kp b o hb e⟩
  ·by_cases h1:b = h'.objs.size
   ·subst h1
    rw [hf'] at e
    cases e
    have g:=Heap.get?_push_size h' (o:=fo) rfl
    exact ⟨g,_,g⟩
   ·by_cases h2:b = c'
    ·subst h2
     rw [hc'] at e
     cases e
     have g:=Heap.get?_push_of_some fo hoc
     exact ⟨g,_,g⟩
    ·rw [eH b h2 h1] at e
     by_cases h3:b = P
     ·subst h3
      rw [hH] at e
      cases e
      exact ⟨_,Heap.get?_push_of_some _ htb,.inr ⟨_,_,qual,0,c',oc,vs,t',rfl,rfl,hc',hd,hv⟩⟩
     ·refine (I.hok b u e).stay (fun d v hd' q1=>kp d v (fun z=>?_) q1) (fun d q1=>gr d _ q1) (fun d xs q1=>gr d _ q1) fun d o u q1=>gr d _ q1
      subst z
      rcases hd' with z | z
      ·exact h3 z.symm
      ·rw [hH] at z; cases z
 ·have el:rawInt pos.line = l:=congrArg (fun a:Array Value=>a.getD 0 .none) e1
  have ek:rawInt pos.col = k:=congrArg (fun a:Array Value=>a.getD 1 .none) e1
  have eq:qual = q:=by
   have:=congrArg (fun a:Array Value=>a.getD 2 .none) e1
   have z:Value.str qual 0 = Value.str q t:=this
   cases z
   rfl
  subst eq
  rw [<- el,<- ek] at hP
  have hca:codeAmong pos (#[rawInt pos.line,rawInt pos.col,Value.ref c']:Array Value).toList = some (.ref c'):=by
   simp [codeAmong,rawInt]
  refine PySem.W.kla_makeFunctionHit (mg:=X.mg) hcl I.ok.glob hg hcode hC hP trivial hca hB fun ctv h' tk kp hsz=>?_
  have nf:H h'.objs.size = none:=I.hok.fresh hsz
  let fo:Obj:=zg0 qual params body scope cl ((X.mg "__name__").getD .none) c' ctv
  have gr:Same H (upd H h'.objs.size (.frz fo (.own 0))):=Same.laid nf
  have g:=Heap.get?_push_size h' (o:=fo) rfl
  exact h h'.objs.size c' ctv _ _ _ (I.laid (t':=tk) (o:=.frz fo (.own 0)) (fun b o e=>Heap.get?_push_of_some _ (kp b o e)) hsz ⟨g,_,g⟩) gr nf zav ⟨oc,vs,t',gr _ _ e3,e4,e5⟩
end
end L2
namespace L2
open PySem PySem.Spec PySem.Calls PyProof.Rows
open Sem (wp)
section
variable {P:Program} {w:World} {K:W.Frag} {mg:Str->Option Value} {base:Heap} {A:Around} {outer:List Env} {s s':Shared} {H H' H0:Hp} {fs:List Addr} {h0 h h':Heap}
theorem zgl {a:Addr} (U:Un fs [] H0 H h0 h) (ha:h0.objs.size <= a) (k:∀ b o,b ≠ a->h.get? b = some o->h'.get? b = some o):Un fs [] H0 H h0 h':=by
 have ne:∀ b o,h0.get? b = some o->b ≠ a:=fun b o e=>Nat.ne_of_lt (Nat.lt_of_lt_of_le (Heap.lt_size e) ha)
 refine ⟨fun b o e n hb hx=>k b o (ne b o e) (U.keep b o e n hb hx),fun b o e n hb hx=>?_,U.free,fun b o e hx=>?_,U.tups,U.frzs,U.tbls⟩
 ·obtain ⟨sl,q⟩:=U.slot b o e n hb hx
  exact ⟨sl,k b _ (ne b o e) q⟩
 ·obtain ⟨o',q⟩:=U.there b o e hx
  exact ⟨o',k b o' (ne b o e) q⟩
theorem Env0.after (e0:Env0 P w K mg base A outer s H) (U:Un (frs outer) [] H H' s.heap s'.heap) (hok:HOk P w H' s'.heap) (hb:AllBare s'.gens) (hz:base.objs.size <= s'.heap.objs.size):Env0 P w K mg base A outer s' H':=by
 have nofr:∀ b o,base.get? b = some o->b ∉ frs outer:=fun b o e hm=>by
  have:=(e0.funs.mem hm).1
  rw [e] at this
  cases this
 refine ⟨e0.frames,e0.mod,fun b o e=>⟨U.keep b o (e0.bs b o e).1 (e0.bs b o e).2 (nofr b o e) (by simp),U.free b o (e0.bs b o e).1 (e0.bs b o e).2 (by simp)⟩,hz,?_,⟨fun b hb=>?_,fun q hq=>U.tbls _ _ (e0.frf.tab q hq)⟩,hok,hb⟩
 ·have go:∀ l:List Env,(∀ b ∈ frs l,b ∈ frs outer)->s.heap.FunFrames base l->s'.heap.FunFrames base l:=by
   intro l
   induction l with
   | nil=>intro _ _; trivial
   | cons env r ih =>
    intro hs hl
    obtain ⟨hk,⟨L,o,hf,hn,ho,hd⟩,hr⟩:=hl
    have hL:L ∈ frs outer:=hs L (by unfold frs; rw [List.filterMap_cons,hf]; exact List.mem_cons_self)
    obtain ⟨sl,e⟩:=U.slot L o ho (e0.frf.free L hL) hL (by simp)
    exact ⟨hk,⟨L,_,hf,hn,e,hd⟩,ih (fun b hb=>hs b (by unfold frs; rw [List.filterMap_cons,hf]; exact List.mem_cons_of_mem _ hb)) hr⟩
  exact go outer (fun _ h=>h) e0.funs
 ·obtain ⟨_,o,ho,_⟩:=e0.funs.mem hb
  exact U.free b o ho (e0.frf.free b hb) (by simp)
theorem Caps.after {cl:List (Str × Addr)} {caps:List Str} {cs:List V} (C:Caps H h cl caps cs) (U:Un fs [] H H' h h'):Caps H' h' cl caps cs:=by
 have kp:∀ c v,H c = none->h.IsCell c v->h'.IsCell c v:=fun c v n ⟨o,e,d⟩=>by
  obtain ⟨sl,q⟩:=U.any e n (by simp)
  exact ⟨_,q,d⟩
 refine ⟨C.len,C.inj,C.has,fun i x v e1 e2=>?_,fun x c e=>?_⟩
 ·obtain ⟨c,u,q1,q2,q3⟩:=C.at_ i x v e1 e2
  exact ⟨c,u,q1,q2,kp c _ (C.free x c q1).1 q3⟩
 ·obtain ⟨n,v,q⟩:=C.free x c e
  obtain ⟨o,eo,_⟩:=id q
  exact ⟨U.free c o eo n (by simp),v,kp c v n q⟩
theorem Env0.own {a:Addr} (e0:Env0 P w K mg base A outer s H) (na:H a = none) (nb:base.objs.size <= a) (nf:a ∉ frs outer) (k:∀ b o,b ≠ a->s.heap.get? b = some o->h'.get? b = some o) (hz:s.heap.objs.size <= h'.objs.size) (tk:Nat):Env0 P w K mg base A outer { s with heap:=h',toks:=tk } H:=by
 refine ⟨e0.frames,e0.mod,fun b o e=>⟨k b o (Nat.ne_of_lt (Nat.lt_of_lt_of_le (Heap.lt_size e) nb)) (e0.bs b o e).1,(e0.bs b o e).2⟩,Nat.le_trans e0.bsz hz,?_,e0.frf,e0.hok.stays fun b u e o q=>k b o (zO e na) q,e0.bare⟩
 have go:∀ l:List Env,(∀ b ∈ frs l,b ∈ frs outer)->s.heap.FunFrames base l->h'.FunFrames base l:=by
  intro l
  induction l with
  | nil=>intro _ _; trivial
  | cons env r ih =>
   intro hs hl
   obtain ⟨hk,⟨L,o,hf,hn,ho,hd⟩,hr⟩:=hl
   have hL:L ∈ frs outer:=hs L (by unfold frs; rw [List.filterMap_cons,hf]; exact List.mem_cons_self)
   exact ⟨hk,⟨L,o,hf,hn,k L o (fun z=>nf (z ▸ hL)) ho,hd⟩,ih (fun b hb=>hs b (by unfold frs; rw [List.filterMap_cons,hf]; exact List.mem_cons_of_mem _ hb)) hr⟩
 exact go outer (fun _ h=>h) e0.funs
theorem Caps.own {a:Addr} {cl:List (Str × Addr)} {caps:List Str} {cs:List V} (C:Caps H h cl caps cs) (na:∀ x c,cl.lookup x = some c->c ≠ a) (k:∀ b o,b ≠ a->h.get? b = some o->h'.get? b = some o):Caps H h' cl caps cs:=by
 refine ⟨C.len,C.inj,C.has,fun i x v e1 e2=>?_,fun x c e=>?_⟩
 ·obtain ⟨c,u,q1,q2,o,q3,q4⟩:=C.at_ i x v e1 e2
  exact ⟨c,u,q1,q2,o,k c o (na x c q1) q3,q4⟩
 ·obtain ⟨n,v,o,q,d⟩:=C.free x c e
  exact ⟨n,v,o,k c o (na x c e) q,d⟩
def CodeFz (H:Hp) (c':Addr) (qual:Str):Prop:=∃ oc vs t',H c' = some (.frz oc (.own 0))/\oc.data = .fields vs/\vs[1]? = some (.str qual t')
theorem CodeFz.rec {c':Addr} {qual:Str} (c:CodeFz H c' qual) (hok:HOk P w H h):h.CodeRec (.ref c') qual:=by
 obtain ⟨oc,vs,t',e,d,q⟩:=c
 obtain ⟨g,_⟩:=(show ObjOk P w H h c' (.frz oc (.own 0)) from hok _ _ e)
 exact ⟨c',oc,vs,t',rfl,g,d,q⟩
theorem CodeFz.un {c':Addr} {qual:Str} (c:CodeFz H c' qual) (U:Un fs [] H H' h h'):CodeFz H' c' qual:=by
 obtain ⟨oc,vs,t',e,r⟩:=c
 exact ⟨oc,vs,t',U.frzs _ _ _ e,r⟩
theorem zjG {k:Nat} {x:Str} {caps:List Str} {qual:Str} {params:Arguments} {body:Expr} {scope:Scope} {cl:List (Str × Addr)} {pm ctv:Value} {c' f:Addr} {u:Value} {v:V} {cs:List V} {Q1:VK} {t:TE} {E:Value->Shared->Prop} {Q:Value->Shared->Prop}
  (S:LamScope [x] caps scope) (hr:Room (k + 1) A) (e0:Env0 P w K mg base A outer s H) (hf:H f = some (.frz (zg0 qual params body scope cl pm c' ctv) (.own 0))) (hc:CodeFz H c' qual)
  (hbind:∀ u,bindArgs (PySem.W.kla_fn "<lambda>" qual params body scope cl pm (.ref c') ctv) ⟨[u],[]⟩ = pure [(x,u)]) (r:RelV v u) (C:Caps H s.heap cl caps cs)
  (hb:PE (cxL P w K mg base ([x] ++ caps) qual scope cl f (.ref c') A outer s H) body t) (q:t (some v :: cs.map some) H Q1) (fin:∀ u' s',CE outer P w H s Q1 u' s'->Q u' s') :
  wpAny (model P w) A (call (.ref f) [u]) Q E s:=by
 obtain ⟨g,_⟩:=(show ObjOk P w H s.heap f (.frz _ (.own 0)) from e0.hok _ _ hf)
 refine wpAny_call (codeAny_mono (zp3 (ps:=[x]) (us:=[u]) (vs:=[v]) S hr e0 g (hc.rec e0.hok) (hbind u) rfl (.cons r .nil) C hb q) fun r' s' z=>?_)
 cases r' with
 | error e=>exact z.elim
 | ok fl =>
  cases fl with
  | ret u'=>exact fin u' s' z
  | next=>exact z.elim
  | brk=>exact z.elim
  | cont=>exact z.elim
end
section
variable {P:Program} {w:World} {K:W.Frag} {mg:Str->Option Value} {base:Heap} {A:Around} {outer:List Env} {s0:Shared} {H0:Hp} {k:Nat} {x:Str} {caps:List Str} {qual:Str} {params:Arguments} {body:Expr} {scope:Scope} {cl:List (Str × Addr)} {pm ctv:Value} {c' f l it S:Addr} {cs:List V} {Q:VK} {t:TE} {dv:Value}
def MinW (l:Addr) (L:Nat) (cs:List V) (t:TE) (Q:VK) (W:Nat->V->Int->Hp->Prop):Prop:=∀ n best kb H,W n best kb H->∃ xs,xs.length = L/\H l = some (.lst xs)/\(∀ v,xs[n]? = some v->t (some v :: cs.map some) H fun kv H'=>∃ j,kv = .int j/\if j < kb then W (n + 1) v j H' else W (n + 1) best kb H')/\(L = n->Q best H)
theorem ziX {L:Nat} {W:Nat->V->Int->Hp->Prop} (SC:LamScope [x] caps scope) (hr:Room (k + 2) A) (hbind:∀ u,bindArgs (PySem.W.kla_fn "<lambda>" qual params body scope cl pm (.ref c') ctv) ⟨[u],[]⟩ = pure [(x,u)])
  (hb:∀ s H,PE (cxL P w K mg base ([x] ++ caps) qual scope cl f (.ref c') A.in1 outer s H) body t) (hW:MinW l L cs t Q W)
  (b1:base.objs.size <= s0.heap.objs.size) (i1:s0.heap.objs.size <= it) (i2:s0.heap.objs.size <= S) (hIS:S ≠ it) (cb:∀ x c,cl.lookup x = some c->c < s0.heap.objs.size) (ffr:∀ b ∈ frs outer,b < s0.heap.objs.size) :
  ∀ (d n:Nat) (s:Shared) (H:Hp) (best:V) (bu:Value) (kb:Int) (tb:Tok) (c:Nat),n + d = L->Env0 P w K mg base A.in1 outer s H->Un (frs outer) [] H0 H s0.heap s.heap->s.os = s0.os->W n best kb H->s.heap.IsListIter it l n->H it = none ->
   s.heap.get? S = some (seqObj "list" #[bu,.int kb tb] c)->H S = none->RelV best bu->H f = some (.frz (zg0 qual params body scope cl pm c' ctv) (.own 0))->CodeFz H c' qual->Caps H s.heap cl caps cs ->
   codeAny (model P w) A (.builtin "min.loop" ⟨[.ref it,.ref f,.ref S],[(Str.ofString "default",dv)]⟩) (fun r s'=>match r with | .ok (.ret u)=>CE outer P w H0 s0 Q u s' | _=>False) s:=by
 have hname:(toString "min" ++ toString ".loop":String) = "min.loop":=by decide
 have hh:A.in1.handled = none:=hr.hd
 have nIf:it ∉ frs outer:=fun m=>absurd (Nat.lt_of_lt_of_le (ffr _ m) i1) (Nat.lt_irrefl _)
 have nSf:S ∉ frs outer:=fun m=>absurd (Nat.lt_of_lt_of_le (ffr _ m) i2) (Nat.lt_irrefl _)
 intro d
 induction d with
 | zero =>
  intro n s H best bu kb tb c hn e0 U os hw hit nI hS nS rb hf hc C
  obtain ⟨xs,hL,hl,_,hq⟩:=hW n best kb H hw
  obtain ⟨hz,its,cap,rv,el⟩:=(show ObjOk P w H s.heap l (.lst xs) from e0.hok l _ hl)
  have isl:s.heap.IsList l its.toArray:=⟨_,el,rfl,_,rfl⟩
  refine codeAny_builtin F.entry_min_loop ?_
  rw [Around.under_plainId F.plain_min_loop _]
  show wpAny _ A.in1 (seqItems? (.ref S) >>= _) _ _ s
  refine wpAny_bind (wpAny_seqItems hS rfl ?_)
  show wpAny _ A.in1 (tryCatch (pyNext (.ref it)) _ >>= _) _ _ s
  refine wpAny_bind (wpAny_tryCatch (wpAny_pyNext_list_end hh hit isl (by have:=rv.length; simp; omega) fun h1 k1=>?_))
  have hS1:=k1 S _ hIS hS
  have s1:=Heap.SameBut.update h1 S (Obj.mapSeq fun _=>(#[]:Array Value))
  show wpAny _ A.in1 (updateSeq S (fun _=>#[]) >>= _) _ _ _
  refine wpAny_bind (wpAny_updateSeq hS1 rfl (wpAny_bind (wpAny_letGo (wpAny_pure ?_))))
  have k2:∀ b o,b ≠ S->h1.get? b = some o->(h1.update S (Obj.mapSeq fun _=>(#[]:Array Value))).get? b = some o:=fun b o nb e=>(s1.2 b nb).trans e
  refine ⟨best,H,os,e0.bare,zgl (zgl U i1 fun b o nb e=>k1 b o nb e) i2 k2,e0.hok.stays fun b u e o q=>k2 b o (zO e nS) (k1 b o (zO e nI) q),rb,hq (by omega)⟩
 | succ d ih =>
  intro n s H best bu kb tb c hn e0 U os hw hit nI hS nS rb hf hc C
  obtain ⟨xs,hL,hl,hstep,_⟩:=hW n best kb H hw
  obtain ⟨hz,its,cap,rv,el⟩:=(show ObjOk P w H s.heap l (.lst xs) from e0.hok l _ hl)
  have isl:s.heap.IsList l its.toArray:=⟨_,el,rfl,_,rfl⟩
  have hx:=List.getElem?_eq_getElem (show n < xs.length by omega)
  generalize xs[n]'(by omega) = v at hx
  obtain ⟨u,eu,ru⟩:=rv.get hx
  refine codeAny_builtin F.entry_min_loop ?_
  rw [Around.under_plainId F.plain_min_loop _]
  show wpAny _ A.in1 (seqItems? (.ref S) >>= _) _ _ s
  refine wpAny_bind (wpAny_seqItems hS rfl ?_)
  show wpAny _ A.in1 (tryCatch (pyNext (.ref it)) _ >>= _) _ _ s
  refine wpAny_bind (wpAny_tryCatch (wpAny_pyNext_list_item hit isl (x:=u) (by simpa using eu) fun h1 hit1 hs1=>?_))
  have k1:∀ b o,b ≠ it->s.heap.get? b = some o->h1.get? b = some o:=fun b o nb e=>hs1.extBut b o nb e
  have hz1:s.heap.objs.size <= h1.objs.size:=Nat.le_of_eq hs1.1.symm
  have e1:Env0 P w K mg base A.in1 outer { s with heap:=h1 } H:=e0.own nI (Nat.le_trans b1 i1) nIf k1 hz1 s.toks
  have C1:Caps H h1 cl caps cs:=C.own (fun x c e=>Nat.ne_of_lt (Nat.lt_of_lt_of_le (cb x c e) i1)) k1
  show wpAny _ A.in1 (tryCatch (holding [u] (call (.ref f) [u])) _ >>= _) _ _ _
  refine wpAny_bind (wpAny_tryCatch (wpAny_holding (zjG (k:=k) (s:={ s with heap:=h1 }) SC hr.in1 e1 hf hc hbind ru C1 (hb _ _) (hstep v hx) fun u2 s2 z=>?_)))
  obtain ⟨kv,H2,os2,bare2,U2,hok2,r2,j,rfl,hj⟩:=z
  obtain ⟨t2,rfl⟩:=r2
  have hS1:=k1 S _ hIS hS
  have hS2:=U2.keep S _ hS1 nS nSf (by simp)
  obtain ⟨oI,eI,cI,dI⟩:=id hit1
  have eI2:=U2.keep it _ eI nI nIf (by simp)
  have hit2:s2.heap.IsListIter it l (n + 1):=⟨oI,eI2,cI,dI⟩
  have nI2:H2 it = none:=U2.free it _ eI nI (by simp)
  have nS2:H2 S = none:=U2.free S _ hS1 nS (by simp)
  have bz:base.objs.size <= s2.heap.objs.size:=Nat.le_trans b1 (Nat.le_trans i1 (Nat.le_of_lt (Heap.lt_size eI2)))
  have e2:=e1.after U2 hok2 bare2 bz
  have U02:Un (frs outer) [] H0 H2 s0.heap s2.heap:=(zgl U i1 k1).trans U2
  have C2:=C1.after U2
  have f2:=U2.frzs _ _ _ hf
  have c2:=hc.un U2
  have osz:s2.os = s0.os:=os2.trans os
  show wpAny _ A.in1 (tryCatch (holding [u,.int j t2] (richCompare .Lt (.int j t2) (.int kb tb) >>= _)) _ >>= _) _ _ _
  refine wpAny_bind (wpAny_tryCatch (wpAny_holding (wpAny_bind (CmpOf.ints_lt (prog:=P) (w:=w) (A:=A.in1) (P:=fun i v=>∃ t,v = .int (if i = 0 then kb else j) t) (fun i=>if i = 0 then kb else j) (fun i v h=>h) 1 0 _ _ _ _ _ ⟨t2,rfl⟩ ⟨tb,rfl⟩ ?_))))
  refine wpAny_bind (wpAny_holding (wpAny_truthy_bool ?_))
  refine wpAny_bind (wpAny_letGo (wpAny_pure ?_))
  by_cases hb':j < kb
  ·rw [if_pos hb'] at hj
   have s3:=Heap.SameBut.update s2.heap S (Obj.mapSeq fun _=>#[u,.int j t2])
   obtain ⟨cc,hcc⟩:∃ cc,(s2.heap.update S (Obj.mapSeq fun _=>#[u,.int j t2])).get? S = some (seqObj "list" #[u,.int j t2] cc):=⟨_,get?_update_seq hS2 fun _=>#[u,.int j t2]⟩
   have k3:∀ b o,b ≠ S->s2.heap.get? b = some o->(s2.heap.update S (Obj.mapSeq fun _=>#[u,.int j t2])).get? b = some o:=fun b o nb e=>(s3.2 b nb).trans e
   simp only [if_true,Nat.one_ne_zero,if_false,hb',decide_true]
   refine wpAny_bind ?_
   refine wpAny_updateSeq hS2 rfl (wpAny_bind (wpAny_letGo ?_))
   rw [hname]
   refine wpAny_pure ⟨plainId_quiet F.plain_min_loop _,ih (n + 1) { s2 with heap:=s2.heap.update S (Obj.mapSeq fun _=>#[u,.int j t2]) } H2 v u j t2 cc (by omega) (e2.own nS2 (Nat.le_trans b1 i2) nSf k3 (Nat.le_of_eq s3.1.symm) s2.toks) (zgl U02 i2 k3) osz hj ⟨oI,k3 it oI (Ne.symm hIS) eI2,cI,dI⟩ nI2 hcc nS2 ru f2 c2 (C2.own (fun x c e=>Nat.ne_of_lt (Nat.lt_of_lt_of_le (cb x c e) i2)) k3)⟩
  ·rw [if_neg hb'] at hj
   simp only [if_true,Nat.one_ne_zero,if_false,hb',decide_false,Bool.false_eq_true]
   refine wpAny_bind (wpAny_letGo ?_)
   rw [hname]
   exact wpAny_pure ⟨plainId_quiet F.plain_min_loop _,ih (n + 1) s2 H2 best bu kb tb c (by omega) e2 U02 osz hj hit2 nI2 hS2 nS2 rb f2 c2 C2⟩
end
end L2
namespace L2
open PySem PySem.Spec PySem.Calls PyProof.Rows
open Sem (wp)
theorem zkP (a f v:Value):argsOk "min" ⟨[a],[(Str.ofString "key",f),(Str.ofString "default",v)]⟩:=by unfold argsOk; kernel_rfl
section
variable {X:Cx} {zm:List (Addr × Obj)} {σ:St} {H:Hp} {s:Shared} {k:Nat} {x:Str} {caps:List Str} {qual:Str} {params:Arguments} {body:Expr} {scope:Scope} {cl:List (Str × Addr)} {pm ctv:Value} {c' f l:Addr} {cs xs:List V} {Q:VK} {t:TE} {E:Value->Shared->Prop}
theorem zja {W:Nat->V->Int->Hp->Prop} (SC:LamScope [x] caps scope) (hr:Room (k + 2) X.A) (hbind:∀ u,bindArgs (PySem.W.kla_fn "<lambda>" qual params body scope cl pm (.ref c') ctv) ⟨[u],[]⟩ = pure [(x,u)])
  (hb:∀ s H,PE (cxL X.prog X.w X.K X.mg X.base ([x] ++ caps) qual scope cl f (.ref c') X.A.in1 X.stack s H) body t) (hW:MinW l xs.length cs t Q W)
  (I:Inv X zm σ H s) (hl:H l = some (.lst xs)) (h0:xs = []->Q .non H) (h1:∀ v,xs[0]? = some v->t (some v :: cs.map some) H fun kv H'=>∃ j,kv = .int j/\W 1 v j H')
  (hf:H f = some (.frz (zg0 qual params body scope cl pm c' ctv) (.own 0))) (hc:CodeFz H c' qual) (C:Caps H s.heap cl caps cs) :
  wpAny (model X.prog X.w) X.A (call (.builtin "min") [.ref l] [(Str.ofString "key",.ref f),(Str.ofString "default",.none)]) (EP X zm σ Q) E s:=by
 have nm:(toString "min" ++ toString ".loop":String) = "min.loop":=by decide
 have e0:Env0 X.prog X.w X.K X.mg X.base X.A.in1 X.stack s H:=I.env0.in1
 have hh:X.A.in1.handled = none:=hr.hd
 obtain ⟨hz,its,cap,rv,el⟩:=(show ObjOk X.prog X.w H s.heap l (.lst xs) from I.hok l _ hl)
 have isl:s.heap.IsList l its.toArray:=⟨_,el,rfl,_,rfl⟩
 have lt:l < s.heap.objs.size:=Heap.lt_size el
 have ffr:∀ b ∈ frs X.stack,b < s.heap.objs.size:=fun b hb=>by
  obtain ⟨_,o,ho,_⟩:=I.stack.mem hb
  exact Heap.lt_size ho
 have cb:∀ x c,cl.lookup x = some c->c < s.heap.objs.size:=fun x c e=>by
  obtain ⟨_,v,o,ho,_⟩:=C.free x c e
  exact Heap.lt_size ho
 have b1:X.base.objs.size <= s.heap.objs.size:=e0.bsz
 refine kmk_tree F.kind_min F.plain_min F.entry_min (zkP _ _ _) ?_
 show wpAny _ X.A.in1 (Builtin.Builtins.bindParams "min" ["key","default"] 0 ⟨[],[(Str.ofString "key",.ref f),(Str.ofString "default",.none)]⟩ >>= _) _ _ s
 refine wpAny_bind (wpAny_of_eq (show Builtin.Builtins.bindParams "min" ["key","default"] 0 ⟨[],[(Str.ofString "key",.ref f),(Str.ofString "default",.none)]⟩ = pure [some (.ref f),some .none] from rfl) (wpAny_bind (wpAny_pure (wpAny_bind (wpAny_pyIter_list isl ?_)))))
 refine wpAny_bind (wpAny_newObj_type ?_)
 rw [nm]
 have z1:(s.heap.push { cls:=.type "list_iterator",data:=.fields #[.ref l,.int 0 0] }).objs.size = s.heap.objs.size + 1:=Heap.size_push ..
 generalize hg1:s.heap.push { cls:=.type "list_iterator",data:=.fields #[.ref l,.int 0 0] } = g1 at z1 ⊢
 have gI:g1.get? s.heap.objs.size = some { cls:=.type "list_iterator",data:=.fields #[.ref l,.int 0 0] }:=by rw [<- hg1]; exact Heap.get?_push_size _ rfl
 have kp1:∀ b o,s.heap.get? b = some o->g1.get? b = some o:=fun b o e=>by rw [<- hg1]; exact Heap.get?_push_of_some _ e
 generalize hg2:g1.push { cls:=.type "list",data:=.seq #[] } = g2
 have gS:g2.get? g1.objs.size = some (seqObj "list" #[] 0):=by rw [<- hg2]; exact Heap.get?_push_size _ rfl
 have kp2:∀ b o,g1.get? b = some o->g2.get? b = some o:=fun b o e=>by rw [<- hg2]; exact Heap.get?_push_of_some _ e
 have kp:∀ b o,s.heap.get? b = some o->g2.get? b = some o:=fun b o e=>kp2 b o (kp1 b o e)
 have zz:s.heap.objs.size <= g2.objs.size:=Nat.le_trans (show s.heap.objs.size <= g1.objs.size by rw [z1]; exact Nat.le_succ _) (Nat.le_of_lt (Heap.lt_size gS))
 have I2:Inv X zm σ H { s with heap:=g2 }:=I.kept (t':=s.toks) kp
 have e2:Env0 X.prog X.w X.K X.mg X.base X.A.in1 X.stack { s with heap:=g2 } H:=I2.env0.in1
 have hIS:g1.objs.size ≠ s.heap.objs.size:=by rw [z1]; exact Nat.succ_ne_self _
 have i2:s.heap.objs.size <= g1.objs.size:=by rw [z1]; exact Nat.le_succ _
 have nI:H s.heap.objs.size = none:=I.hok.fresh (Nat.le_refl _)
 have nS:H g1.objs.size = none:=I.hok.fresh i2
 have nIf:s.heap.objs.size ∉ frs X.stack:=fun m=>absurd (ffr _ m) (Nat.lt_irrefl _)
 have nSf:g1.objs.size ∉ frs X.stack:=fun m=>absurd (Nat.lt_of_lt_of_le (ffr _ m) i2) (Nat.lt_irrefl _)
 have U2:Un (frs X.stack) [] H H s.heap g2:=Un.kept kp
 have C2:Caps H g2 cl caps cs:=C.after U2
 have isl2:g2.IsList l its.toArray:=⟨_,kp _ _ el,rfl,_,rfl⟩
 have hit:g2.IsListIter s.heap.objs.size l 0:=⟨_,kp2 _ _ gI,rfl,rfl⟩
 refine wpAny_pure ⟨plainId_quiet F.plain_min_loop _,?_⟩
 show codeAny _ X.A (.builtin "min.loop" ⟨[.ref s.heap.objs.size,.ref f,.ref g1.objs.size],[(Str.ofString "default",.none)]⟩) _ { s with heap:=g2 }
 refine codeAny_mono (R:=fun r s'=>match r with | .ok (.ret u)=>CE X.stack X.prog X.w H s Q u s' | _=>False) ?_ fun r s' z=>?_
 rotate_left
 ·cases r with
  | error e=>exact z.elim
  | ok fl =>
   cases fl with
   | ret u=>exact I.after z
   | next=>exact z.elim
   | brk=>exact z.elim
   | cont=>exact z.elim
 refine codeAny_builtin F.entry_min_loop ?_
 rw [Around.under_plainId F.plain_min_loop _]
 show wpAny _ X.A.in1 (seqItems? (.ref g1.objs.size) >>= _) _ _ _
 refine wpAny_bind (wpAny_seqItems gS rfl ?_)
 show wpAny _ X.A.in1 (tryCatch (pyNext (.ref s.heap.objs.size)) _ >>= _) _ _ _
 cases hxs:xs with
 | nil =>
  subst hxs
  have hi:its = []:=by cases rv; rfl
  refine wpAny_bind (wpAny_tryCatch (wpAny_pyNext_list_end (s:={ s with heap:=g2 }) hh hit isl2 (by rw [hi]; rfl) fun h3 k3=>?_))
  refine wpAny_bind (wpAny_rule (wpAny_pure ?_))
  exact ⟨.non,H,rfl,I.bare,zgl U2 (Nat.le_refl _) k3,e2.hok.stays fun b u e o q=>k3 b o (zO e nI) q,rfl,h0 rfl⟩
 | cons v r =>
  have hx:xs[0]? = some v:=by rw [hxs]; rfl
  obtain ⟨u,eu,ru⟩:=rv.get hx
  refine wpAny_bind (wpAny_tryCatch (wpAny_pyNext_list_item (s:={ s with heap:=g2 }) hit isl2 (x:=u) (by simpa using eu) fun h3 hit3 hs3=>?_))
  have k3:∀ b o,b ≠ s.heap.objs.size->g2.get? b = some o->h3.get? b = some o:=fun b o nb e=>hs3.extBut b o nb e
  have e3:Env0 X.prog X.w X.K X.mg X.base X.A.in1 X.stack { s with heap:=h3 } H:=e2.own nI b1 nIf k3 (Nat.le_of_eq hs3.1.symm) s.toks
  have C3:Caps H h3 cl caps cs:=C2.own (fun x c e=>Nat.ne_of_lt (cb x c e)) k3
  show wpAny _ X.A.in1 (tryCatch (holding [u] (call (.ref f) [u])) _ >>= _) _ _ _
  refine wpAny_bind (wpAny_tryCatch (wpAny_holding (zjG (k:=k) (s:={ s with heap:=h3 }) SC hr.in1 e3 hf hc hbind ru C3 (hb _ _) (h1 v hx) fun u2 s2 z=>?_)))
  obtain ⟨kv,H2,os2,bare2,U3,hok2,r2,j,rfl,hj⟩:=z
  obtain ⟨t2,rfl⟩:=r2
  have hS3:=k3 _ _ hIS gS
  have hS2:=U3.keep _ _ hS3 nS nSf (by simp)
  obtain ⟨oI,eI,cI,dI⟩:=id hit3
  have eI2:=U3.keep _ _ eI nI nIf (by simp)
  have nI2:H2 s.heap.objs.size = none:=U3.free _ _ eI nI (by simp)
  have nS2:H2 g1.objs.size = none:=U3.free _ _ hS3 nS (by simp)
  have bz:X.base.objs.size <= s2.heap.objs.size:=Nat.le_trans b1 (Nat.le_of_lt (Heap.lt_size eI2))
  have e4:=e3.after U3 hok2 bare2 bz
  have U4:Un (frs X.stack) [] H H2 s.heap s2.heap:=(zgl U2 (Nat.le_refl _) k3).trans U3
  have s3:=Heap.SameBut.update s2.heap g1.objs.size (Obj.mapSeq fun _=>#[u,.int j t2])
  obtain ⟨cc,hcc⟩:∃ cc,(s2.heap.update g1.objs.size (Obj.mapSeq fun _=>#[u,.int j t2])).get? g1.objs.size = some (seqObj "list" #[u,.int j t2] cc):=⟨_,get?_update_seq hS2 fun _=>#[u,.int j t2]⟩
  have k4:∀ b o,b ≠ g1.objs.size->s2.heap.get? b = some o->(s2.heap.update g1.objs.size (Obj.mapSeq fun _=>#[u,.int j t2])).get? b = some o:=fun b o nb e=>(s3.2 b nb).trans e
  show wpAny _ X.A.in1 (updateSeq g1.objs.size (fun _=>#[u,.int j t2]) >>= _) _ _ _
  refine wpAny_bind (wpAny_updateSeq hS2 rfl ?_)
  rw [nm]
  refine wpAny_pure ⟨plainId_quiet F.plain_min_loop _,ziX (k:=k) SC hr hbind hb hW b1 (Nat.le_refl _) i2 hIS cb ffr r.length 1 { s2 with heap:=s2.heap.update g1.objs.size (Obj.mapSeq fun _=>#[u,.int j t2]) } H2 v u j t2 cc (by rw [hxs,List.length_cons]; omega) (e4.own nS2 (Nat.le_trans b1 i2) nSf k4 (Nat.le_of_eq s3.1.symm) s2.toks) (zgl U4 i2 k4) os2 hj ⟨oI,k4 _ oI (Ne.symm hIS) eI2,cI,dI⟩ nI2 hcc nS2 ru (U3.frzs _ _ _ hf) (hc.un U3) ((C3.after U3).own (fun x c e=>Nat.ne_of_lt (Nat.lt_of_lt_of_le (cb x c e) i2)) k4)⟩
end
end L2
namespace L2
open PySem PySem.Spec PySem.Calls PyProof.Rows
open Sem (wp)
def ziR (DN:List Str) (dsc:List (Str × NameKind)) (sc:Scope) (ps caps:List Str) (ks:List Nat):Bool :=
 (ks.length == caps.length) && decide ((ps ++ caps).Nodup) && ps.all (fun x=>sc.names.lookup x == some .local) && caps.all (fun x=>sc.names.lookup x == some .free && dsc.lookup x == some .cell) &&
 sc.names.all (fun y=>y.2 != .cell && (y.2 != .free || caps.contains y.1)) && (ks.zip caps).all (fun p=>DN[p.1]? == some p.2)
section
variable {X:Cx} {zm:List (Addr × Obj)} {σ:St} {H:Hp} {s:Shared} {dsc scope:Scope} {L:Nat} {ps caps:List Str} {ks:List Nat}
theorem zjk (hk:scope.kind = .function) (hco:scope.isCoroutine = false) (hg:scope.isGenerator = false) (h:ziR X.N dsc.names scope ps caps ks = true):LamScope ps caps scope:=by
 simp only [ziR,Bool.and_eq_true,List.all_eq_true,beq_iff_eq,decide_eq_true_eq] at h
 obtain ⟨⟨⟨⟨⟨_,nd⟩,hp⟩,hc⟩,hn⟩,_⟩:=h
 refine ⟨hk,hco,hg,nd,hp,fun x hx=>(hc x hx).1,fun y hy e=>?_,fun x e=>?_⟩
 ·have:=(hn y hy).1
  rw [e] at this
  simp at this
 ·have:=(hn _ (PySem.mem_of_lookup e)).2
  simpa using this
theorem zki (hd:X.env.scope = dsc) (hc:X.env.cells = cellsFrom L dsc.names []) (h:ziR X.N dsc.names scope ps caps ks = true):closureFor scope X.env = pure (zjz X.env scope.names []):=by
 subst hd
 simp only [ziR,Bool.and_eq_true,List.all_eq_true,beq_iff_eq,decide_eq_true_eq] at h
 obtain ⟨⟨⟨⟨⟨_,nd⟩,hp⟩,hcp⟩,hn⟩,_⟩:=h
 refine ze9 fun y hy e=>?_
 have:=(hn y hy).2
 rw [e] at this
 rw [hc]
 exact PySem.W.cellsFrom_some _ _ _ (.inl (hcp _ (by simpa using this)).2)
theorem zm5 {cs:List V} (I:Inv X zm σ H s) (hd:X.env.scope = dsc) (hc:X.env.cells = cellsFrom L dsc.names []) (h:ziR X.N dsc.names scope ps caps ks = true) (hσ:ks.map (fun i=>(σ[i]?).join) = cs.map some):Caps H s.heap (zjz X.env scope.names []) caps cs:=by
 have hcl:=zki hd hc h
 subst hd
 simp only [ziR,Bool.and_eq_true,List.all_eq_true,beq_iff_eq,decide_eq_true_eq] at h
 obtain ⟨⟨⟨⟨⟨hl,nd⟩,hp⟩,hcp⟩,hn⟩,hz⟩:=h
 have hsome:∀ x,X.env.scope.names.lookup x = some .cell->(X.env.cells.lookup x).isSome = true:=fun x e=>by
  rw [hc]
  exact PySem.W.cellsFrom_some _ _ _ (.inl e)
 have sub:∀ x c,(zjz X.env scope.names []).lookup x = some c->X.env.cells.lookup x = some c/\x ∈ caps:=fun x c e=>by
  rcases zhi (PySem.mem_of_lookup e) with q | ⟨q,ec⟩
  ·cases q
  ·have hx:x ∈ caps:=by have:=(hn _ q).2; simpa using this
   obtain ⟨c',hc'⟩:=Option.isSome_iff_exists.mp (hsome x (hcp x hx).2)
   refine ⟨?_,hx⟩
   rw [ec,hc']
   rfl
 have has:∀ x ∈ caps,∃ c,(zjz X.env scope.names []).lookup x = some c:=fun x hx=>by
  obtain ⟨c,hm⟩:=zfL (env:=X.env) (acc:=[]) (PySem.mem_of_lookup (hcp x hx).1)
  exact zcA hm
 have lc:cs.length = caps.length:=by
  have:=congrArg List.length hσ
  simp only [List.length_map] at this
  omega
 refine ⟨lc,fun x y c h1 h2=>I.ok.inj x y c (sub x c h1).1 (sub y c h2).1,fun x=>⟨has x,fun ⟨c,e⟩=>(sub x c e).2⟩,fun i x v e1 e2=>?_,fun x c e=>⟨I.freeC x c (sub x c e).1,I.cell x c (sub x c e).1⟩⟩
 obtain ⟨c,ec⟩:=has x (List.mem_of_getElem? e1)
 have hi:i < ks.length:=by
  have:=(List.getElem?_eq_some_iff.mp e1).1
  omega
 have ek:=List.getElem?_eq_getElem hi
 have hsl:(σ[ks[i]]?).join = some v:=by
  have:=congrArg (fun l=>l[i]?) hσ
  simp only [List.getElem?_map,e2,ek,Option.map_some] at this
  exact Option.some.inj this
 have hsv:σ[ks[i]]? = some (some v):=by
  cases q:σ[ks[i]]? with
  | none=>rw [q] at hsl; cases hsl
  | some a=>rw [q] at hsl; rw [show a = some v from hsl]
 have hN:X.N[ks[i]]? = some x:=hz (ks[i],x) (List.mem_of_getElem? (i:=i) (by rw [List.getElem?_zip_eq_some]; exact ⟨ek,e1⟩))
 have hcell:=(hcp x (List.mem_of_getElem? e1)).2
 obtain ⟨m,_,hl'⟩:=I.loc
 obtain ⟨u,rv,lk⟩:=hl' _ x v hN hsv (.inr (.inl hcell))
 rcases lk with ⟨k1,_⟩ | ⟨_,c',q1,q2⟩
 ·exact absurd ((show X.env.kindOf x = some .cell from hcell).symm.trans k1) (by decide)
 ·rw [(sub x c ec).1] at q1
  cases q1
  exact ⟨c,u,ec,rv,q2⟩
end
def mlP (ks:List Nat) (tb:TE) (σ:St) (Q:VK) (x:V) (H1:Hp):Prop:=∃ l xs cs,x = .ref l/\H1 l = some (.lst xs)/\ks.map (fun i=>(σ[i]?).join) = cs.map some/\∀ H2,Same H1 H2 ->
 ∃ W,MinW l xs.length cs tb Q W/\(xs = []->Q .non H2)/\∀ v,xs[0]? = some v->tb (some v :: cs.map some) H2 fun kv H'=>∃ j,kv = .int j/\W 1 v j H'
def mlQ (ks:List Nat) (tb:TE) (σ:St) (Q:VK):List V->Hp->Prop
 | [x],H1=>mlP ks tb σ Q x H1
 | _,_=>False
def zlQ (ks:List Nat) (te tb:TE):TE:=fun σ H Q=>te σ H fun x H1=>mlP ks tb σ Q x H1
theorem zmP {X:Cx} {e body:Expr} {te tb:TE} {dsc scope:Scope} {L k:Nat} {x:Str} {caps:List Str} {ks:List Nat} {params:Arguments} {c P:Addr} {p pos kp kp2 cp lp:Pos} {cj:Nat}
  (hT:((c,P),lamKey (X.env.qual ++ "<lambda>") lp) ∈ tabsG) (hcode:X.env.code = .ref c) (hd:X.env.scope = dsc) (hc:X.env.cells = cellsFrom L dsc.names []) (hk:scope.kind = .function) (hco:scope.isCoroutine = false) (hgn:scope.isGenerator = false) (hl:ziR X.N dsc.names scope [x] caps ks = true)
  (hdf:defaultsOf params X.env = ([],[])) (hbind:∀ cl pm c' ctv u,bindArgs (PySem.W.kla_fn "<lambda>" (X.env.qual ++ "<lambda>") params body scope cl pm (.ref c') ctv) ⟨[u],[]⟩ = pure [(x,u)])
  (hr:Room (k + 2) X.A) (hg:Gl X "min") (hm:X.mg "min" = none) (he':PE X e te)
  (hb:∀ cl f c' s H,Room k (X.A.in1.deeper (PySem.W.envX (X.env.qual ++ "<lambda>") scope s.heap.objs.size f (.ref c') cl))->PE (cxL X.prog X.w X.K X.mg X.base ([x] ++ caps) (X.env.qual ++ "<lambda>") scope cl f (.ref c') X.A.in1 X.stack s H) body tb)
  (he0:starEach [e] X.env = (false,eval e X.env) :: starEach [] X.env:=by rfl) (he:backTo pos (starEach [e] X.env) = (false,eval e X.env) :: backTo pos (starEach [] X.env):=by rfl) (hpl:(backTo pos (starEach [e] X.env)).any (·.1) = false:=by rfl) :
  PE X (.Call (.Name "min" p) [e] [⟨some "key",.Lambda params body scope lp,kp⟩,⟨some "default",.Constant .none cj cp,kp2⟩] pos) (zlQ ks te tb):=by
 intro zm s σ H Q I h
 refine wpAny_Call_Name_kw (ze1 I hg hm zhb ?_ (by decide) (by decide))
 refine PyProof.Rows.callWith_kw (thn (zc he' zf he0 pos zm s σ H (mlQ ks tb σ Q) I h) fun us s1 ⟨vs,H1,I1,r1,q1⟩=>?_) he hpl rfl rfl
 match vs,r1,q1 with
 | [v],.cons rv .nil,⟨l,xs,cs,ev,el,hcs,hW⟩ =>
  subst ev
  cases rv
  refine PyProof.Rows.kws_cons (PySem.W.kla_eval hdf (znv I1 hcode hT (zki hd hc hl) fun f c' ctv pm H2 s2 I2 sm nf hf hcf=>PyProof.Rows.kws_cons (Constant_none (PyProof.Rows.kws_nil ?_))))
  obtain ⟨W,w1,w2,w3⟩:=hW H2 sm
  exact zja (k:=k) (zjk (X:=X) hk hco hgn hl) hr (fun u=>hbind _ _ _ _ u) (fun s H=>hb _ _ _ s H (hr.in1.deeper _)) w1 I2 (sm _ _ el) w2 w3 hf hcf (zm5 I2 hd hc hl hcs)
def zhv (ks:List Nat) (de db:DE):DE:=fun δ S R=>de δ S fun x S1=>∃ (ds:List PyData) (cs:List XV) (kf:PyData->Int),zkR S1 x = some ds/\ks.map (fun i=>(δ[i]?).join) = cs.map some /\
 (∀ d ∈ ds,∀ R':RX,R' (.d (.int (kf d))) S1->db (some (.d d) :: cs.map some) S1 R')/\(ds = []->R (.d .none) S1) /\
 ∀ pre d post,ds = pre ++ d :: post->(∀ a ∈ pre,kf d < kf a)->(∀ a ∈ post,kf d <= kf a)->R (.d d) S1
theorem ziD {h o:List Addr} {H:Hp} {δ:XE} {σ:St} (r:RepE h o H δ σ):∀ {ks:List Nat} {cs:List XV},ks.map (fun i=>(δ[i]?).join) = cs.map some->∃ vs:List V,ks.map (fun i=>(σ[i]?).join) = vs.map some/\HasXs h o H cs vs
 | [],[],_=>⟨[],rfl,rfl⟩
 | [],_ :: _,e=>by simp at e
 | _ :: _,[],e=>by simp at e
 | k :: ks,x :: cs,e=>by
  simp only [List.map_cons,List.cons.injEq] at e
  obtain ⟨e1,e2⟩:=e
  have e3:δ[k]? = some (some x):=by
   cases q:δ[k]? with
   | none=>rw [q] at e1; cases e1
   | some a=>rw [q] at e1; rw [show a = some x from e1]
  obtain ⟨v,e4,hv⟩:=r.get k x e3
  obtain ⟨vs,e5,hl⟩:=ziD r e2
  refine ⟨v :: vs,?_,v,vs,rfl,hv,hl⟩
  simp only [List.map_cons,e4,e5]
  rfl
theorem zlt {ks:List Nat} {te tb:TE} {de db:DE} (h1:RE te de) (h2:RE tb db):RE (zlQ ks te tb) (zhv ks de db):=fun h o H δ σ S R Q he hs q c =>
 h1 h o H δ σ S _ _ he hs q fun o1 H1 S1 x v e1 s1 x1 ⟨ds,cs,kf,ek,hcs,hk,h0,hf⟩=>by
  obtain ⟨a,vs,rfl,ea,l⟩:=zbp s1 ek x1
  obtain ⟨cvs,hcv,hx⟩:=ziD (he.mono e1) hcs
  refine ⟨a,vs,cvs,rfl,ea,hcv,fun H2 sm=>?_⟩
  have lv:vs.length = ds.length:=l.length
  have at_:∀ o' H',Ex o1 H1 o' H'->RepS h o' H' S1->∃ xs,xs.length = vs.length/\H' a = some (.lst xs)/\HasL (vx h o' H') ds xs:=fun o' H' e' s'=>by
   obtain ⟨a',xs,ea',q1,q2⟩:=zbp s' ek (x1.mono e')
   cases ea'
   exact ⟨xs,q2.length.trans lv.symm,q1,q2⟩
  have step:∀ o' H',Ex o1 H1 o' H'->RepS h o' H' S1->∀ d',d' ∈ ds->∀ v',HasX h o' H' (.d d') v'->∀ Q':VK,(∀ o2 H3,Ex o1 H1 o2 H3->RepS h o2 H3 S1->Ex o' H' o2 H3->Q' (.int (kf d')) H3)->tb (some v' :: cvs.map some) H' Q':=by
   intro o' H' e' s' d' hd v' hv Q' hQ
   have rp:RepE h o' H' (some (.d d') :: cs.map some) (some v' :: cvs.map some):=by
    have:=zfr (n:=0) (show HasXs h o' H' (.d d' :: cs) (v' :: cvs) from ⟨v',cvs,rfl,hv,hx.mono e'⟩)
    simpa using this
   refine h2 h o' H' _ _ S1 (fun kv S'=>kv = .d (.int (kf d'))/\S' = S1) _ rp s' (hk d' hd _ ⟨rfl,rfl⟩) fun o2 H3 S2 x v e2 s2 x2 ⟨ex,eS⟩=>?_
   subst ex eS
   obtain rfl:=zbX.mp (show Has (vx h o2 H3) (.int (kf d')) v from x2)
   exact hQ o2 H3 (e'.trans e2) s2 e2
  refine ⟨fun n best kb H'=>∃ o' pre d post post2,Ex o1 H1 o' H'/\RepS h o' H' S1/\ds = pre ++ d :: (post ++ post2)/\n = pre.length + 1 + post.length/\HasX h o' H' (.d d) best/\kb = kf d/\(∀ a ∈ pre,kf d < kf a)/\∀ a ∈ post,kf d <= kf a,fun n best kb H' ⟨o',pre,d,post,post2,ex,rs,ed,en,hb,ekb,hp,hq⟩=>?_,fun z=>?_,fun v hv=>?_⟩
  ·obtain ⟨xs,lx,ex',lx2⟩:=at_ o' H' ex rs
   have dl:ds.length = n + post2.length:=by rw [ed]; simp only [List.length_append,List.length_cons]; omega
   refine ⟨xs,lx,ex',fun v' hv=>?_,fun hn=>?_⟩
   ·have hlt:n < ds.length:=by have:=(List.getElem?_eq_some_iff.mp hv).1; omega
    cases post2 with
    | nil=>simp only [List.length_nil] at dl; omega
    | cons d' post2 =>
     have edn:ds[n]? = some d':=by
      rw [ed,show pre ++ d :: (post ++ d' :: post2) = (pre ++ d :: post) ++ d' :: post2 by simp,List.getElem?_append_right (by simp only [List.length_append,List.length_cons]; omega),show n - (pre ++ d :: post).length = 0 by simp only [List.length_append,List.length_cons]; omega]
      rfl
     obtain ⟨v2,e2,hv2⟩:=lx2.get edn
     rw [hv] at e2
     cases e2
     refine step o' H' ex rs d' (List.mem_of_getElem? edn) v' hv2 _ fun o2 H3 e3 s3 e4=>⟨kf d',rfl,?_⟩
     by_cases hj:kf d' < kb
     ·rw [if_pos hj]
      refine ⟨o2,pre ++ d :: post,d',[],post2,e3,s3,by rw [ed]; simp,by simp only [List.length_append,List.length_cons,List.length_nil]; omega,HasX.mono e4 (x:=.d d') hv2,rfl,fun a ha=>?_,fun a z=>nomatch z⟩
      rcases List.mem_append.mp ha with ha | ha
      ·have:=hp a ha; omega
      ·rcases List.mem_cons.mp ha with rfl | ha
       ·omega
       ·have:=hq a ha; omega
     ·rw [if_neg hj]
      refine ⟨o2,pre,d,post ++ [d'],post2,e3,s3,by rw [ed]; simp,by simp only [List.length_append,List.length_cons,List.length_nil]; omega,HasX.mono e4 (x:=.d d) hb,ekb,hp,fun a ha=>?_⟩
      rcases List.mem_append.mp ha with ha | ha
      ·exact hq a ha
      ·rw [List.mem_singleton.mp ha]; omega
   ·have p2:post2 = []:=List.eq_nil_of_length_eq_zero (by omega)
    subst p2
    exact c o' H' S1 (.d d) best (e1.trans ex) rs hb (hf pre d post (by rw [ed,List.append_nil]) hp hq)
  ·subst z
   exact c o1 H2 S1 (.d .none) _ (e1.trans (Ex.of_same sm)) (s1.same sm) xN (h0 (List.eq_nil_of_length_eq_zero lv.symm))
  ·have ex:=Ex.of_same (o:=o1) sm
   cases ds with
   | nil=>rw [List.eq_nil_of_length_eq_zero lv] at hv; cases hv
   | cons d rest =>
    obtain ⟨v2,e2,hv2⟩:=l.get (i:=0) (d:=d) rfl
    rw [hv] at e2
    cases e2
    refine step o1 H2 ex (s1.same sm) d List.mem_cons_self v (HasX.mono ex (x:=.d d) hv2) _ fun o2 H3 e3 s3 e4=>⟨kf d,rfl,o2,[],d,[],rest,e3,s3,rfl,rfl,HasX.mono e3 (x:=.d d) hv2,rfl,(fun a z=>nomatch z),fun a z=>nomatch z⟩
end L2
namespace L2
open PySem PySem.Spec PySem.Calls PyProof.Rows
def zoc (ta:TA):TE:=fun σ H Q=>ta σ H fun vs H1=>∃ j:Int,vs = [.int j]/\0 <= j/\j <= 1000/\∀ l,H1 l = none->Q (.ref l) (upd H1 l (.lst ((List.range j.toNat).map fun k:Nat=>V.int (0 + k))))
theorem zm8 {X:Cx} {a:Expr} {ta:TA} {p p' pos pos':Pos} (hc:X.calm = true) (hgl:Gl X "list") (hml:X.mg "list" = none) (hg:Gl X "range") (hm:X.mg "range" = none) (ha:PA X [a] ta)
  (hs:starEach [a] X.env = [(false,eval a X.env)]:=by rfl)
  (hs3:starEach [.Call (.Name "range" p) [a] [] pos] X.env = [(false,eval (.Call (.Name "range" p) [a] [] pos) X.env)]:=by rfl) :
  PE X (.Call (.Name "list" p') [.Call (.Name "range" p) [a] [] pos] [] pos') (zoc ta):=by
 intro zm s σ H Q I h
 refine wpAny_Call_Name_kw (ze1 I hgl hml zmn ?_ (by decide) (by decide))
 refine PyProof.Rows.callWith_type1 ?_ (by rw [hs3]; rfl) rfl
 rw [hs3]
 show wpAny _ _ (spliced ((false,eval (.Call (.Name "range" p) [a] [] pos) X.env) :: [])) _ _ s
 refine Calls.spliced_cons (Call_ (ze1 I hg hm boot_range (PyProof.Rows.callWith_type1 (thn (ha pos zm s σ H _ I h) fun us s1 ⟨vs,H1,I1,r1,q1⟩=>?_) hs rfl)))
 obtain ⟨j,e,h0,hl,q⟩:=q1
 subst e
 cases r1 with
 | cons r rr =>
  cases rr
  obtain ⟨t,rfl⟩:=r
  refine call_range_1 (Calls.spliced_nil ?_)
  have I2:=I1.kept (h':=s1.heap.push { cls:=.type "range",data:=.fields #[.int 0 s1.toks,.int j t,.int 1 (s1.toks + 1)] }) (t':=s1.toks + 2) fun b o e=>Heap.get?_push_of_some _ e
  have en:Builtin.Range.rangeSize 0 j 1 = ((j.toNat:Nat):Int):=by rw [rangeSize_one]; split <;> omega
  refine zhG (I2.ok.hd hc) (IsRange.new ..) en (by omega) fun h' tk acc c kp e it=>?_
  have hv:=zpR it
  refine ⟨.ref _,_,I2.laid (t':=tk) kp (Nat.le_refl _) (show ObjOk X.prog X.w _ h' _ (.lst _) from ⟨?_,acc.toList,c,hv,?_⟩),rfl,q _ (I2.hok.fresh (Nat.le_refl _))⟩
  ·rw [List.length_map,List.length_range,sizeLine_eq]
   omega
  ·simpa using e
def zjR (a:DA):DE:=fun δ S R=>a δ S fun xs S1=>arg1 xs fun y=>asI y fun j=>(0 <= j/\j <= 1000)/\R (.d (.list (zfI 0 j.toNat))) S1
theorem zn1 {ta:TA} {da:DA} (ha:RA ta da):RE (zoc ta) (zjR da):=fun h o H δ σ S R Q he hs q c =>
 ha h o H δ σ S _ _ he hs q fun o1 H1 S1 xs vs e1 s1 x1 d0=>by
  obtain ⟨x,rfl,d2⟩:=zbb d0
  obtain ⟨j,rfl,hl,d4⟩:=zbB d2
  obtain ⟨v,rfl,hv⟩:=hxs1 x1
  rw [zbA hv]
  have l:=ziH (H:=vx h o1 H1) ((List.range j.toNat).map fun k:Nat=>0 + (k:Int))
  rw [List.map_map,List.map_map] at l
  exact ⟨j,rfl,hl.1,hl.2,zlU s1 l (c.pre e1) d4⟩
section
variable {a b c d e f g u:TS} {dt du:DS}
theorem zpm (h:RS (zgx a (zgx b (zgx c (zgx d (zgx e (zgx f g)))))) dt) (hu:RS u du):RS (zgx a (zgx b (zgx c (zgx d (zgx e (zgx f (zgx g u))))))) (zac dt du):=zqb (zv h hu)
end
structure CodeAt (K:W.Frag) (mg:Str->Option Value) (x:Str) (c:Addr):Prop where
 ex:∀ f oc od fd osl,mg x = some (.ref f)->K.lookup f = some ⟨oc,od,.func fd,osl⟩->fd.code = .ref c
theorem CodeAt.of {K:W.Frag} {h:Heap} {mg:Str->Option Value} {x:Str} {c P:Addr} (X:K.In h) (G:h.Ns mainGlobals mg) (ht:PySem.W.tabIn K x = some (c,P)):CodeAt K mg x c :=
 ⟨fun f oc od fd osl hm hl=>PySem.W.law_code X G ht hm (X _ _ hl) rfl⟩
section
variable {P:Program} {w:World} {K:W.Frag} {mg:Str->Option Value} {base:Heap} {x:Str} {st:Stmt} {N ps:List Str} {k:Nat} {c:Addr}
theorem zrV {q:PN} (D:Dd K mg x st ps) (C:CodeAt K mg x c) (S:FnScope N ps (zn st)) (n:Nat) (hn:N.length = ps.length + n)
  (hbody:∀ (f:Addr) (A:Around) (outer:List Env) (s:Shared) (H:Hp) (E:XK),Room k (A.deeper (envOfC x (zn st) s.heap.objs.size f (.ref c))) ->
   ∃ t dt,PSs (zmB CX0 P w K mg base N x (zn st) f (.ref c) A outer s H E).nox (zb5 st) t/\RS t dt/\∀ xs S R,q xs S R->dt (zcr S.length R) (xs.map some ++ List.replicate n none) S):Df P w K mg base x ps (k + 1) (spN ps q):=by
 obtain ⟨f,fd,F,hm,hb⟩:=D.ex
 have kp:=F.kp
 obtain ⟨oc,od,kV,doc,pm,an,cdv,ct,osl,rfl,lk,hcd⟩:=F.ex
 obtain rfl:cdv = .ref c:=C.ex f _ _ _ _ hm lk
 refine ⟨f,_,zqy lk hcd S (fun vs H Q E h=>h.1) fun A outer s H vs Q E hr ⟨hl,h,o,S',xs,R,hs',hx,hq,c⟩=>?_,hm,kp,hb⟩
 obtain ⟨t,dt,h1,h2,h3⟩:=hbody f A outer s H E hr
 refine ⟨t,h1.nox,h2 h o H _ _ S' _ _ ?_ hs' (h3 xs S' R hq) (eok hs' c)⟩
 have e:N.length - vs.length = n:=by omega
 unfold start
 rw [e]
 exact zfr hx
end
end L2
namespace My
open PySem L2
def zem:PN:=fun xs S R=>(zbo (ziW (dCB zqr (ze (zp 0) (ze (dO (.ty "int")) zy))) (znB (dCB zqr (ze (zp 0) (ze (dO (.ty "bool")) zy)))))) (zcr S.length R) (xs.map some ++ List.replicate 0 none) S
def zdn:PN:=fun xs S R=>(zac (zau (dOp (dI (fun _ j=>0 < j) fun i j=>i % j) (dOp zbT (zp 0) (dC (.int 7919))) (dC (.int 2147483647))) (zo 0)) (zbo (dOp (dI (fun _ j=>0 < j) fun i j=>i % j) (dOp zbT (dOp zbT (dOp zfJ (zp 0) (zp 0)) (dOp zfJ (dC (.int 48271)) (zp 0))) (dC (.int 12345))) (dC (.int 2147483629))))) (zcr S.length R) (xs.map some ++ List.replicate 0 none) S
def zc2:PN:=fun xs S R=>(zac (zau (dCB (dI2 fun i j=>if j > i then j else i) (ze (zp 0) (ze (dOp (dI0 fun i j=>i - j) (dC (.int 0)) (zp 0)) zy))) (zo 1)) (zbo (zd8 (ze (zp 1) (ze (dCB znP (ze (dOp (dIb fun i j=>decide (j <= i)) (zp 1) (dOp (dI CPow fun i j=>i ^ j.toNat) (dC (.int 10)) (dC (.int 18)))) zy)) (ze (dOp (dI (fun _ j=>0 < j) fun i j=>i % j) (zp 1) (dC (.int 1000003))) zy)))))) (zcr S.length R) (xs.map some ++ List.replicate 1 none) S
def zu:PN:=fun xs S R=>(zac (zdW (dB (dOp zgz (dOp dIx (zp 0) (dC (.int 1))) (dC (.int 1)))) (zac (zau (dOp (dI (fun _ j=>0 < j) fun i j=>i % j) (dOp dIx (zp 0) (dC (.int 0))) (zp 1)) (zo 2)) (zac (zau (dOp dFd (dOp dIx (zp 0) (dC (.int 0))) (zp 1)) (zjo (zp 0) (dC (.int 0)))) (zbo (zp 2)))) za1) (zac (zau (zar 1 zdn (ze (dOp zbT (zar 1 zdn (ze (dOp dIx (zp 0) (dC (.int 2))) zy)) (dC (.int 7))) zy)) (zjo (zp 0) (dC (.int 2)))) (zbo (dOp (dI (fun _ j=>0 < j) fun i j=>i % j) (dOp dFd (dOp dIx (zp 0) (dC (.int 2))) (dC (.int 64))) (zp 1))))) (zcr S.length R) (xs.map some ++ List.replicate 1 none) S
def zfE:PN:=fun xs S R=>(zac (zau (zG 0 2 zu (ze (zp 0) (ze (dC (.int 8)) zy))) (zo 1)) (zac (zdW (dB (dOp (dIb fun i j=>decide (i < j)) (zp 1) (dC (.int 5)))) (zbo (dOp (dI0 fun i j=>i - j) (zG 0 2 zu (ze (zp 0) (ze (dC (.int 13)) zy))) (dC (.int 6)))) za1) (zac (zdW (dB (dOp (dIb fun i j=>decide (i < j)) (zp 1) (dC (.int 7)))) (zbo (dOp (dI0 fun i j=>i - j) (zG 0 2 zu (ze (zp 0) (ze (dC (.int 2001)) zy))) (dC (.int 1000)))) za1) (zbo (dOp zfJ (dOp (dI0 fun i j=>i - j) (zG 0 2 zu (ze (zp 0) (ze (dOp zfJ (dC (.int 2)) (dOp (dI CPow fun i j=>i ^ j.toNat) (dC (.int 10)) (dC (.int 30)))) zy))) (dOp (dI CPow fun i j=>i ^ j.toNat) (dC (.int 10)) (dC (.int 30)))) (dOp (dI CPow fun i j=>i ^ j.toNat) (dC (.int 10)) (dC (.int 28)))))))) (zcr S.length R) (xs.map some ++ List.replicate 1 none) S
def zkd:PN:=fun xs S R=>(zbo (zdz (ze (dOp zbT (dOp dIx (zp 0) (dC (.int 0))) (dOp dIx (zp 1) (dC (.int 0)))) (ze (dOp zbT (dOp dIx (zp 0) (dC (.int 1))) (dOp dIx (zp 1) (dC (.int 1)))) zy)))) (zcr S.length R) (xs.map some ++ List.replicate 0 none) S
def zcZ:PN:=fun xs S R=>(zac (zau (zdz (ze (dOp zfJ (dOp dIx (zp 0) (dC (.int 0))) (zp 1)) (ze (dOp zfJ (dOp dIx (zp 0) (dC (.int 1))) (zp 1)) zy))) (zo 2)) (zbo (zdz (ze (dCB zi3 (ze (zp 2) zy)) (ze (dCB zru (ze (zp 2) zy)) zy))))) (zcr S.length R) (xs.map some ++ List.replicate 1 none) S
def zaT:PN:=fun xs S R=>(zac (zau (zG 0 2 zu (ze (zp 0) (ze (dC (.int 8)) zy))) (zo 1)) (zac (zdW (dB (dOp (dIb fun i j=>decide (i < j)) (zp 1) (dC (.int 5)))) (zbo (dOp (dI0 fun i j=>i - j) (zG 0 2 zu (ze (zp 0) (ze (dC (.int 13)) zy))) (dC (.int 6)))) za1) (zac (zdW (dB (dOp (dIb fun i j=>decide (i < j)) (zp 1) (dC (.int 7)))) (zbo (dOp (dI0 fun i j=>i - j) (zG 0 2 zu (ze (zp 0) (ze (dC (.int 2001)) zy))) (dC (.int 1000)))) za1) (zbo (dOp zfJ (dOp (dI0 fun i j=>i - j) (zG 0 2 zu (ze (zp 0) (ze (dOp zfJ (dC (.int 2)) (dOp (dI CPow fun i j=>i ^ j.toNat) (dC (.int 10)) (dC (.int 30)))) zy))) (dOp (dI CPow fun i j=>i ^ j.toNat) (dC (.int 10)) (dC (.int 30)))) (dOp (dI CPow fun i j=>i ^ j.toNat) (dC (.int 10)) (dC (.int 28)))))))) (zcr S.length R) (xs.map some ++ List.replicate 1 none) S
def zgS:PN:=fun xs S R=>(zac (zau (zG 0 1 zfE (ze (zp 0) zy)) (zo 1)) (zac (zau (zG 0 2 zu (ze (zp 0) (ze (dC (.int 5)) zy))) (zo 2)) (zac (zdW (dB (dOp zgz (zG 0 2 zu (ze (zp 0) (ze (dC (.int 8)) zy))) (dC (.int 7)))) (zau (zG 0 2 zu (ze (zp 0) (ze (dOp (dI CPow fun i j=>i ^ j.toNat) (dC (.int 10)) (dC (.int 40))) zy))) (zo 2)) za1) (zbo (zdz (ze (zp 1) (ze (dOp zbT (zp 1) (zp 2)) zy))))))) (zcr S.length R) (xs.map some ++ List.replicate 2 none) S
def zaM:PN:=fun xs S R=>(zac (zau (dC (.str "abcdefghijklmnopqrstuvwxyz")) (zo 1)) (zac (zau (zG 0 2 zu (ze (zp 0) (ze (dC (.int 3)) zy))) (zo 2)) (zac (zau (zG 0 2 zu (ze (zp 0) (ze (dC (.int 26)) zy))) (zo 3)) (zac (zau (zfz [none,some 1,some 3] (zbc (ze (dC (.int 8)) zy)) (zo 0) zaB (dOp zfJ (dOp dIx (zp 1) (dOp (dI (fun _ j=>0 < j) fun i j=>i % j) (dOp zbT (zp 2) (dOp zfJ (dC (.int 5)) (zp 0))) (dC (.int 26)))) (dOp zbT (dC (.int 1)) (dOp (dI (fun _ j=>0 < j) fun i j=>i % j) (dOp zbT (zp 2) (dOp zfJ (dC (.int 3)) (zp 0))) (dC (.int 8)))))) (zo 4)) (zac (zdW (dB (dOp zgz (zp 2) (dC (.int 0)))) (zac (zau (zsl znb (dC (.str "")) (ze (zck [none,some 1,some 3] (zbc (ze (dC (.int 8)) zy)) (zo 0) zaB (dOp dIx (zp 1) (dOp (dI (fun _ j=>0 < j) fun i j=>i % j) (dOp zbT (zp 2) (dOp zfJ (dC (.int 7)) (zp 0))) (dC (.int 26))))) zy)) (zo 5)) (zau (zfz [none,some 5] (zbc (ze (dC (.int 8)) zy)) (zo 0) zaB (dSl ziT (zp 1) zbz (zeR (dOp zbT (zp 0) (dC (.int 1)))))) (zo 4))) za1) (zac (zdW (dB (dOp zgz (zp 2) (dC (.int 1)))) (zau (zd8 (ze (dC (.str "part")) (ze (dC (.str "gap")) (ze (dC (.str "cut")) (ze (dC (.str "a")) (ze (dC (.str "aa")) (ze (dC (.str "dear")) (ze (dC (.str "b")) (ze (dC (.str "keeps")) zy))))))))) (zo 4)) za1) (zac (zau (zG 0 2 zu (ze (zp 0) (ze (dC (.int 8)) zy))) (zo 6)) (zac (zau (dOp znN (dSl ziT (zp 4) (zeR (zp 6)) zbz) (dSl ziT (zp 4) zbz (zeR (zp 6)))) (zo 4)) (zac (zdW (dB (dOp zgz (zG 0 2 zu (ze (zp 0) (ze (dC (.int 2)) zy))) (dC (.int 1)))) (zd5 (zsi zfM (zp 4))) za1) (zbo (zp 4))))))))))) (zcr S.length R) (xs.map some ++ List.replicate 6 none) S
def zdD:PN:=fun xs S R=>(zbo (dCB zbL (ze (zck [none] (zbN (zp 0)) (zo 0) zaB (dOp dIx (zp 0) (dC (.int 1)))) zy))) (zcr S.length R) (xs.map some ++ List.replicate 0 none) S
def ze2:PN:=fun xs S R=>(zbo (zdz (ze (dOp dIx (zp 0) (dC (.int 1))) (ze (dOp dIx (zp 0) (dC (.int 2))) zy)))) (zcr S.length R) (xs.map some ++ List.replicate 0 none) S
def zcC:PN:=fun xs S R=>(zac (zau (zd8 zy) (zo 2)) (zac (zg7 (zbN (zp 0)) (zo 3) (zd5 (dBM zgv (zp 2) (ze (zck [none,some 3] (zbN (zp 1)) (zo 0) zaB (dOp zbT (zp 1) (zdz (ze (zp 0) zy)))) zy)))) (zbo (zp 2)))) (zcr S.length R) (xs.map some ++ List.replicate 2 none) S
def zet:PN:=fun xs S R=>(zbo (dCB zre (ze (zck [none,none,some 1] (zbN (dOp dIx (zp 0) (dC (.int 0)))) (zd1 2 (zal (zo 0) (zal (zo 1) zeg))) zaB (dOp zfJ (zp 1) (dOp dIx (zp 2) (zp 0)))) zy))) (zcr S.length R) (xs.map some ++ List.replicate 0 none) S
def zhB:PN:=fun xs S R=>(zbo (ziz (dIb fun i j=>decide (i <= j)) (dIb fun i j=>decide (i <= j)) (dOp dIx (zp 0) (dC (.int 1))) (zar 2 zet (ze (zp 0) (ze (zp 1) zy))) (dOp dIx (zp 0) (dC (.int 2))))) (zcr S.length R) (xs.map some ++ List.replicate 0 none) S
def zcz:PN:=fun xs S R=>(zbo (dUn (dUI fun i=>-i) (dOp dFd (dUn (dUI fun i=>-i) (zp 0)) (zp 1)))) (zcr S.length R) (xs.map some ++ List.replicate 0 none) S
def za6:PN:=fun xs S R=>(zac (zau (zdz (ze (dC (.int 0)) (ze (dC (.int 0)) zy))) (zo 2)) (zac (zg7 (zbN (zp 1)) (zd1 2 (zal (zo 3) (zal (zo 4) zeg))) (zau (zar 2 zkd (ze (zp 2) (ze (zar 2 zcZ (ze (zar 1 ze2 (ze (dOp dIx (zp 0) (zp 3)) zy)) (ze (zp 4) zy))) zy))) (zo 2))) (zbo (zp 2)))) (zcr S.length R) (xs.map some ++ List.replicate 3 none) S
def zeq:PN:=fun xs S R=>(zbo (dCB zbL (ze (zck [none,none] (zbN (zp 0)) (zd1 2 (zal (zo 0) (zal (zo 1) zeg))) zaB (zdz (ze (zp 0) (ze (dUn (dUI fun i=>-i) (zp 1)) zy)))) zy))) (zcr S.length R) (xs.map some ++ List.replicate 0 none) S
def zbG:PN:=fun xs S R=>(zac (zau (dC (.int 0)) (zo 2)) (zac (zau (dC (.int 0)) (zo 3)) (zac (zg7 (zbN (zp 1)) (zd1 2 (zal (zo 4) (zal (zo 5) zeg))) (zac (zau (zgy (ze (dOp zfJ (zp 5) (dOp dIx (dOp dIx (zp 0) (zp 4)) (dC (.int 1)))) (ze (dOp zfJ (zp 5) (dOp dIx (dOp dIx (zp 0) (zp 4)) (dC (.int 2)))) zy))) (zo 6)) (zac (zau (dOp zbT (zp 2) (dCB zi3 (ze (zp 6) zy))) (zo 2)) (zau (dOp zbT (zp 3) (dCB zru (ze (zp 6) zy))) (zo 3))))) (zbo (zdz (ze (zp 2) (ze (zp 3) zy))))))) (zcr S.length R) (xs.map some ++ List.replicate 5 none) S
def zaL:PN:=fun xs S R=>(zac (zdW (dB (dOp (dIb fun i j=>decide (j < i)) (dOp dIx (zar 2 za6 (ze (zp 0) (ze (zp 1) zy))) (dC (.int 0))) (zp 2))) (zbo (dC .none)) za1) (zac (zau (dCB zhC (ze (zar 1 zdD (ze (zp 0) zy)) zy)) (zo 3)) (zac (zau (zp 2) (zo 4)) (zac (zg7 (zhe (ze (zp 1) zy)) (zd1 2 (zal (zo 5) (zal (zo 6) zeg))) (zac (zdW (dB (dOp (dIb fun i j=>decide (i < j)) (dOp dIx (zp 6) (dC (.int 1))) (dC (.int 0)))) (zac (zau (dOp dIx (zar 2 za6 (ze (zp 0) (ze (dSl ziT (zp 1) (zeR (dOp zbT (zp 5) (dC (.int 1)))) zbz) zy))) (dC (.int 0))) (zo 7)) (zau (dCB (dI2 fun i j=>if j > i then j else i) (ze (dOp dIx (zp 3) (dOp dIx (zp 6) (dC (.int 0)))) (ze (zar 2 zcz (ze (dOp (dI0 fun i j=>i - j) (zp 4) (zp 7)) (ze (dOp dIx (zp 6) (dC (.int 1))) zy))) zy))) (zjo (zp 3) (dOp dIx (zp 6) (dC (.int 0)))))) za1) (zau (dOp (dI0 fun i j=>i - j) (zp 4) (dOp zfJ (dOp dIx (zp 6) (dC (.int 1))) (dOp dIx (zp 3) (dOp dIx (zp 6) (dC (.int 0)))))) (zo 4)))) (zbo (dCB zbL (ze (zp 3) zy))))))) (zcr S.length R) (xs.map some ++ List.replicate 5 none) S
def zdE:PN:=fun xs S R=>(zbo (zfz [none,some 1] (zbN (zp 0)) (zo 0) zaB (zar 2 zhB (ze (zp 0) (ze (zp 1) zy))))) (zcr S.length R) (xs.map some ++ List.replicate 0 none) S
def zc0:PN:=fun xs S R=>(zac (zau (zd8 zy) (zo 2)) (zac (zg7 (zbc (ze (dCB zcB (ze (zp 1) zy)) zy)) (zo 3) (zac (zau (dOp (dI0 fun i j=>i - j) (zG 0 2 zu (ze (zp 0) (ze (dC (.int 9)) zy))) (dC (.int 4))) (zo 4)) (zdW (dB (dOp zjP (zp 4) (zdz (ze (dUn (dUI fun i=>-i) (dC (.int 4))) (ze (dC (.int 0)) (ze (dC (.int 4)) zy)))))) (zd5 (dBM zbY (zp 2) (ze (zdz (ze (zp 3) (ze (zp 4) zy))) zy))) za1))) (zac (zdW (dB (dOp zgz (zp 2) (zgy zy))) (zau (zd8 (ze (zdz (ze (zG 0 2 zu (ze (zp 0) (ze (dCB zcB (ze (zp 1) zy)) zy))) (ze (dOp dIx (zgy (ze (dC (.int 1)) (ze (dUn (dUI fun i=>-i) (dC (.int 1))) (ze (dC (.int 2)) (ze (dUn (dUI fun i=>-i) (dC (.int 3))) zy))))) (zG 0 2 zu (ze (zp 0) (ze (dC (.int 4)) zy)))) zy))) zy)) (zo 2)) za1) (zac (zau (zkb 2 zbG (ze (zp 1) (ze (zp 2) zy))) (zd1 2 (zal (zo 5) (zal (zo 6) zeg)))) (zac (zau (dOp (dI0 fun i j=>i - j) (zp 6) (zp 5)) (zo 7)) (zac (zau (dOp zbT (zp 5) (dOp dIx (zgy (ze (dC (.int 0)) (ze (dC (.int 1)) (ze (dUn (dUI fun i=>-i) (dC (.int 1))) (ze (dOp dFd (zp 7) (dC (.int 2))) (ze (dOp dFd (zp 7) (dC (.int 3))) (ze (dOp zbT (zp 7) (dC (.int 1))) zy))))))) (zG 0 2 zu (ze (zp 0) (ze (dC (.int 6)) zy))))) (zo 8)) (zac (zau (dOp zbT (zp 8) (dOp dIx (zgy (ze (dC (.int 0)) (ze (dC (.int 1)) (ze (dC (.int 2)) (ze (dOp dFd (zp 7) (dC (.int 2))) (ze (zp 7) (ze (dOp zbT (zp 7) (dC (.int 2))) zy))))))) (zG 0 2 zu (ze (zp 0) (ze (dC (.int 6)) zy))))) (zo 9)) (zbo (zdz (ze (dCB zbL (ze (zp 2) zy)) (ze (zp 8) (ze (zp 9) zy)))))))))))) (zcr S.length R) (xs.map some ++ List.replicate 8 none) S
def zbx:PN:=fun xs S R=>(zac (zau (zd8 zy) (zo 1)) (zac (zg7 (zbN (dOp dIx (zp 0) (dC (.int 1)))) (zd1 3 (zal (zo 2) (zal (zo 3) (zal (zo 4) zeg)))) (zac (zd5 (dBM zbY (zp 1) (ze (zar 3 zaL (ze (dOp dIx (zp 0) (dC (.int 0))) (ze (zp 2) (ze (dOp (dI0 fun i j=>i - j) (zp 3) (dC (.int 1))) zy)))) zy))) (zd5 (dBM zbY (zp 1) (ze (zar 3 zaL (ze (dOp dIx (zp 0) (dC (.int 0))) (ze (zar 1 zeq (ze (zp 2) zy)) (ze (dOp (dI0 fun i j=>i - j) (dUn (dUI fun i=>-i) (zp 4)) (dC (.int 1))) zy)))) zy))))) (zbo (zp 1)))) (zcr S.length R) (xs.map some ++ List.replicate 4 none) S
def zcE:PN:=fun xs S R=>(zac (zau (zG 0 1 zaT (ze (zp 0) zy)) (zo 1)) (zac (zau (zG 0 2 zu (ze (zp 0) (ze (dC (.int 5)) zy))) (zo 2)) (zac (zdW (dB (dOp zgz (zG 0 2 zu (ze (zp 0) (ze (dC (.int 8)) zy))) (dC (.int 7)))) (zau (zG 0 2 zu (ze (zp 0) (ze (dOp (dI CPow fun i j=>i ^ j.toNat) (dC (.int 10)) (dC (.int 40))) zy))) (zo 2)) za1) (zbo (zdz (ze (zp 1) (ze (dOp zbT (zp 1) (zp 2)) zy))))))) (zcr S.length R) (xs.map some ++ List.replicate 2 none) S
def zek:PN:=fun xs S R=>(zac (zau (zG 0 1 zaM (ze (zp 0) zy)) (zo 2)) (zac (zau (zck [none,some 0] (zbc (ze (dOp zbT (dC (.int 1)) (zG 0 2 zu (ze (zp 0) (ze (zp 1) zy)))) zy)) (zo 0) zaB (dOp zbT (dC (.int 1)) (zG 0 2 zu (ze (zp 1) (ze (dC (.int 3)) zy))))) (zo 3)) (zac (zdW (dB (dOp zgz (zG 0 2 zu (ze (zp 0) (ze (dC (.int 12)) zy))) (dC (.int 0)))) (zau (dOp dIx (zgy (ze (dOp zfJ (zgy (ze (dC (.int 2)) zy)) (dC (.int 8))) (ze (zgy (ze (dC (.int 17)) (ze (dC (.int 17)) zy))) (ze (zgy (ze (dC (.int 300)) zy)) (ze (dOp zfJ (zgy (ze (dC (.int 1)) zy)) (dC (.int 8))) zy))))) (zG 0 2 zu (ze (zp 0) (ze (dC (.int 4)) zy)))) (zo 3)) za1) (zac (zau (zd8 zy) (zo 4)) (zac (zg7 (zbc (ze (dCB zcB (ze (zp 3) zy)) zy)) (zo 5) (zac (zau (zG 0 1 zaT (ze (zp 0) zy)) (zo 6)) (zd5 (dBM zbY (zp 4) (ze (zdz (ze (dOp dIx (zp 2) (zp 5)) (ze (zp 6) (ze (dOp (dI0 fun i j=>i - j) (dOp zbT (zp 6) (dOp dIx (zp 3) (zp 5))) (dC (.int 1))) zy)))) zy))))) (zbo (dCB zbL (ze (zp 4) zy)))))))) (zcr S.length R) (xs.map some ++ List.replicate 5 none) S
def zcD:PN:=fun xs S R=>(zac (zau (zfz [none,some 0,some 1] (zbc (ze (dOp zbT (dC (.int 1)) (zG 0 2 zu (ze (zp 0) (ze (zp 2) zy)))) zy)) (zo 0) zaB (zG 0 2 zc0 (ze (zp 1) (ze (zp 2) zy)))) (zo 3)) (zac (zdW (zpU (dB (dOp zgz (zG 0 2 zu (ze (zp 0) (ze (dC (.int 3)) zy))) (dC (.int 0)))) (dB (dOp (dIb fun i j=>decide (j < i)) (dCB zcB (ze (zp 3) zy)) (dC (.int 1))))) (zau (zdz (ze (dOp dIx (dOp dIx (zp 3) (dC (.int 0))) (dC (.int 0))) (ze (dOp zbT (dOp dIx (dOp dIx (zp 3) (dC (.int 0))) (dC (.int 2))) (dC (.int 1))) (ze (dOp zbT (dOp zbT (dOp dIx (dOp dIx (zp 3) (dC (.int 0))) (dC (.int 2))) (dC (.int 1))) (zG 0 2 zu (ze (zp 0) (ze (dC (.int 3)) zy)))) zy)))) (zjo (zp 3) (dUn (dUI fun i=>-i) (dC (.int 1))))) za1) (zbo (dCB zbL (ze (zp 3) zy))))) (zcr S.length R) (xs.map some ++ List.replicate 1 none) S
def zed:PN:=fun xs S R=>(zac (zau (zck [none] (zbN (zar 1 zbx (ze (zp 0) zy))) (zo 0) (dB (dOp zkN (zp 0) (dC .none))) (zp 0)) (zo 1)) (zac (zdW (zmS (zkY (zp 1))) (zbo (dC .none)) za1) (zac (zau (dCB zi3 (ze (zp 1) zy)) (zo 2)) (zbo (zdz (ze (zp 2) (ze (zsd zko (zar 2 zdE (ze (dOp dIx (zp 0) (dC (.int 1))) (ze (zp 2) zy))) (ze (dC (.bool false)) zy)) zy))))))) (zcr S.length R) (xs.map some ++ List.replicate 2 none) S
def za4:PN:=fun xs S R=>(zac (zau (zG 0 1 zaM (ze (zp 0) zy)) (zo 2)) (zac (zau (zd8 zy) (zo 3)) (zac (zg7 (zbc (ze (dOp zbT (dC (.int 1)) (zG 0 2 zu (ze (zp 0) (ze (zp 1) zy)))) zy)) (zo 4) (zd5 (dBM zbY (zp 3) (ze (dOp zbT (zdz (ze (dOp dIx (zp 2) (zp 4)) zy)) (zG 0 1 zcE (ze (zp 0) zy))) zy)))) (zbo (dCB zbL (ze (zp 3) zy)))))) (zcr S.length R) (xs.map some ++ List.replicate 3 none) S
def zcH:PN:=fun xs S R=>(zbo (zfz [none] (zbN (zp 0)) (zo 0) zaB (dCB zcB (ze (zp 0) zy)))) (zcr S.length R) (xs.map some ++ List.replicate 0 none) S
def zaA:PN:=fun xs S R=>(zbo (dCB zre (ze (zck [none,none] (zgc (ze (zp 0) (ze (zp 1) zy))) (zd1 2 (zal (zo 0) (zal (zo 1) zeg))) zaB (dOp dIx (dOp dIx (zp 0) (zp 1)) (dC (.int 2)))) zy))) (zcr S.length R) (xs.map some ++ List.replicate 0 none) S
def zaK:PN:=fun xs S R=>(zac (zau (zck [none,none] (zgc (ze (zp 1) (ze (zp 2) zy))) (zd1 2 (zal (zo 0) (zal (zo 1) zeg))) zaB (dOp dIx (zp 0) (zp 1))) (zo 3)) (zbo (dCB zbL (ze (zck [none,none] (zgc (ze (zp 0) (ze (zp 3) zy))) (zd1 2 (zal (zo 0) (zal (zo 1) zeg))) zaB (zdz (ze (dOp dIx (zp 0) (dC (.int 0))) (ze (dOp dIx (zp 1) (dC (.int 0))) (ze (dOp dIx (zp 1) (dC (.int 1))) zy))))) zy)))) (zcr S.length R) (xs.map some ++ List.replicate 1 none) S
def zb8:PN:=fun xs S R=>(zac (zdW (dOr (zmS (zkY (dCB zqr (ze (zp 1) (ze (dO (.ty "tuple")) zy))))) (dB (dOp (dIb fun i j=>decide (j < i)) (dCB zcB (ze (zp 1) zy)) (dCB zcB (ze (zp 0) zy))))) (zbo (dC (.bool false))) za1) (zbo (dCB zq6 (ze (zck [none,none] (zgc (ze (zp 1) (ze (zp 0) zy))) (zd1 2 (zal (zo 0) (zal (zo 1) zeg))) zaB (ziW (zar 1 zem (ze (zp 0) zy)) (ziz (dIb fun i j=>decide (i <= j)) (dIb fun i j=>decide (i < j)) (dC (.int 0)) (zp 0) (zp 1)))) zy)))) (zcr S.length R) (xs.map some ++ List.replicate 0 none) S
def zdN:PN:=fun xs S R=>(zbo (ziW (zar 2 zb8 (ze (zar 1 zcH (ze (zp 0) zy)) (ze (zp 1) zy))) (dOp zgz (dCB zcB (ze (zp 1) zy)) (dCB zcB (ze (zp 0) zy))))) (zcr S.length R) (xs.map some ++ List.replicate 0 none) S
def zbO:PN:=fun xs S R=>(zac (zau (zd8 zy) (zo 2)) (zac (zau (dOp dIx (zgy (ze (dC (.int 4)) (ze (dC (.int 4)) (ze (dC (.int 4)) (ze (dOp (dI CPow fun i j=>i ^ j.toNat) (dC (.int 10)) (dC (.int 50))) zy))))) (zG 0 2 zu (ze (zp 0) (ze (dC (.int 4)) zy)))) (zo 3)) (zac (zg7 (zbN (zp 1)) (zd1 3 (zal (zo 4) (zal (zo 5) (zal (zo 6) zeg)))) (zac (zau (zd8 (ze (zdz (ze (zp 5) (ze (zp 6) (ze (dC (.int 0)) zy)))) zy)) (zo 7)) (zac (zg7 (zbc (ze (zG 0 2 zu (ze (zp 0) (ze (dC (.int 4)) zy))) zy)) (zo 8) (zac (zau (dOp dIx (zp 7) (dUn (dUI fun i=>-i) (dC (.int 1)))) (zd1 3 (zal (zo 9) (zal (zo 10) (zal (zo 11) zeg))))) (zdW (dB (dOp (dIb fun i j=>decide (i < j)) (zp 9) (zp 10))) (zac (zau (dOp zbT (zp 9) (zG 0 2 zu (ze (zp 0) (ze (dOp zbT (dCB (dI2 fun i j=>if j < i then j else i) (ze (dOp (dI0 fun i j=>i - j) (zp 10) (zp 9)) (ze (dC (.int 3)) zy))) (dC (.int 1))) zy)))) (zo 12)) (zac (zau (dCB (dI2 fun i j=>if j > i then j else i) (ze (zp 12) (ze (dOp (dI0 fun i j=>i - j) (zp 10) (zG 0 2 zu (ze (zp 0) (ze (dC (.int 3)) zy)))) zy))) (zo 13)) (zac (zdW (zpU (dB (dOp zgz (zp 12) (zp 9))) (dB (dOp zgz (zp 13) (zp 10)))) (zau (dOp zbT (zp 9) (dC (.int 1))) (zo 12)) za1) (zd5 (dBM zbY (zp 7) (ze (zdz (ze (zp 12) (ze (zp 13) (ze (dOp zbT (dOp zbT (zp 11) (dC (.int 1))) (zG 0 2 zu (ze (zp 0) (ze (zp 3) zy)))) zy)))) zy)))))) za1))) (zd5 (dBM zbY (zp 2) (ze (dCB zbL (ze (zp 7) zy)) zy)))))) (zbo (dCB zbL (ze (zp 2) zy)))))) (zcr S.length R) (xs.map some ++ List.replicate 12 none) S
def zcy:PN:=fun xs S R=>(zac (zau (zgy (ze (zdz zy) zy)) (zo 1)) (zac (zg7 (zbN (zp 0)) (zo 2) (zac (zsh (zac (zau (zd8 zy) (zo 3)) (zg7 (zbN (zp 1)) (zo 4) (zd5 (dBM zgv (zp 3) (ze (zck [none,some 4] (zbc (ze (dCB zcB (ze (zp 2) zy)) zy)) (zo 0) zaB (dOp zbT (zp 1) (zdz (ze (zp 0) zy)))) zy)))))) (zau (zp 3) (zo 1)))) (zbo (zp 1)))) (zcr S.length R) (xs.map some ++ List.replicate 4 none) S
def zhU:PN:=fun xs S R=>(zbo (dOp zoL (zar 1 zed (ze (zdz (ze (zar 3 zaK (ze (dOp dIx (zp 0) (dC (.int 0))) (ze (zp 1) (ze (zp 2) zy)))) (ze (dOp dIx (zp 0) (dC (.int 1))) zy))) zy)) (dC .none))) (zcr S.length R) (xs.map some ++ List.replicate 0 none) S
def zbu:PN:=fun xs S R=>(zac (zau (dC (.int 1)) (zo 2)) (zac (zg7 (zbN (dSl ziT (zp 0) (zeR (dCB zcB (ze (zp 1) zy))) zbz)) (zo 3) (zau (dOp zfJ (zp 2) (zp 3)) (zo 2))) (zbo (zp 2)))) (zcr S.length R) (xs.map some ++ List.replicate 2 none) S
def zcx:PN:=fun xs S R=>(zac (zau (zgy (ze (zdz zy) zy)) (zo 1)) (zac (zg7 (zbN (zp 0)) (zo 2) (zau (zar 2 zcC (ze (zp 1) (ze (zjR (ze (zp 2) zy)) zy))) (zo 1))) (zbo (zp 1)))) (zcr S.length R) (xs.map some ++ List.replicate 2 none) S
def zbh:PN:=fun xs S R=>(zac (zau (zar 2 zbu (ze (zp 0) (ze (zdz zy) zy))) (zo 1)) (zdW (dB (dOp (dIb fun i j=>decide (j < i)) (zp 1) (dC (.int 300)))) zjB za1)) (zcr S.length R) (xs.map some ++ List.replicate 1 none) S
def zdm:PN:=fun xs S R=>(zac (zd5 (zar 1 zbh (ze (zar 1 zcH (ze (zp 1) zy)) zy))) (zac (zau (zck [none,some 0,some 1] (zbN (zar 1 zcx (ze (zar 1 zcH (ze (zp 1) zy)) zy))) (zo 0) (zkY (zar 3 zhU (ze (zp 1) (ze (zp 2) (ze (zp 0) zy))))) (zp 0)) (zo 2)) (zbo (zhv [1] (zp 2) (zar 2 zaA (ze (zp 1) (ze (zp 0) zy))))))) (zcr S.length R) (xs.map some ++ List.replicate 1 none) S
def zb9:PN:=fun xs S R=>(zac (zau (zd8 zy) (zo 2)) (zac (zg7 (zbc (ze (dCB zcB (ze (zp 0) zy)) zy)) (zo 3) (zdW (dB (dOp (dIb fun i j=>decide (i < j)) (dOp zbT (dOp dIx (zp 1) (zp 3)) (dC (.int 1))) (dCB zcB (ze (dOp dIx (zp 0) (zp 3)) zy)))) (zd5 (dBM zbY (zp 2) (ze (dOp zbT (dOp zbT (dSl ziT (zp 1) zbz (zeR (zp 3))) (zdz (ze (dOp zbT (dOp dIx (zp 1) (zp 3)) (dC (.int 1))) zy))) (dSl ziT (zp 1) (zeR (dOp zbT (zp 3) (dC (.int 1)))) zbz)) zy))) za1)) (zbo (zp 2)))) (zcr S.length R) (xs.map some ++ List.replicate 2 none) S
def zdL:PN:=fun xs S R=>(zac (zau (zG 0 2 zu (ze (zp 1) (ze (dCB zcB (ze (zp 0) zy)) zy))) (zo 2)) (zac (zau (dOp dIx (dOp dIx (zp 0) (zp 2)) (dUn (dUI fun i=>-i) (dC (.int 1)))) (zd1 3 (zal (zo 3) (zal (zo 4) (zal (zo 5) zeg))))) (zac (zdW (dOr (dB (dOp zgz (dCB zcB (ze (dOp dIx (zp 0) (zp 2)) zy)) (dC (.int 4)))) (dB (dOp zgz (zp 3) (zp 4)))) (zbo (zp 0)) za1) (zbo (dOp zbT (dOp zbT (dSl ziT (zp 0) zbz (zeR (zp 2))) (zdz (ze (dOp zbT (dOp dIx (zp 0) (zp 2)) (zdz (ze (zdz (ze (dOp zbT (zp 3) (dC (.int 1))) (ze (zp 4) (ze (dOp zbT (zp 5) (dC (.int 1))) zy)))) zy))) zy))) (dSl ziT (zp 0) (zeR (dOp zbT (zp 2) (dC (.int 1)))) zbz)))))) (zcr S.length R) (xs.map some ++ List.replicate 4 none) S
def zbv:PN:=fun xs S R=>(zac (zrk (zmm false 4 (.t []) (zij (zlf (fun M=>(zbN (zp 2))) (zo 5) (zm2 4 (fun M=>(zp 5)) (fun M=>(dC (.bool true))))) (zij (zlf (fun M=>(zbN (zp 2))) (zo 5) (zqs (fun M=>(zmS (zkY (dCB zq6 (ze (zck [none,some 4] (zbN (zar 2 zb9 (ze (zp 1) (ze (zp 5) zy)))) (zo 0) zaB (dOp (zqq M false) (zp 0) (zp 1))) zy))))) (zdV (zbo (dC (.bool false)))) (zdV za1))) (zij (zdV (zau (dCB zbL (ze (zck [none] (zbN (zp 1)) (zo 0) zaB (dOp (dI0 fun i j=>i - j) (dCB zcB (ze (zp 0) zy)) (dC (.int 1)))) zy)) (zo 6))) (zij (zqs (fun M=>(dOr (dB (dOp zqP (dOp zoL (zp 3) (dC .none)) (dOp (zqq M true) (zp 6) (zp 4)))) (dB (dOp zqP (dOp zoL (zp 3) (dC .none)) (dOp zgz (zp 2) (zgy zy)))))) (zdV (zbo (dC (.bool false)))) (zdV za1)) (zij (zdV (zdW (dB (dOp zoL (zp 3) (dC .none))) (zbo (dC (.bool true))) za1)) (zqs (fun M=>(dOr (dB (dOp zm7 (zar 2 zdN (ze (zp 1) (ze (zp 3) zy))) (dC (.bool true)))) (dB (dOp (zqq M true) (zp 3) (zp 4))))) (zdV (zbo (dC (.bool false)))) (zdV za1))))))))) (zac (zdW (dB (dOp zkN (zar 1 zed (ze (zdz (ze (zar 3 zaK (ze (dOp dIx (zp 0) (dC (.int 0))) (ze (zp 1) (ze (zp 3) zy)))) (ze (dOp dIx (zp 0) (dC (.int 1))) zy))) zy)) (dC .none))) (zbo (dC (.bool false))) za1) (zbo (dOp zgz (dCB zi3 (ze (zck [none,some 1] (zbN (zp 2)) (zo 0) zaB (zar 2 zaA (ze (zp 1) (ze (zp 0) zy)))) zy)) (zar 2 zaA (ze (zp 1) (ze (zp 3) zy))))))) (zcr S.length R) (xs.map some ++ List.replicate 3 none) S
def zaD:PN:=fun xs S R=>(zac (zau (zar 2 zdm (ze (zp 2) (ze (zp 3) zy))) (zo 5)) (zac (zdW (dB (dOp zoL (zp 4) (dC .none))) (zbo (dC (.bool true))) za1) (zbo (ziW (dOp zkN (zp 5) (dC .none)) (dOp (dIb fun i j=>decide (i <= j)) (zar 2 zaA (ze (zp 3) (ze (zp 5) zy))) (zar 2 zaA (ze (zp 1) (ze (zp 4) zy)))))))) (zcr S.length R) (xs.map some ++ List.replicate 1 none) S
def zpJ:DS:=(zac (zau (zar 1 zc2 (ze (zp 1) zy)) (zo 2)) (zac (zau (dIf (dB (dOp zgz (zG 0 2 zu (ze (zp 2) (ze (dC (.int 2)) zy))) (dC (.int 0)))) (zG 0 2 zek (ze (zp 2) (ze (dC (.int 4)) zy))) (zG 0 2 za4 (ze (zp 2) (ze (dC (.int 4)) zy)))) (zo 3)) (zac (zau (dSl zrq (zp 3) zbz (zeR (dC (.int 4)))) (zo 3)) (zac (zdW (dB (dOp zgz (zG 0 2 zu (ze (zp 2) (ze (dC (.int 6)) zy))) (dC (.int 0)))) (zau (zG 0 2 za4 (ze (zp 2) (ze (dC (.int 8)) zy))) (zo 3)) za1) (zac (zau (zG 0 2 zbO (ze (zp 2) (ze (zp 3) zy))) (zo 4)) (zac (zdW (dB (dOp (dIb fun i j=>decide (j < i)) (dCB zcB (ze (zp 3) zy)) (dC (.int 4)))) (zau (dCB zbL (ze (zck [none] (zbN (zp 4)) (zo 0) zaB (dSl zrq (zp 0) zbz (zeR (dC (.int 2))))) zy)) (zo 4)) za1) (zac (zau (zG 0 3 zcD (ze (zp 2) (ze (zp 3) (ze (dC (.int 3)) zy)))) (zo 5)) (zac (zdW (dB (dOp (dIb fun i j=>decide (j < i)) (zG 0 2 zu (ze (zp 2) (ze (dC (.int 3)) zy))) (dC (.int 0)))) (zac (zau (zar 3 zaK (ze (zp 3) (ze (zp 4) (ze (dCB zbL (ze (zck [none,some 2] (zbN (zp 4)) (zo 0) zaB (zG 0 2 zu (ze (zp 1) (ze (dCB zcB (ze (zp 0) zy)) zy)))) zy)) zy)))) (zo 6)) (zau (dCB zbL (ze (zck [none,some 6] (zbN (zp 5)) (zo 0) zaB (dOp zbT (zdz (ze (dOp dIx (zp 0) (dC (.int 0))) zy)) (zar 2 zbG (ze (zp 1) (ze (dOp dIx (zp 0) (dC (.int 0))) zy))))) zy)) (zo 5))) za1) (zac (zau (zdz (ze (zp 3) (ze (zp 5) zy))) (zo 7)) (zac (zau (zck [none,some 7,some 4] (zbN (zar 1 zcy (ze (zp 4) zy))) (zo 0) (zkY (zar 3 zhU (ze (zp 1) (ze (zp 2) (ze (zp 0) zy))))) (zp 0)) (zo 8)) (zac (zau (zar 2 zdm (ze (zp 7) (ze (zp 4) zy))) (zo 9)) (zac (zdW (zmS (zkY (zar 4 zbv (ze (zp 7) (ze (zp 4) (ze (zp 8) (ze (zp 9) zy))))))) (zbo (dC (.bool false))) za1) (zac (zdW (zpU (dB (dOp (dIb fun i j=>decide (j < i)) (dCB zcB (ze (zp 5) zy)) (dC (.int 1)))) (zmS (zkY (zar 5 zaD (ze (zp 7) (ze (zp 4) (ze (zdz (ze (zp 3) (ze (dSl ziT (zp 5) (zeR (dC (.int 1))) zbz) zy))) (ze (zp 4) (ze (zp 9) zy))))))))) (zbo (dC (.bool false))) za1) (zdW (zpU (dB (dOp (dIb fun i j=>decide (i < j)) (dCB zcB (ze (zp 3) zy)) (dC (.int 5)))) (zmS (zkY (zar 5 zaD (ze (zp 7) (ze (zp 4) (ze (zp 7) (ze (zG 1 2 zdL (ze (zp 4) (ze (zp 2) zy))) (ze (zp 9) zy))))))))) (zbo (dC (.bool false))) za1))))))))))))))
end My
namespace My
open PySem L2
theorem seq1 {t u:DS} {E:DEnds} {δ:XE} {S:Sto} (h:t { E with nx:=u E } δ S):zac t u E δ S:=h
theorem seqm {t u:DSm} {E:DEndsM} {δ:XE} {S:Sto} {M:DM} (h:t { E with nx:=u E } δ S M):zij t u E δ S M:=h
theorem cut {t u:DS} {E:DEnds} {δ:XE} {S:Sto} (I:XE->Sto->Prop) (h1:∀ N:XE->Sto->Prop,(∀ δ' S',I δ' S'->N δ' S')->t { E with nx:=N } δ S) (h2:∀ δ' S',I δ' S'->u E δ' S'):zac t u E δ S:=h1 _ h2
theorem zi2 (i j:Int):PyData.eqv (.int i) (.int j) = decide (i = j):=rfl
theorem zkj (i j:Bool):PyData.eqv (.bool i) (.bool j) = decide (i = j):=by cases i <;> cases j <;> rfl
theorem zqE (i:Int):SeqAt.shaped (.int i) = true:=rfl
theorem zrv (i:Bool):SeqAt.shaped (.bool i) = true:=rfl
theorem zlH:("int" ∈ znJ) = True:=eq_true (by decide)
theorem zkl:("bool" ∈ znJ) = True:=eq_true (by decide)
theorem ziN:("tuple" ∈ znJ) = True:=eq_true (by decide)
theorem zkc:("list" ∈ znJ) = True:=eq_true (by decide)
end My
namespace My
open PySem L2
local macro_rules | `(tactic| walk_at "d")=>`(tactic| (try simp -implicitDefEqProofs only [zau,zrC,zjR,zhv,List.all_cons,List.all_nil,Bool.and_self,zmM,zos,zrk,zmm,zdV,zqs,zlf,zm2,zqq,zlw,zm7,zoK,zr9,zoP,zsT,zrq,zo,zp,dC,dO,dOp,dUn,zy,ze,dCB,zdz,zgy,zd8,dB,zmS,zpU,dOr,ziW,zs7,znB,dIf,ziz,dI,dI0,dIb,dUI,zgz,zqP,zoL,zkN,zrN,zrK,zqW,zrF,zoD,zof,zoC,zoR,zn7,zoB,zoF,zon,zoV,dFd,zkY,zoE,zot,zoh,zbz,zeR,dSl,zcB,zom,zob,zo0,zqr,znP,dI2,zbL,zhC,dBM,zsi,zsl,zsd,zbY,zfM,zgv,zte,znb,zko,znN,zre,zq6,zar,zG,zkb,zox,zim,zfq,zkf,zqx,zsa,zr4,zqL,asL,zo1,zr2,zr1,zrj,zr5,zlp,zmk,zoY,zoH,zoz,zqB,zq0,zlE,zlA,zoX,zn5,zoN,zoy,zbo,zdW,zd5,za1,zjB,zg7,zbN,zn6,zoJ,zbc,zlj,zhe,zgc,zd1,zal,zro,zry,zrE,zrM,zqu,zqG,zeg,zjo,zck,zfz,zaB,znS,zsh,zge,zjY,zkn,zjF,ziF,zgO,List.replicate,List.map_cons,List.map_nil,Option.map_some,Option.bind_some,Option.bind_none,Option.join_some,List.getElem?_cons_zero,List.getElem?_cons_succ,List.set_cons_zero,List.set_cons_succ,List.take_succ_cons,List.take_zero,List.take_nil,List.length_cons,List.length_nil,List.nil_append,List.cons_append,Option.some.injEq,exists_eq_left',exists_eq_left,List.cons.injEq,XV.d.injEq,XV.l.injEq,XV.o.injEq,PyData.int.injEq,PyData.list.injEq,PyData.tuple.injEq,PyData.bool.injEq,PyData.str.injEq,and_true,true_and,decide_eq_true_eq,Bool.not_true,Bool.not_false,Bool.false_eq_true,Bool.true_eq_false,not_true_eq_false,not_false_eq_true,↓reduceIte,decide_true,decide_false,Bool.not_eq_true',zl1,decide_eq_false_iff_not,Nat.reduceAdd,Nat.reduceMul,Nat.zero_add,Nat.reduceLT,Nat.reduceLeDiff,Nat.reduceEqDiff,Int.reduceLT,Int.reduceLE,Int.reduceNeg,Int.reducePow,Int.reduceToNat,Int.reduceEq,Int.reduceAdd,Int.reduceSub,Int.reduceMul,Nat.le_refl,Nat.zero_le,List.length_append,List.length_map,zi2,zkj,zqE,zrv,List.isEmpty_nil,List.isEmpty_cons,Int.cast_ofNat_Int,Int.natCast_zero,Int.natCast_one,zlH,zkl,ziN,zkc,zmK,zj8,zhW,zjN]))
local macro_rules | `(tactic| walk_at "e")=>`(tactic| (try simp -implicitDefEqProofs only [zac,zau,zrC,zjR,zhv,List.all_cons,List.all_nil,Bool.and_self,zmM,zos,zrk,zmm,zdV,zij,zqs,zlf,zm2,zqq,zlw,zm7,zoK,zr9,zoP,zsT,zrq,zo,zp,dC,dO,dOp,dUn,zy,ze,dCB,zdz,zgy,zd8,dB,zmS,zpU,dOr,ziW,zs7,znB,dIf,ziz,dI,dI0,dIb,dUI,zgz,zqP,zoL,zkN,zrN,zrK,zqW,zrF,zoD,zof,zoC,zoR,zn7,zoB,zoF,zon,zoV,dFd,zkY,zoE,zot,zoh,zbz,zeR,dSl,zcB,zom,zob,zo0,zqr,znP,dI2,zbL,zhC,dBM,zsi,zsl,zsd,zbY,zfM,zgv,zte,znb,zko,znN,zre,zq6,zar,zG,zkb,zox,zim,zfq,zkf,zqx,zsa,zr4,zqL,asL,zo1,zr2,zr1,zrj,zr5,zlp,zmk,zoY,zoH,zoz,zqB,zq0,zlE,zlA,zoX,zn5,zoN,zoy,zbo,zdW,zd5,za1,zjB,zg7,zbN,zn6,zoJ,zbc,zlj,zhe,zgc,zd1,zal,zro,zry,zrE,zrM,zqu,zqG,zeg,zjo,zck,zfz,zaB,znS,zsh,zge,zjY,zkn,zjF,ziF,zgO,List.replicate,List.map_cons,List.map_nil,Option.map_some,Option.bind_some,Option.bind_none,Option.join_some,List.getElem?_cons_zero,List.getElem?_cons_succ,List.set_cons_zero,List.set_cons_succ,List.take_succ_cons,List.take_zero,List.take_nil,List.length_cons,List.length_nil,List.nil_append,List.cons_append,Option.some.injEq,exists_eq_left',exists_eq_left,List.cons.injEq,XV.d.injEq,XV.l.injEq,XV.o.injEq,PyData.int.injEq,PyData.list.injEq,PyData.tuple.injEq,PyData.bool.injEq,PyData.str.injEq,and_true,true_and,decide_eq_true_eq,Bool.not_true,Bool.not_false,Bool.false_eq_true,Bool.true_eq_false,not_true_eq_false,not_false_eq_true,↓reduceIte,decide_true,decide_false,Bool.not_eq_true',zl1,decide_eq_false_iff_not,Nat.reduceAdd,Nat.reduceMul,Nat.zero_add,Nat.reduceLT,Nat.reduceLeDiff,Nat.reduceEqDiff,Int.reduceLT,Int.reduceLE,Int.reduceNeg,Int.reducePow,Int.reduceToNat,Int.reduceEq,Int.reduceAdd,Int.reduceSub,Int.reduceMul,Nat.le_refl,Nat.zero_le,List.length_append,List.length_map,zi2,zkj,zqE,zrv,List.isEmpty_nil,List.isEmpty_cons,Int.cast_ofNat_Int,Int.natCast_zero,Int.natCast_one,zlH,zkl,ziN,zkc,zmK,zj8,zhW,zjN]))
section
variable {R:RX}
theorem zgo {n:Int} (q:∀ m,0 <= m->R (.d (.int m)) []):zdn [.d (.int n)] [] R:=by
 unfold zdn
 walk_at "e"
 have h1:=Int.emod_nonneg (n + 7919) (show (2147483647:Int) ≠ 0 by decide)
 have h2:=Int.emod_lt_of_pos (n + 7919) (show (0:Int) < 2147483647 by decide)
 exact ⟨zev (by omega) (by omega),zev (by decide) (by decide),q _ (Int.emod_nonneg _ (by decide))⟩
theorem zx {p:List PyData} {n:Int} (hp:zae p) (hn:0 < n) (hb:n.natAbs.log2 < 9000) (q:∀ r p',0 <= r->r < n->zae p'->R (.d (.int r)) [p']):zu [.l 0,.d (.int n)] [p] R:=by
 obtain ⟨l,g,sd,rfl,hl⟩:=hp
 unfold zu
 walk_at "e"
 split
 ·refine ⟨hn,.inl ⟨⟨hn,hb⟩,0,rfl,?_⟩⟩
  walk_at "e"
  exact q _ _ (Int.emod_nonneg _ (by omega)) (Int.emod_lt_of_pos _ hn) ⟨_,_,_,rfl,Int.ediv_nonneg hl (by omega)⟩
 ·refine zgo fun m _=>?_
  walk_at "e"
  refine zgo fun m' h'=>?_
  walk_at "e"
  refine ⟨2,rfl,?_⟩
  walk_at "e"
  exact .inl ⟨⟨by decide,by decide +kernel⟩,hn,q _ _ (Int.emod_nonneg _ (by omega)) (Int.emod_lt_of_pos _ hn) ⟨_,_,_,rfl,hl⟩⟩
theorem zhJ {n:Int} (q:∀ p,zae p->R (.l 0) [p]):zc2 [.d (.int n)] [] R:=by
 unfold zc2
 walk_at "e"
 refine ⟨⟨by decide,by decide,by decide⟩,?_⟩
 refine .inr (q _ ⟨_,_,_,rfl,?_⟩)
 split <;> omega
theorem zdP {p:List PyData} (hp:zae p) (q:∀ r p',-10 ^ 58 <= r->r <= 10 ^ 58->zae p'->R (.d (.int r)) [p']):zaT [.l 0] [p] R:=by
 unfold zaT
 walk_at "e"
 refine zx hp (by decide) (by decide +kernel) fun r p1 r0 r1 hp1=>?_
 walk_at "e"
 split
 ·refine zx hp1 (by decide) (by decide +kernel) fun r p2 r0 r1 hp2=>?_
  walk_at "e"
  exact q _ _ (by omega) (by omega) hp2
 ·split
  ·refine zx hp1 (by decide) (by decide +kernel) fun r p2 r0 r1 hp2=>?_
   walk_at "e"
   exact q _ _ (by omega) (by omega) hp2
  ·refine ⟨⟨by decide,by decide,by decide⟩,zev (by decide) (by decide),?_⟩
   have k1:(10:Int) ^ 30 = 1000000000000000000000000000000:=by decide +kernel
   have k2:(10:Int) ^ 28 = 10000000000000000000000000000:=by decide +kernel
   refine zx hp1 (by decide +kernel) (by decide +kernel) fun r p2 r0 r1 hp2=>?_
   walk_at "e"
   try simp only [k1,k2] at r1 ⊢
   refine ⟨⟨by decide,by decide,by decide⟩,⟨by decide,by decide,by decide⟩,zso 128 128 (by omega) (by decide +kernel),q _ _ (by omega) (by omega) hp2⟩
theorem zhl {p:List PyData} (hp:zae p) (q:∀ r p',-10 ^ 58 <= r->r <= 10 ^ 58->zae p'->R (.d (.int r)) [p']):zfE [.l 0] [p] R:=zdP hp q
theorem zjs {p:List PyData} (hp:zae p) (q:∀ lo hi p',lo <= hi->-10 ^ 58 <= lo->hi <= 10 ^ 59->zae p'->R (.d (spD lo hi)) [p']):zgS [.l 0] [p] R:=by
 unfold zgS
 walk_at "e"
 refine zhl hp fun lo p1 l0 l1 hp1=>?_
 walk_at "e"
 refine zx hp1 (by decide) (by decide +kernel) fun wd p2 w0 w1 hp2=>?_
 walk_at "e"
 refine zx hp2 (by decide) (by decide +kernel) fun t p3 t0 t1 hp3=>?_
 walk_at "e"
 split
 ·refine ⟨⟨by decide,by decide,by decide⟩,?_⟩
  refine zx hp3 (by decide +kernel) (by decide +kernel) fun wd p4 w0 w1 hp4=>?_
  walk_at "e"
  have k1:(10:Int) ^ 40 = 10000000000000000000000000000000000000000:=by decide +kernel
  try rw [k1] at w1
  exact q lo (lo + wd) _ (by omega) l0 (by omega) hp4
 ·exact q lo (lo + wd) _ (by omega) l0 (by omega) hp3
theorem zgL {p:List PyData} (hp:zae p) (q:∀ lo hi p',lo <= hi->-10 ^ 58 <= lo->hi <= 10 ^ 59->zae p'->R (.d (spD lo hi)) [p']):zcE [.l 0] [p] R:=zjs hp q
end
section
variable {R:RX}
theorem zr6 {α:Type} [Inhabited α] {l:List α} {i:Int} (h0:0 <= i) (h1:i < l.length) (d:α):atI l i = some (l.getD i.toNat d):=by
 obtain ⟨k,rfl⟩:=Int.eq_ofNat_of_zero_le h0
 have hk:k < l.length:=by omega
 rw [zdO (List.getElem?_eq_getElem hk)]
 simp [List.getD_eq_getElem?_getD,hk]
theorem zjO:("abcdefghijklmnopqrstuvwxyz":Str).length = 26:=by decide
theorem znU:("abcdefghijklmnopqrstuvwxyz":Str).cps.toList.length = 26:=by rw [<- zjO]; simp [Str.length]
theorem zhQ:("abcdefghijklmnopqrstuvwxyz":Str).length <= sizeLine:=Nat.le_of_lt (small1000 (by rw [zjO]; decide))
theorem len1 (c:Nat):(⟨#[c]⟩:Str).length = 1:=rfl
abbrev lsgn (i:Int):Str:=⟨#[("abcdefghijklmnopqrstuvwxyz":Str).cps.toList.getD i.toNat 0]⟩
theorem zmw {i:Int} (h0:0 <= i) (h1:i < 26):atI ("abcdefghijklmnopqrstuvwxyz":Str).cps.toList i = some (("abcdefghijklmnopqrstuvwxyz":Str).cps.toList.getD i.toNat 0):=zr6 h0 (by rw [znU]; exact h1) 0
theorem zlF {ds:List PyData} {a b:Option Int} {d:PyData} (m:d ∈ zef ds a b):d ∈ ds:=by
 unfold zef at m
 exact List.mem_of_mem_drop (List.mem_of_mem_take m)
def ze7 (z:Str):Bool:=decide (z.length <= 100) && PyData.strOk z && !decide (z = "zy")
theorem zrx:∀ f < 26,∀ k < 8,ze7 (PySem.Txt.mul (lsgn (((f:Nat) + 5 * (0 + ((k:Nat):Int))) % 26)) (1 + ((f:Nat) + 3 * (0 + ((k:Nat):Int))) % 8)) = true:=by decide +kernel
theorem zqD:∀ f < 26,∀ k < 8,ze7 (PySem.Txt.slice (PySem.Txt.join "" ((List.range 8).map fun k:Nat=>lsgn (((f:Nat) + 7 * (0 + (k:Int))) % 26))) none (some (0 + ((k:Nat):Int) + 1))) = true:=by decide +kernel
theorem zqa {ds:List PyData} (h:∀ d ∈ ds,∃ z:Str,d = .str z/\ze7 z = true):∃ zs:List Str,ds = zs.map PyData.str/\zs.length = ds.length/\∀ z ∈ zs,ze7 z = true:=by
 induction ds with
 | nil=>exact ⟨[],rfl,rfl,by simp⟩
 | cons d ds ih =>
  obtain ⟨z,rfl,hz⟩:=h d List.mem_cons_self
  obtain ⟨zs,rfl,hl,hzs⟩:=ih fun d m=>h d (List.mem_cons_of_mem _ m)
  refine ⟨z :: zs,rfl,by simp,fun y m=>?_⟩
  rcases List.mem_cons.mp m with rfl | m
  ·exact hz
  ·exact hzs y m
theorem zk5 (a b:Str):(a ++ b).length = a.length + b.length:=strLen_append a b
theorem zhV:∀ zs:List Str,(∀ z ∈ zs,z.length <= 1)->(Str.join "" zs).length <= zs.length
 | [],_=>Nat.le_refl 0
 | [a],h=>h a List.mem_cons_self
 | a :: b :: r,h=>by
  show (a ++ "" ++ Str.join "" (b :: r)).length <= _
  rw [zk5,zk5]
  have e:("":Str).length = 0:=rfl
  have h1:=h a List.mem_cons_self
  have h2:=zhV (b :: r) fun z m=>h z (List.mem_cons_of_mem _ m)
  rw [e]
  simp only [List.length_cons] at h2 ⊢
  omega
def zh7 (ds:List PyData):Prop:=∀ d ∈ ds,∃ z:Str,d = .str z/\ze7 z = true
theorem zjn {ds:List PyData} {a:Int} (h0:0 <= a) (h1:a <= ds.length):(zef ds (some a) none ++ zef ds none (some a)).length = ds.length:=by
 obtain ⟨k,rfl⟩:=Int.eq_ofNat_of_zero_le h0
 have e1:HT.sIx ds.length 0 (some (k:Int)) = k:=by rw [HT.sIx_nat]; omega
 have e2:HT.sIx ds.length ds.length (some (k:Int)) = k:=by rw [HT.sIx_nat]; omega
 have e3:HT.sIx ds.length ds.length none = ds.length:=rfl
 have e4:HT.sIx ds.length 0 none = 0:=rfl
 unfold zef
 rw [e1,e2,e3,e4,List.length_append,List.length_take,List.length_take,List.length_drop,List.length_drop]
 omega
def zmD:List Str:=["part","gap","cut","a","aa","dear","b","keeps"]
set_option maxHeartbeats 8000000 in
theorem zej {p:List PyData} (hp:zae p) (q:∀ (ns:List Str) p',ns.length = 8->(∀ z ∈ ns,ze7 z = true)->zae p'->R (.d (.list (ns.map PyData.str))) [p']):zaM [.l 0] [p] R:=by
 unfold zaM
 walk_at "d"
 (refine seq1 ?_; walk_at "d")
 (refine seq1 ?_; walk_at "d")
 refine zx hp (by decide) (by decide +kernel) fun way p1 w0 w1 hp1=>?_
 walk_at "d"
 (refine seq1 ?_; walk_at "d")
 refine zx hp1 (by decide) (by decide +kernel) fun fst p2 f0 f1 hp2=>?_
 walk_at "d"
 refine cut (fun δ' S'=>∃ (ds:List PyData),zh7 ds/\ds.length = 8/\S' = [p2,ds]/\δ' = [some (.l 0),some (.d (.str ("abcdefghijklmnopqrstuvwxyz":Str))),some (.d (.int way)),some (.d (.int fst)),some (.l 1),none,none]) (fun N hN=>?_) ?_
 ·walk_at "d"
  refine cmp1 (S0:=[p2]) (fun k:Nat=>.str (PySem.Txt.mul (lsgn ((fst + 5 * (0 + k)) % 26)) (1 + (fst + 3 * (0 + k)) % 8))) rfl (List.range 8) (by simp) ?_ ?_
  ·intro k mk u acc R' hk
   have b1:=Int.emod_nonneg (fst + 5 * (0 + (k:Int))) (show (26:Int) ≠ 0 by decide)
   have b2:=Int.emod_lt_of_pos (fst + 5 * (0 + (k:Int))) (show (0:Int) < 26 by decide)
   have b3:=Int.emod_nonneg (fst + 3 * (0 + (k:Int))) (show (8:Int) ≠ 0 by decide)
   have b4:=Int.emod_lt_of_pos (fst + 3 * (0 + (k:Int))) (show (0:Int) < 8 by decide)
   walk_at "d"
   refine ⟨zev (by decide) (by decide),zhQ,_,zmw b1 b2,?_⟩
   walk_at "d"
   refine ⟨zev (by decide) (by decide),?_⟩
   walk_at "d"
   exact ⟨by rw [len1]; decide,by omega,by omega,hk _⟩
  ·refine hN _ _ ⟨_,?_,by simp,rfl,rfl⟩
   intro d m
   obtain ⟨k,mk,rfl⟩:=List.mem_map.mp m
   obtain ⟨f,rfl⟩:=Int.eq_ofNat_of_zero_le f0
   exact ⟨_,rfl,zrx f (by omega) k (List.mem_range.mp mk)⟩
 rintro _ _ ⟨ds,hds,hl,rfl,rfl⟩
 refine cut (fun δ' S'=>∃ (ds:List PyData) (T:Sto) (k:Nat) (u:Option XV),zh7 ds/\ds.length = 8/\T[k]? = some ds/\S' = p2 :: T/\δ' = [some (.l 0),some (.d (.str ("abcdefghijklmnopqrstuvwxyz":Str))),some (.d (.int way)),some (.d (.int fst)),some (.l (k + 1)),u,none]) (fun N hN=>?_) ?_
 ·walk_at "d"
  split
  ·refine seq1 ?_
   walk_at "d"
   refine cmp1 (S0:=[p2,ds]) (fun k:Nat=>.str (lsgn ((fst + 7 * (0 + k)) % 26))) rfl (List.range 8) (by simp) ?_ ?_
   ·intro k mk u acc R' hk
    have b1:=Int.emod_nonneg (fst + 7 * (0 + (k:Int))) (show (26:Int) ≠ 0 by decide)
    have b2:=Int.emod_lt_of_pos (fst + 7 * (0 + (k:Int))) (show (0:Int) < 26 by decide)
    walk_at "d"
    refine ⟨zev (by decide) (by decide),zhQ,_,zmw b1 b2,?_⟩
    exact hk _
   ·walk_at "d"
    refine ⟨(List.range 8).map fun k:Nat=>lsgn ((fst + 7 * (0 + k)) % 26),by rw [List.map_map]; rfl,by decide,by simp,fun y m=>?_,?_⟩
    ·obtain ⟨k,_,rfl⟩:=List.mem_map.mp m
     show 1 <= 1000
     decide
    ·have wl:(PySem.Txt.join "" ((List.range 8).map fun k:Nat=>lsgn ((fst + 7 * (0 + k)) % 26))).length <= 8 * 1016:=by
      have:=znR (y:=("":Str)) (zs:=(List.range 8).map fun k:Nat=>lsgn ((fst + 7 * (0 + k)) % 26)) (by decide) (fun y m=>by
       obtain ⟨k,_,rfl⟩:=List.mem_map.mp m
       show 1 <= 1000
       decide)
      simpa using this
     have wl':(PySem.Txt.join "" ((List.range 8).map fun k:Nat=>lsgn ((fst + 7 * (0 + k)) % 26))).length <= 8:=by
      show (Builtin.Str.glued _ _).length <= _
      rw [StrLaws.glued_eq_join]
      have:=zhV ((List.range 8).map fun k:Nat=>lsgn ((fst + 7 * (0 + k)) % 26)) (fun y m=>by
       obtain ⟨k,_,rfl⟩:=List.mem_map.mp m
       exact Nat.le_refl 1)
      simpa using this
     walk_at "d"
     refine cmp1 (S0:=[p2,ds]) (fun k:Nat=>.str (PySem.Txt.slice (PySem.Txt.join "" ((List.range 8).map fun k:Nat=>lsgn ((fst + 7 * (0 + k)) % 26))) none (some (0 + k + 1)))) rfl (List.range 8) (by simp) ?_ ?_
     ·intro k mk u acc R' hk
      walk_at "d"
      exact ⟨Nat.le_trans wl (by rw [sizeLine_eq]; decide),hk _⟩
     ·refine hN _ _ ⟨_,[ds,_],1,_,?_,?_,rfl,rfl,rfl⟩
      ·intro d m
       obtain ⟨k,mk,rfl⟩:=List.mem_map.mp m
       obtain ⟨f,rfl⟩:=Int.eq_ofNat_of_zero_le f0
       exact ⟨_,rfl,zqD f (by omega) k (List.mem_range.mp mk)⟩
      ·simp
  ·exact hN _ _ ⟨ds,[ds],0,none,hds,hl,rfl,rfl,rfl⟩
 rintro _ _ ⟨ds,T,k,u,hds,hl,hk,rfl,rfl⟩
 refine cut (fun δ' S'=>∃ (ds:List PyData) (T:Sto) (k:Nat),zh7 ds/\ds.length = 8/\T[k]? = some ds/\S' = p2 :: T/\δ' = [some (.l 0),some (.d (.str ("abcdefghijklmnopqrstuvwxyz":Str))),some (.d (.int way)),some (.d (.int fst)),some (.l (k + 1)),u,none]) (fun N hN=>?_) ?_
 ·walk_at "d"
  split
  ·refine hN _ _ ⟨zmD.map PyData.str,T ++ [zmD.map PyData.str],T.length,?_,rfl,by rw [List.getElem?_concat_length],rfl,rfl⟩
   intro d m
   obtain ⟨z,hz,rfl⟩:=List.mem_map.mp m
   refine ⟨z,rfl,?_⟩
   simp only [zmD,List.mem_cons,List.not_mem_nil,or_false] at hz
   rcases hz with rfl | rfl | rfl | rfl | rfl | rfl | rfl | rfl <;> decide +kernel
  ·exact hN _ _ ⟨ds,T,k,hds,hl,hk,rfl,rfl⟩
 rintro _ _ ⟨ds,T,k,hds,hl,hk,rfl,rfl⟩
 (refine seq1 ?_; walk_at "d")
 refine zx hp2 (by decide) (by decide +kernel) fun at' p3 a0 a1 hp3=>?_
 walk_at "d"
 (refine seq1 ?_; walk_at "d")
 refine ⟨ds,hk,ds,hk,?_⟩
 have hc:=zjn (ds:=ds) a0 (by omega)
 rw [List.length_append] at hc
 refine ⟨by omega,?_⟩
 have hk2:(T ++ [zef ds (some at') none ++ zef ds none (some at')])[T.length]? = some (zef ds (some at') none ++ zef ds none (some at')):=by rw [List.getElem?_concat_length]
 have hs2:zh7 (zef ds (some at') none ++ zef ds none (some at')):=fun d m=>(List.mem_append.mp m).elim (fun m=>hds d (zlF m)) fun m=>hds d (zlF m)
 have hl2:(zef ds (some at') none ++ zef ds none (some at')).length = 8:=by rw [List.length_append]; omega
 generalize zef ds (some at') none ++ zef ds none (some at') = es at hk2 hs2 hl2 ⊢
 refine seq1 ?_
 walk_at "d"
 refine zx hp3 (by decide) (by decide +kernel) fun r p4 r0 r1 hp4=>?_
 walk_at "d"
 have fin':∀ (fs:List PyData),zh7 fs->fs.length = 8->R (.d (.list fs)) [p4]:=by
  intro fs h1 h2
  obtain ⟨zs,rfl,z1,z2⟩:=zqa h1
  exact q zs p4 (by omega) z2 hp4
 split
 ·refine ⟨by simp,es,hk2,?_⟩
  walk_at "d"
  rw [if_neg (by omega)]
  refine ⟨es.reverse,by simp [zff],.inl (fin' _ (fun d m=>hs2 d (List.mem_reverse.mp m)) (by simpa using hl2))⟩
 ·rw [if_neg (by omega)]
  exact ⟨es,hk2,.inl (fin' _ hs2 hl2)⟩
abbrev Part:=Str × Int × Int
def zgr (p:Part):PyData:=.tuple [.str p.1,.int p.2.1,.int p.2.2]
def zcW (ps:List Part):PyData:=.tuple (ps.map zgr)
structure Prt (p:Part):Prop where
 nm:ze7 p.1 = true
 le:p.2.1 <= p.2.2
 lo:-10 ^ 58 <= p.2.1
 hi:p.2.2 <= 10 ^ 59
structure Drw (ps:List Part):Prop where
 l1:1 <= ps.length
 l8:ps.length <= 8
 all:∀ p ∈ ps,Prt p
theorem zc1 {α:Type} {f:α->PyData} {l:List α} {k:Nat} {x:α} (e:l[k]? = some x):atI (l.map f) (k:Int) = some (f x):=zdO (by rw [List.getElem?_map,e]; rfl)
theorem zf8 {Q:PN} {p:List PyData} {m:Int} {span:PN} {names:PN} (hQ:Q = fun xs S R=>(zac (zau (zG 0 1 names (ze (zp 0) zy)) (zo 2)) (zac (zau (zd8 zy) (zo 3)) (zac (zg7 (zbc (ze (dOp zbT (dC (.int 1)) (zG 0 2 zu (ze (zp 0) (ze (zp 1) zy)))) zy)) (zo 4) (zd5 (dBM zbY (zp 3) (ze (dOp zbT (zdz (ze (dOp dIx (zp 2) (zp 4)) zy)) (zG 0 1 span (ze (zp 0) zy))) zy)))) (zbo (dCB zbL (ze (zp 3) zy)))))) (zcr S.length R) (xs.map some ++ List.replicate 3 none) S)
  (hnames:∀ {p:List PyData} {R:RX},zae p->(∀ (ns:List Str) p',ns.length = 8->(∀ z ∈ ns,ze7 z = true)->zae p'->R (.d (.list (ns.map PyData.str))) [p'])->names [.l 0] [p] R)
  (hspan:∀ {p:List PyData} {R:RX},zae p->(∀ lo hi p',lo <= hi->-10 ^ 58 <= lo->hi <= 10 ^ 59->zae p'->R (.d (spD lo hi)) [p'])->span [.l 0] [p] R)
  (hp:zae p) (m1:0 < m) (m8:m <= 8) (q:∀ (ps:List Part) p',Drw ps->zae p'->R (.d (zcW ps)) [p']):Q [.l 0,.d (.int m)] [p] R:=by
 subst hQ
 walk_at "d"
 (refine seq1 ?_; walk_at "d")
 refine hnames hp fun ns p1 hn hz hp1=>?_
 walk_at "d"
 (refine seq1 ?_; walk_at "d")
 refine seq1 ?_
 walk_at "d"
 refine zx hp1 m1 (zb0 m1 (by omega)) fun r p2 r0 r1 hp2=>?_
 walk_at "d"
 refine zaN (fun i δ S=>∃ (p:List PyData) (ps:List Part) (u:Option XV),zae p/\ps.length = i/\(∀ p ∈ ps,Prt p)/\S = [p,ps.map zgr]/\δ = [some (.l 0),some (.d (.int m)),some (.d (.list (ns.map PyData.str))),some (.l 1),u]) ⟨p2,[],_,hp2,rfl,by simp,rfl,rfl⟩ ?_ ?_
 ·rintro i d _ _ N hi ⟨p,ps,u,hp,hl,ha,rfl,rfl⟩ hN
  obtain ⟨hi',rfl⟩:=zcV hi
  have i8:i < ns.length:=by omega
  have e:=zc1 (f:=PyData.str) (List.getElem?_eq_getElem i8)
  walk_at "d"
  simp only [Int.zero_add]
  refine ⟨_,e,?_⟩
  walk_at "d"
  refine hspan hp fun lo hi p3 h1 h2 h3 hp3=>?_
  simp only [spD]
  walk_at "d"
  refine ⟨by omega,hN _ _ ⟨p3,ps ++ [(ns[i],lo,hi)],_,hp3,by simp [hl],fun x hx=>?_,by simp [zgr],rfl⟩⟩
  rcases List.mem_append.mp hx with hx | hx
  ·exact ha x hx
  ·rw [List.mem_singleton.mp hx]
   exact ⟨hz _ (List.getElem_mem i8),h1,h2,h3⟩
 ·rintro _ _ ⟨p,ps,u,hp,hl,ha,rfl,rfl⟩
  rw [zaj] at hl
  walk_at "d"
  exact q ps p ⟨by omega,by omega,ha⟩ hp
theorem zcv {p:List PyData} {m:Int} (hp:zae p) (m1:0 < m) (m8:m <= 8) (q:∀ (ps:List Part) p',Drw ps->zae p'->R (.d (zcW ps)) [p']):za4 [.l 0,.d (.int m)] [p] R :=
 zf8 (span:=zcE) (names:=zaM) rfl zej zgL hp m1 m8 q
end
section
variable {R:RX} {S:Sto}
theorem zoj {a b m:Int} (h1:m ∈ [a,b]) (h2:∀ x,x ∈ [a,b]->m <= x):m = min a b:=by
 have ha:=h2 a (by simp)
 have hb:=h2 b (by simp)
 simp only [List.mem_cons,List.not_mem_nil,or_false] at h1
 omega
theorem zoq {a b m:Int} (h1:m ∈ [a,b]) (h2:∀ x,x ∈ [a,b]->x <= m):m = max a b:=by
 have ha:=h2 a (by simp)
 have hb:=h2 b (by simp)
 simp only [List.mem_cons,List.not_mem_nil,or_false] at h1
 omega
theorem ztq {a b:Int} (q:R (.d (.int (min a b))) S):zi3 [.d (.list [.int a,.int b])] S R:=.inl ⟨_,rfl,[a,b],rfl,by simp,fun m h1 h2=>by rw [zoj h1 h2]; exact q⟩
theorem ztm {a b:Int} (q:R (.d (.int (min a b))) S):zi3 [.d (.tuple [.int a,.int b])] S R:=.inl ⟨_,rfl,[a,b],rfl,by simp,fun m h1 h2=>by rw [zoj h1 h2]; exact q⟩
theorem ztx {a b:Int} (q:R (.d (.int (max a b))) S):zru [.d (.list [.int a,.int b])] S R:=⟨_,rfl,[a,b],rfl,by simp,fun m h1 h2=>by rw [zoq h1 h2]; exact q⟩
theorem ztl {a b:Int} (q:R (.d (.int (max a b))) S):zru [.d (.tuple [.int a,.int b])] S R:=⟨_,rfl,[a,b],rfl,by simp,fun m h1 h2=>by rw [zoq h1 h2]; exact q⟩
abbrev Term:=Nat × Int
def tmD (t:Term):PyData:=.tuple [.int t.1,.int t.2]
def zmT (ts:List Term):PyData:=.tuple (ts.map tmD)
structure Gap where
 ts:List Term
 lo:Int
 hi:Int
def zjw (g:Gap):PyData:=.tuple [zmT g.ts,.int g.lo,.int g.hi]
theorem zec (g:Gap):zjw g = .tuple [zmT g.ts,.int g.lo,.int g.hi]:=rfl
theorem zjE (t:Term):tmD t = .tuple [.int t.1,.int t.2]:=rfl
theorem zjd (p:Part):zgr p = .tuple [.str p.1,.int p.2.1,.int p.2.2]:=rfl
def zbe (ns:List Int):PyData:=.tuple (ns.map PyData.int)
structure Tms (n:Nat) (ts:List Term):Prop where
 ne:ts ≠ []
 len:ts.length <= n
 ok:∀ t ∈ ts,t.1 < n/\t.2 ≠ 0/\-3 <= t.2/\t.2 <= 3
 srt:ts.Pairwise fun t u=>t.1 < u.1
structure Tm3 (n:Nat) (ts:List Term):Prop where
 len:ts.length <= 100
 ok:∀ t ∈ ts,t.1 < n/\-3 <= t.2/\t.2 <= 3
theorem Tms.tm3 {n:Nat} {ts:List Term} (h:Tms n ts) (hn:n <= 8):Tm3 n ts:=⟨by have:=h.len; omega,fun t m=>⟨(h.ok t m).1,(h.ok t m).2.2⟩⟩
theorem Tm3.of_cons {n:Nat} {t:Term} {ts:List Term} (h:Tm3 n (t :: ts)):Tm3 n ts:=⟨by have:=h.len; rw [List.length_cons] at this; omega,fun u m=>h.ok u (List.mem_cons_of_mem _ m)⟩
theorem Tm3.drop {n:Nat} {ts:List Term} (h:Tm3 n ts) (i:Nat):Tm3 n (ts.drop i):=⟨by have:=h.len; rw [List.length_drop]; omega,fun u m=>h.ok u (List.mem_of_mem_drop m)⟩
def worth (ts:List Term) (ns:List Int):Int:=(ts.map fun t=>t.2 * ns.getD t.1 0).sum
theorem zhm {ns:List Int} {k:Nat} (h:k < ns.length):ns[k]? = some (ns.getD k 0):=by
 rw [List.getElem?_eq_getElem h,List.getD_eq_getElem?_getD,List.getElem?_eq_getElem h]
 rfl
def part (ps:List Part) (k:Nat):Part:=ps.getD k ("",0,0)
theorem zb2 {ps:List Part} {k:Nat} (h:k < ps.length):ps[k]? = some (part ps k):=by
 unfold part
 rw [List.getElem?_eq_getElem h,List.getD_eq_getElem?_getD,List.getElem?_eq_getElem h]
 rfl
theorem zng {ps:List Part} {k:Nat} (h:k < ps.length):part ps k ∈ ps:=List.mem_of_getElem? (zb2 h)
def plo (ps:List Part) (k:Nat):Int:=(part ps k).2.1
def phi (ps:List Part) (k:Nat):Int:=(part ps k).2.2
def tLo (ps:List Part) (t:Term):Int:=min (t.2 * plo ps t.1) (t.2 * phi ps t.1)
def tHi (ps:List Part) (t:Term):Int:=max (t.2 * plo ps t.1) (t.2 * phi ps t.1)
def zag (ps:List Part) (ts:List Term):Int:=(ts.map (tLo ps)).sum
def zcb (ps:List Part) (ts:List Term):Int:=(ts.map (tHi ps)).sum
theorem zeN {ps:List Part} {t:Term} {ts:List Term}:zag ps (t :: ts) = tLo ps t + zag ps ts:=by simp [zag]
theorem zgX {ps:List Part} {t:Term} {ts:List Term}:zcb ps (t :: ts) = tHi ps t + zcb ps ts:=by simp [zcb]
theorem zdk {ns:List Int} {t:Term} {ts:List Term}:worth (t :: ts) ns = t.2 * ns.getD t.1 0 + worth ts ns:=by simp [worth]
theorem zgf {ps:List Part} {ts:List Term} {i:Nat} {t:Term} (h:ts[i]? = some t):zag ps (ts.take (i + 1)) = zag ps (ts.take i) + tLo ps t:=by
 unfold zag
 rw [List.take_add_one,h]
 simp
theorem zgR {ps:List Part} {ts:List Term} {i:Nat} {t:Term} (h:ts[i]? = some t):zcb ps (ts.take (i + 1)) = zcb ps (ts.take i) + tHi ps t:=by
 unfold zcb
 rw [List.take_add_one,h]
 simp
theorem ze6 (ps:List Part):∀ ts:List Term,zag ps ts <= zcb ps ts
 | []=>by simp [zag,zcb]
 | t :: ts=>by
  have:=ze6 ps ts
  rw [zeN,zgX]
  unfold tLo tHi
  omega
theorem zbZ {α:Type} {f:α->PyData} {l:List α} {i:Nat} {d:PyData} (h:(l.map f)[i]? = some d):∃ x,l[i]? = some x/\d = f x:=by
 rw [List.getElem?_map] at h
 obtain ⟨x,e,rfl⟩:=Option.map_eq_some_iff.mp h
 exact ⟨x,e,rfl⟩
theorem zex {ps:List Part} {ts:List Term} {t:PyData} (ht:zkh (.d t) = some (ts.map tmD)) (h3:Tm3 ps.length ts) (q:R (.d (spD (zag ps ts) (zcb ps ts))) []):zbG [.d (zcW ps),.d t] [] R:=by
 unfold zbG zcW
 walk_at "d"
 (refine seq1 ?_; walk_at "d")
 (refine seq1 ?_; walk_at "d")
 refine seq1 ?_
 walk_at "d"
 refine ⟨_,ht,?_⟩
 refine zaN (fun i δ S=>∃ (u1 u2 u3:Option XV),S = []/\δ = [some (.d (.tuple (ps.map zgr))),some (.d t),some (.d (.int (zag ps (ts.take i)))),some (.d (.int (zcb ps (ts.take i)))),u1,u2,u3]) ⟨_,_,_,rfl,rfl⟩ ?_ ?_
 ·rintro i d _ _ N hi ⟨u1,u2,u3,rfl,rfl⟩ hN
  obtain ⟨t,ht,rfl⟩:=zbZ hi
  obtain ⟨t1,t2,t3⟩:=h3.ok t (List.mem_of_getElem? ht)
  have ep:=zc1 (f:=zgr) (zb2 t1)
  unfold tmD
  walk_at "d"
  (refine seq1 ?_; walk_at "d")
  refine ⟨_,ep,?_⟩
  unfold zgr
  walk_at "d"
  refine ⟨zev (by omega) (by omega),_,ep,?_⟩
  unfold zgr
  walk_at "d"
  refine ⟨zev (by omega) (by omega),?_⟩
  (refine seq1 ?_; walk_at "d")
  refine ztq ?_
  walk_at "d"
  refine ztx ?_
  walk_at "d"
  exact hN _ _ ⟨_,_,_,rfl,by rw [zgf ht,zgR ht]; rfl⟩
 ·rintro _ _ ⟨u1,u2,u3,rfl,rfl⟩
  rw [List.length_map,List.take_length]
  walk_at "d"
  exact q
theorem zk8 {ds:List PyData} {r:Int} {P:PyData->Prop} (h0:0 <= r) (h1:r < ds.length) (hP:∀ d ∈ ds,P d):∃ d,atI ds r = some d/\P d:=by
 obtain ⟨k,rfl⟩:=Int.eq_ofNat_of_zero_le h0
 have hk:k < ds.length:=by omega
 exact ⟨ds[k],zdO (List.getElem?_eq_getElem hk),hP _ (List.getElem_mem hk)⟩
theorem zl3 (ds:List PyData):PyData.eqv (.list ds) (.list []) = decide (ds = []):=by
 cases ds with
 | nil=>rfl
 | cons d ds=>rfl
theorem zq4 (t:Term):Shp 1 (tmD t):=zmH (zsw zjh zjh)
theorem zkL (ts:List Term):SeqAt.shaped (.list (ts.map tmD)) = true:=(zhy (ziY fun t _=>zq4 t)).ok
structure GapOk (n:Nat) (g:Gap):Prop where
 ts:Tms n g.ts
 le:g.lo <= g.hi
theorem zhA {p:List PyData} {ps:List Part} (hp:zae p) (hd:Drw ps) (q:∀ g p',GapOk ps.length g->zae p'->R (.d (zjw g)) [p']):zc0 [.l 0,.d (zcW ps)] [p] R:=by
 have h8:=hd.l8
 have h1:=hd.l1
 unfold zc0
 walk_at "d"
 (refine seq1 ?_; walk_at "d")
 refine cut (fun δ S=>∃ (p:List PyData) (ts:List Term) (u1 u2:Option XV),zae p/\ts.length <= ps.length/\(∀ t ∈ ts,t.1 < ps.length/\t.2 ≠ 0/\-3 <= t.2/\t.2 <= 3)/\(ts.Pairwise fun t u=>t.1 < u.1)/\S = [p,ts.map tmD]/\δ = [some (.l 0),some (.d (zcW ps)),some (.l 1),u1,u2,none,none,none,none,none]) (fun N hN=>?_) ?_
 ·walk_at "d"
  refine ⟨ps.length,by unfold zcW; walk_at "d",?_⟩
  refine zaN (fun i δ S=>∃ (p:List PyData) (ts:List Term) (u1 u2:Option XV),zae p/\ts.length <= i/\(∀ t ∈ ts,t.1 < i/\t.2 ≠ 0/\-3 <= t.2/\t.2 <= 3)/\(ts.Pairwise fun t u=>t.1 < u.1)/\S = [p,ts.map tmD]/\δ = [some (.l 0),some (.d (zcW ps)),some (.l 1),u1,u2,none,none,none,none,none]) ⟨p,[],_,_,hp,Nat.le_refl _,by simp,.nil,rfl,rfl⟩ ?_ ?_
  ·rintro i d _ _ N hi ⟨p,ts,u1,u2,hp,hl,ht,hw,rfl,rfl⟩ hN
   obtain ⟨hi',rfl⟩:=zcV hi
   have hi8:i < ps.length:=by simpa using hi'
   walk_at "d"
   (refine seq1 ?_; walk_at "d")
   refine zx hp (by decide) (by decide +kernel) fun r p2 r0 r1 hp2=>?_
   walk_at "d"
   refine ⟨rfl,?_⟩
   simp only [List.any_cons,List.any_nil,Bool.or_false,zi2]
   have low:=hN [some (.l 0),some (.d (zcW ps)),some (.l 1),some (.d (.int (0 + (i:Int)))),some (.d (.int (r - 4))),none,none,none,none,none] [p2,ts.map tmD] ⟨p2,ts,_,_,hp2,by omega,fun t m=>⟨by have:=(ht t m).1; omega,(ht t m).2⟩,hw,rfl,rfl⟩
   by_cases hz:r - 4 = -4\/r - 4 = 0\/r - 4 = 4
   ·have e:(decide ((-4:Int) = r - 4) || (decide ((0:Int) = r - 4) || decide ((4:Int) = r - 4))) = true:=by
     rcases hz with h | h | h <;> simp [h]
    rw [e]
    walk_at "d"
    exact low
   ·have e:(decide ((-4:Int) = r - 4) || (decide ((0:Int) = r - 4) || decide ((4:Int) = r - 4))) = false:=by
     simp
     omega
    rw [e]
    walk_at "d"
    refine ⟨by omega,hN _ _ ⟨p2,ts ++ [(i,r - 4)],_,_,hp2,by simp; omega,fun t m=>?_,?_,by simp [tmD],rfl⟩⟩
    ·rcases List.mem_append.mp m with m | m
     ·exact ⟨by have:=(ht t m).1; omega,(ht t m).2⟩
     ·rw [List.mem_singleton.mp m]
      exact ⟨by simp,by simp only; omega,by simp only; omega,by simp only; omega⟩
    ·rw [List.pairwise_append]
     exact ⟨hw,by simp,fun t m u m'=>by rw [List.mem_singleton.mp m']; exact (ht t m).1⟩
  ·rintro _ _ ⟨p,ts,u1,u2,hp,hl,ht,hw,rfl,rfl⟩
   rw [zaj] at hl ht
   have hz:(ps.length:Int).toNat = ps.length:=by simp
   rw [hz] at hl ht
   exact hN _ _ ⟨p,ts,u1,u2,hp,hl,ht,hw,rfl,rfl⟩
 rintro _ _ ⟨p,ts,u1,u2,hp,hl,ht,hw,rfl,rfl⟩
 refine cut (fun δ S=>∃ (p:List PyData) (ts:List Term) (T:Sto) (k:Nat),zae p/\Tms ps.length ts/\T[k]? = some (ts.map tmD)/\S = p :: T/\δ = [some (.l 0),some (.d (zcW ps)),some (.l (k + 1)),u1,u2,none,none,none,none,none]) (fun N hN=>?_) ?_
 ·walk_at "d"
  refine ⟨zkL ts,rfl,?_⟩
  rw [zl3]
  walk_at "d"
  split
  ·refine ⟨ps.length,by unfold zcW; walk_at "d",?_⟩
   refine zx hp (by omega) (zb0 (by omega) (by omega)) fun r p2 r0 r1 hp2=>?_
   walk_at "d"
   refine zx hp2 (by decide) (by decide +kernel) fun r3 p3 r2 r4 hp3=>?_
   obtain ⟨d,ed,n,rfl,hn⟩:=zk8 (ds:=[PyData.int 1,PyData.int (-1),PyData.int 2,PyData.int (-3)]) (P:=fun d=>∃ n,d = .int n/\n ≠ 0/\-3 <= n/\n <= 3) r2 r4 (by
    intro d m
    simp only [List.mem_cons,List.not_mem_nil,or_false] at m
    rcases m with rfl | rfl | rfl | rfl <;> exact ⟨_,rfl,by decide,by decide,by decide⟩)
   obtain ⟨k,rfl⟩:=Int.eq_ofNat_of_zero_le r0
   walk_at "d"
   refine ⟨_,ed,?_⟩
   walk_at "d"
   refine hN _ _ ⟨p3,[(k,n)],[ts.map tmD,[tmD (k,n)]],1,hp3,⟨by simp,by simpa using h1,fun t m=>by rw [List.mem_singleton.mp m]; exact ⟨by simp only; omega,hn⟩,by simp⟩,rfl,rfl,rfl⟩
  ·rename_i hne
   exact hN _ _ ⟨p,ts,[ts.map tmD],0,hp,⟨fun z=>hne (by rw [z]; rfl),hl,ht,hw⟩,rfl,rfl,rfl⟩
 rintro _ _ ⟨p,ts,T,k,hp,hts,hk,rfl,rfl⟩
 (refine seq1 ?_; walk_at "d")
 rw [hk]
 walk_at "d"
 refine zex rfl (hts.tm3 h8) ?_
 have lm:=ze6 ps ts
 unfold spD
 walk_at "d"
 refine ⟨rfl,?_⟩
 walk_at "d"
 (refine seq1 ?_; walk_at "d")
 (refine seq1 ?_; walk_at "d")
 refine .inl ⟨⟨by decide,by decide +kernel⟩,.inl ⟨⟨by decide,by decide +kernel⟩,?_⟩⟩
 walk_at "d"
 refine zx hp (by decide) (by decide +kernel) fun r p2 r0 r1 hp2=>?_
 obtain ⟨d,ed,n,rfl⟩:=zk8 (P:=fun d=>∃ n,d = .int n) (ds:=[PyData.int 0,PyData.int 1,PyData.int (-1),PyData.int ((zcb ps ts - zag ps ts) / 2),PyData.int ((zcb ps ts - zag ps ts) / 3),PyData.int (zcb ps ts - zag ps ts + 1)]) r0 r1 (by simp)
 walk_at "d"
 refine ⟨_,ed,?_⟩
 walk_at "d"
 (refine seq1 ?_; walk_at "d")
 refine .inl ⟨⟨by decide,by decide +kernel⟩,?_⟩
 walk_at "d"
 refine zx hp2 (by decide) (by decide +kernel) fun r' p3 r2 r3 hp3=>?_
 obtain ⟨d,ed,n',rfl,h0⟩:=zk8 (P:=fun d=>∃ n,d = .int n/\0 <= n) (ds:=[PyData.int 0,PyData.int 1,PyData.int 2,PyData.int ((zcb ps ts - zag ps ts) / 2),PyData.int (zcb ps ts - zag ps ts),PyData.int (zcb ps ts - zag ps ts + 2)]) r2 r3 (by simp; omega)
 walk_at "d"
 refine ⟨_,ed,?_⟩
 walk_at "d"
 refine ⟨_,hk,?_⟩
 walk_at "d"
 exact q ⟨ts,_,_⟩ p3 ⟨hts,by simp only; omega⟩ hp3
def zfk (gs:List Gap):PyData:=.tuple (gs.map zjw)
structure Gaps (n:Nat) (gs:List Gap):Prop where
 l1:1 <= gs.length
 l6:gs.length <= 6
 all:∀ g ∈ gs,GapOk n g
theorem zsE {g:DG} {te:DE} {fin:Sto->Prop} {α:Type} (F:α->Prop) (f:α->PyData) (P:XE->Prop):∀ (ds:List PyData) (acc:List α) (p:List PyData) (τ:XE),P τ->zae p->acc.length + ds.length <= 1000 ->
  (∀ d ∈ ds,∀ τ p acc (R:XE->RX),P τ->zae p->(∀ τ' x p',P τ'->zae p'->F x->R τ' (.d (f x)) [p',acc])->g (.d d) τ [p,acc] fun τ1 S1=>te τ1 S1 (R τ1)) ->
  (∀ xs p',zae p'->(∀ x ∈ xs,F x)->xs.length = ds.length->fin [p',(acc ++ xs).map f])->zeL 1 g zaB te fin ds τ [p,acc.map f]
 | [],acc,p,τ,_,hp,_,_,h=>by
  have:=h [] p hp (by simp) rfl
  rw [List.append_nil] at this
  exact this
 | d :: ds,acc,p,τ,hP,hp,hl,el,h=>by
  show g (.d d) τ [p,acc.map f] fun τ1 S1=>zaB τ1 S1 fun b S2=>if b = true then te τ1 S2 fun x S3=>asD x fun e=>∃ acc,S3[1]? = some acc/\acc.length < 1000/\zeL 1 g zaB te fin ds τ1 (S3.set 1 (acc ++ [e])) else zeL 1 g zaB te fin ds τ1 S2
  simp only [zaB,↓reduceIte]
  rw [List.length_cons] at hl
  refine el d List.mem_cons_self τ p (acc.map f) (fun τ1 x S3=>asD x fun e=>∃ acc,S3[1]? = some acc/\acc.length < 1000/\zeL 1 g zaB te fin ds τ1 (S3.set 1 (acc ++ [e]))) hP hp fun τ' x p' hP' hp' hF=>?_
  refine ⟨acc.map f,rfl,by rw [List.length_map]; omega,?_⟩
  have e:([p',acc.map f]:Sto).set 1 (acc.map f ++ [f x]) = [p',(acc ++ [x]).map f]:=by simp
  rw [e]
  refine zsE F f P ds (acc ++ [x]) p' τ' hP' hp' (by rw [List.length_append,List.length_singleton]; omega) (fun e m=>el e (List.mem_cons_of_mem _ m)) fun xs p'' hp'' fs hl=>?_
  rw [List.append_assoc]
  exact h (x :: xs) p'' hp'' (fun y m=>(List.mem_cons.mp m).elim (fun e=>e ▸ hF) (fs y)) (by simp [hl])
theorem zgF {p:List PyData} {ps:List Part} {m:Int} (hp:zae p) (hd:Drw ps) (m1:0 < m) (m6:m <= 6) (q:∀ gs p',Gaps ps.length gs->(gs.length:Int) <= m->zae p'->R (.d (zfk gs)) [p']):zcD [.l 0,.d (zcW ps),.d (.int m)] [p] R:=by
 unfold zcD
 walk_at "d"
 (refine seq1 ?_; walk_at "d")
 refine zx hp m1 (zb0 m1 (by omega)) fun r p1 r0 r1 hp1=>?_
 walk_at "d"
 refine zsE (α:=Gap) (GapOk ps.length) zjw (fun τ=>∃ u,τ = [u,some (.l 0),some (.d (zcW ps))]) _ [] p1 _ ⟨_,rfl⟩ hp1 (by rw [zaj]; simp; omega) ?_ ?_
 ·rintro d md _ p acc R' ⟨u,rfl⟩ hp hk
  walk_at "d"
  refine zhA hp hd fun g p' hg hp'=>?_
  walk_at "d"
  exact hk _ g p' ⟨_,rfl⟩ hp' hg
 ·intro gs p2 hp2 hg hl
  rw [zaj] at hl
  rw [List.nil_append]
  have l1:1 <= gs.length:=by omega
  have l6:(gs.length:Int) <= m:=by omega
  walk_at "d"
  refine cut (fun δ S=>∃ (p:List PyData) (gs:List Gap),zae p/\Gaps ps.length gs/\(gs.length:Int) <= m/\S = [p,gs.map zjw]/\δ = [some (.l 0),some (.d (zcW ps)),some (.d (.int m)),some (.l 1)]) (fun N hN=>?_) ?_
  ·walk_at "d"
   refine zx hp2 (by decide) (by decide +kernel) fun r2 p3 r3 r4 hp3=>?_
   walk_at "d"
   have no:=hN [some (.l 0),some (.d (zcW ps)),some (.d (.int m)),some (.l 1)] [p3,gs.map zjw] ⟨p3,gs,hp3,⟨l1,by omega,hg⟩,l6,rfl,rfl⟩
   split
   ·split
    ·obtain ⟨g0,hg0⟩:∃ g0,gs[0]? = some g0:=⟨gs[0],List.getElem?_eq_getElem (by omega)⟩
     have e0:=zc1 (f:=zjw) hg0
     have ok0:=hg g0 (List.mem_of_getElem? hg0)
     refine ⟨_,e0,?_⟩
     rw [zec]
     walk_at "d"
     refine ⟨_,e0,?_⟩
     rw [zec]
     walk_at "d"
     refine ⟨_,e0,?_⟩
     rw [zec]
     walk_at "d"
     refine zx hp3 (by decide) (by decide +kernel) fun r5 p4 r6 r7 hp4=>?_
     walk_at "d"
     obtain ⟨j,hj⟩:∃ j,ixN gs.length (-1) = some j/\j < gs.length:=⟨gs.length - 1,by unfold ixN; rw [if_neg (by omega),if_pos (by omega)]; congr 1; omega,by omega⟩
     refine ⟨j,hj.1,hN _ _ ⟨p4,gs.set j ⟨g0.ts,g0.hi + 1,g0.hi + 1 + r5⟩,hp4,⟨by simp; omega,by simp; omega,fun g mg=>?_⟩,by simp; omega,by simp only [List.map_set,zjw],rfl⟩⟩
     rcases List.mem_or_eq_of_mem_set mg with h | rfl
     ·exact hg g h
     ·exact ⟨ok0.ts,by simp only; omega⟩
    ·exact no
   ·exact no
  ·rintro _ _ ⟨p,gs,hp,hgs,hm,rfl,rfl⟩
   walk_at "d"
   exact q gs p hgs hm hp
end
section
variable {R:RX} {S:Sto}
theorem zpN {a b c d:Int} (q:R (.d (spD (a + c) (b + d))) []):zkd [.d (spD a b),.d (spD c d)] [] R:=by
 unfold zkd spD
 walk_at "e"
 exact q
theorem zhI {a b n:Int} (h1:-3 <= n) (h2:n <= 3) (q:R (.d (spD (min (a * n) (b * n)) (max (a * n) (b * n)))) []):zcZ [.d (spD a b),.d (.int n)] [] R:=by
 unfold zcZ spD
 walk_at "e"
 refine ⟨zmo (by omega) (by omega),zmo (by omega) (by omega),?_⟩
 refine ztm ?_
 walk_at "e"
 refine ztl ?_
 walk_at "e"
 exact q
theorem zkM {p:Part} (q:R (.d (spD p.2.1 p.2.2)) []):ze2 [.d (zgr p)] [] R:=by
 unfold ze2 zgr
 walk_at "e"
 exact q
theorem zsq {ps:List Part} {t:Term}:min ((part ps t.1).2.1 * t.2) ((part ps t.1).2.2 * t.2) = tLo ps t:=by
 unfold tLo plo phi
 rw [Int.mul_comm t.2,Int.mul_comm t.2]
theorem zsD {ps:List Part} {t:Term}:max ((part ps t.1).2.1 * t.2) ((part ps t.1).2.2 * t.2) = tHi ps t:=by
 unfold tHi plo phi
 rw [Int.mul_comm t.2,Int.mul_comm t.2]
theorem zdr {ps:List Part} {ts:List Term} {t:PyData} (ht:zkh (.d t) = some (ts.map tmD)) (h3:Tm3 ps.length ts) (q:R (.d (spD (zag ps ts) (zcb ps ts))) []):za6 [.d (zcW ps),.d t] [] R:=by
 unfold za6 zcW
 walk_at "d"
 (refine seq1 ?_; walk_at "d")
 refine seq1 ?_
 walk_at "d"
 refine ⟨_,ht,?_⟩
 refine zaN (fun i δ S=>∃ (u1 u2:Option XV),S = []/\δ = [some (.d (.tuple (ps.map zgr))),some (.d t),some (.d (spD (zag ps (ts.take i)) (zcb ps (ts.take i)))),u1,u2]) ⟨_,_,rfl,rfl⟩ ?_ ?_
 ·rintro i d _ _ N hi ⟨u1,u2,rfl,rfl⟩ hN
  obtain ⟨t,ht,rfl⟩:=zbZ hi
  obtain ⟨t1,t2,t3⟩:=h3.ok t (List.mem_of_getElem? ht)
  have ep:=zc1 (f:=zgr) (zb2 t1)
  rw [zjE]
  walk_at "d"
  refine ⟨_,ep,?_⟩
  refine zkM ?_
  walk_at "d"
  refine zhI t2 t3 ?_
  walk_at "d"
  refine zpN ?_
  walk_at "d"
  exact hN _ _ ⟨_,_,rfl,by rw [zgf ht,zgR ht,<- zsq,<- zsD]⟩
 ·rintro _ _ ⟨u1,u2,rfl,rfl⟩
  rw [List.length_map,List.take_length]
  walk_at "d"
  exact q
def zgu (ps:List Part):List Int:=ps.map fun p=>p.2.1
theorem zkt {ps:List Part} {k:Nat} (h:k < ps.length):(zgu ps).getD k 0 = plo ps k:=by
 unfold zgu plo
 rw [List.getD_eq_getElem?_getD,List.getElem?_map,zb2 h]
 rfl
theorem zis {ps:List Part} (hl:ps.length <= 100) (q:R (.d (zbe (zgu ps))) []):zdD [.d (zcW ps)] [] R:=by
 unfold zdD zcW
 walk_at "e"
 refine cmp1 (S0:=[]) (fun p:Part=>.int p.2.1) rfl ps (by omega) ?_ ?_
 ·intro p mp u acc R' hk
  rw [zjd]
  walk_at "e"
  exact hk _
 ·walk_at "e"
  have e:zbe (zgu ps) = .tuple (ps.map fun p:Part=>PyData.int p.2.1):=by
   unfold zbe zgu
   rw [List.map_map]
   rfl
  rw [e] at q
  exact q
theorem zjp {g:Gap} {ns:List Int} (h3:Tm3 ns.length g.ts) (q:R (.d (.int (worth g.ts ns))) []):zet [.d (zjw g),.d (zbe ns)] [] R:=by
 unfold zet zbe
 rw [zec,zmT]
 walk_at "e"
 refine cmp2 (S0:=[]) (fun t:Term=>.int (t.2 * ns.getD t.1 0)) rfl g.ts (by have:=h3.len; omega) ?_ ?_
 ·intro t mt u v acc R' hk
  obtain ⟨t1,t2,t3⟩:=h3.ok t mt
  have e:=zc1 (f:=PyData.int) (zhm t1)
  rw [zjE]
  walk_at "e"
  refine ⟨_,e,?_⟩
  walk_at "e"
  exact ⟨zev (by omega) (by omega),hk _ _⟩
 ·walk_at "e"
  refine ⟨g.ts.map fun t:Term=>t.2 * ns.getD t.1 0,by rw [List.map_map]; rfl,q⟩
def zcw (g:Gap) (ns:List Int):Bool:=decide (g.lo <= worth g.ts ns/\worth g.ts ns <= g.hi)
theorem znn {g:Gap} {ns:List Int} (h3:Tm3 ns.length g.ts) (q:R (.d (.bool (zcw g ns))) []):zhB [.d (zjw g),.d (zbe ns)] [] R:=by
 unfold zhB
 walk_at "e"
 rw [zec]
 walk_at "e"
 rw [<- zec]
 refine zjp h3 ?_
 walk_at "e"
 unfold zcw at q
 by_cases h:g.lo <= worth g.ts ns
 ·simp only [h,true_and] at q
  rw [if_pos h]
  exact q
 ·simp only [h,false_and,decide_false] at q
  rw [if_neg h]
  exact q
def zm0 (a t:Int):Int:=-(a / (-t))
theorem zgH {a t:Int} (h1:-3 <= t) (h2:t < 0) (q:R (.d (.int (zm0 a t))) []):zcz [.d (.int a),.d (.int t)] [] R:=by
 unfold zcz
 walk_at "e"
 refine .inr ⟨⟨by omega,by omega⟩,?_⟩
 have e:(-a).fdiv t = a / (-t):=by
  have h:=Int.neg_fdiv_neg a (-t)
  rw [Int.neg_neg] at h
  rw [h,Int.fdiv_eq_ediv_of_nonneg _ (by omega)]
 rw [e]
 exact q
theorem zi7 {a t x:Int} (h2:t < 0):zm0 a t <= x ↔ t * x <= a:=by
 unfold zm0
 have e:t * x = -(x * (-t)):=by rw [Int.mul_neg,Int.neg_neg,Int.mul_comm]
 have k:-x <= a / (-t) ↔ -x * (-t) <= a:=Int.le_ediv_iff_mul_le (by omega)
 rw [Int.neg_mul] at k
 rw [e]
 omega
def pick (ps:List Part) (t:Term) (ts:List Term) (left:Int):Int:=if t.2 < 0 then max (plo ps t.1) (zm0 (left - zag ps ts) t.2) else plo ps t.1
def GR (ps:List Part):List Term->Int->List Int->Prop
 | [],_,_=>True
 | t :: ts,left,res=>res.getD t.1 0 = pick ps t ts left/\GR ps ts (left - t.2 * pick ps t ts left) res
structure InBox (ps:List Part) (ns:List Int):Prop where
 len:ns.length = ps.length
 ok:∀ k,k < ps.length->plo ps k <= ns.getD k 0/\ns.getD k 0 <= phi ps k
def Ord (ps:List Part):Prop:=∀ p ∈ ps,p.2.1 <= p.2.2
theorem Drw.ord {ps:List Part} (h:Drw ps):Ord ps:=fun p m=>(h.all p m).le
theorem Ord.at {ps:List Part} (h:Ord ps) {k:Nat} (hk:k < ps.length):plo ps k <= phi ps k:=h _ (zng hk)
theorem zl7 {ps:List Part} {t:Term} (o:plo ps t.1 <= phi ps t.1) (h1:-3 <= t.2) (h2:t.2 < 0):tLo ps t = t.2 * phi ps t.1:=by
 unfold tLo
 have:t.2 = -3\/t.2 = -2\/t.2 = -1:=by omega
 rcases this with e | e | e <;> rw [e] <;> omega
theorem zk0 {ps:List Part} {t:Term} (o:plo ps t.1 <= phi ps t.1) (h1:t.2 <= 3) (h2:0 <= t.2):tLo ps t = t.2 * plo ps t.1:=by
 unfold tLo
 have:t.2 = 0\/t.2 = 1\/t.2 = 2\/t.2 = 3:=by omega
 rcases this with e | e | e | e <;> rw [e] <;> omega
theorem zl4 {ps:List Part} {t:Term} {ts:List Term} {left:Int} (o:plo ps t.1 <= phi ps t.1) (h1:-3 <= t.2) (h2:t.2 <= 3) (hl:zag ps (t :: ts) <= left) :
  plo ps t.1 <= pick ps t ts left/\pick ps t ts left <= phi ps t.1/\zag ps ts <= left - t.2 * pick ps t ts left:=by
 rw [zeN] at hl
 unfold pick
 by_cases hn:t.2 < 0
 ·rw [if_pos hn]
  rw [zl7 o h1 hn] at hl
  have a1:=(zi7 (a:=left - zag ps ts) (x:=phi ps t.1) hn).mpr (by omega)
  have a2:=(zi7 (a:=left - zag ps ts) (x:=max (plo ps t.1) (zm0 (left - zag ps ts) t.2)) hn).mp (by omega)
  omega
 ·rw [if_neg hn]
  rw [zk0 o h2 (by omega)] at hl
  omega
theorem GR.worth_le {ps:List Part} (ho:Ord ps) {res:List Int}:∀ {ts:List Term} {left:Int},Tm3 ps.length ts->zag ps ts <= left->GR ps ts left res->worth ts res <= left
 | [],left,_,hl,_=>by simpa [worth,zag] using hl
 | t :: ts,left,h3,hl,⟨h1,h2⟩=>by
  obtain ⟨t1,t2,t3⟩:=h3.ok t List.mem_cons_self
  obtain ⟨_,_,a3⟩:=zl4 (ho.at t1) t2 t3 hl
  have:=GR.worth_le ho h3.of_cons a3 h2
  rw [zdk,h1]
  omega
theorem GR.box {ps:List Part} (ho:Ord ps) {res:List Int}:∀ {ts:List Term} {left:Int},Tm3 ps.length ts->zag ps ts <= left->GR ps ts left res->∀ t ∈ ts,plo ps t.1 <= res.getD t.1 0/\res.getD t.1 0 <= phi ps t.1
 | [],left,_,hl,_=>by simp
 | t :: ts,left,h3,hl,⟨h1,h2⟩=>by
  obtain ⟨t1,t2,t3⟩:=h3.ok t List.mem_cons_self
  obtain ⟨a1,a2,a3⟩:=zl4 (ho.at t1) t2 t3 hl
  have:=GR.box ho h3.of_cons a3 h2
  intro u m
  rcases List.mem_cons.mp m with rfl | m
  ·rw [h1]; exact ⟨a1,a2⟩
  ·exact this u m
theorem zfP {ps:List Part} {ms:List Int} (hb:InBox ps ms):∀ {ts:List Term},Tm3 ps.length ts->zag ps ts <= worth ts ms/\worth ts ms <= zcb ps ts
 | [],_=>by simp [zag,zcb,worth]
 | t :: ts,h3=>by
  obtain ⟨t1,t2,t3⟩:=h3.ok t List.mem_cons_self
  obtain ⟨b1,b2⟩:=hb.ok t.1 t1
  have ih:=zfP hb h3.of_cons
  rw [zeN,zgX,zdk]
  have k:tLo ps t <= t.2 * ms.getD t.1 0/\t.2 * ms.getD t.1 0 <= tHi ps t:=by
   unfold tLo tHi
   generalize plo ps t.1 = lo at b1 b2 ⊢
   generalize phi ps t.1 = hi at b1 b2 ⊢
   generalize ms.getD t.1 0 = x at b1 b2 ⊢
   have:t.2 = -3\/t.2 = -2\/t.2 = -1\/t.2 = 0\/t.2 = 1\/t.2 = 2\/t.2 = 3:=by omega
   rcases this with e | e | e | e | e | e | e <;> rw [e] <;> omega
  omega
theorem GR.first {ps:List Part} {res ms:List Int} (hb:InBox ps ms) {k:Nat} (heq:∀ j,j < k->ms.getD j 0 = res.getD j 0) (hlt:ms.getD k 0 < res.getD k 0):∀ {ts:List Term} {left:Int},Tm3 ps.length ts->(ts.Pairwise fun t u=>t.1 < u.1)->GR ps ts left res->(∃ t ∈ ts,t.1 = k)->left < worth ts ms
 | [],left,_,_,_,⟨t,m,_⟩=>by cases m
 | t :: ts,left,h3,hw,⟨h1,h2⟩,⟨u,mu,eu⟩=>by
  obtain ⟨t1,t2,t3⟩:=h3.ok t List.mem_cons_self
  rw [List.pairwise_cons] at hw
  rw [zdk]
  rcases List.mem_cons.mp mu with rfl | mu
  ·have b:=(hb.ok u.1 t1).1
   subst eu
   rw [h1] at hlt
   have lw:=(zfP hb h3.of_cons).1
   unfold pick at hlt
   by_cases hn:u.2 < 0
   ·rw [if_pos hn] at hlt
    have:¬ zm0 (left - zag ps ts) u.2 <= ms.getD u.1 0:=by omega
    rw [zi7 hn] at this
    omega
   ·rw [if_neg hn] at hlt
    omega
  ·have hk:t.1 < k:=by rw [<- eu]; exact hw.1 u mu
   have:=GR.first hb heq hlt h3.of_cons hw.2 h2 ⟨u,mu,eu⟩
   rw [heq t.1 hk,h1]
   omega
theorem zjI:∀ {a b:List Int},a.length = b.length->HT.lexLt a b = true->∃ k,k < a.length/\(∀ j,j < k->a.getD j 0 = b.getD j 0)/\a.getD k 0 < b.getD k 0
 | [],[],_,h=>by cases h
 | [],_ :: _,h,_=>by simp at h
 | _ :: _,[],h,_=>by simp at h
 | x :: xs,y :: ys,hl,h=>by
  rw [HT.lexLt_cons] at h
  by_cases e:x = y
  ·subst e
   rw [if_pos rfl] at h
   obtain ⟨k,h1,h2,h3⟩:=zjI (by simpa using hl) h
   refine ⟨k + 1,by simp; omega,fun j hj=>?_,by simpa using h3⟩
   cases j with
   | zero=>rfl
   | succ j=>simpa using h2 j (by omega)
  ·rw [if_neg e] at h
   exact ⟨0,by simp,fun j hj=>by omega,by simpa using h⟩
def FirstNG (ps:List Part) (ts:List Term) (most:Int):Option (List Int)->Prop
 | none=>∀ ms,InBox ps ms->most < worth ts ms
 | some ns=>InBox ps ns/\worth ts ns <= most/\∀ ms,InBox ps ms->worth ts ms <= most->HT.lexLt ms ns = false
theorem zkx {ps:List Part} {ts:List Term} {most:Int} {res:List Int} (ho:Ord ps) (hn:ps.length <= 100) (ht:Tms ps.length ts) (hl:zag ps ts <= most) (hr:res.length = ps.length) (hout:∀ j,j < ps.length->(∀ t ∈ ts,t.1 ≠ j)->res.getD j 0 = plo ps j) (hg:GR ps ts most res):FirstNG ps ts most (some res):=by
 have h3:Tm3 ps.length ts:=⟨by have:=ht.len; omega,fun t m=>⟨(ht.ok t m).1,(ht.ok t m).2.2⟩⟩
 refine ⟨⟨hr,fun k hk=>?_⟩,hg.worth_le ho h3 hl,fun ms hb hw=>?_⟩
 ·by_cases hx:∃ t ∈ ts,t.1 = k
  ·obtain ⟨t,m,rfl⟩:=hx
   exact hg.box ho h3 hl t m
  ·rw [hout k hk fun t m e=>hx ⟨t,m,e⟩]
   exact ⟨Int.le_refl _,ho.at hk⟩
 ·cases hlt:HT.lexLt ms res with
  | false=>rfl
  | true =>
   obtain ⟨k,k1,k2,k3⟩:=zjI (by rw [hb.len,hr]) hlt
   rw [hb.len] at k1
   by_cases hx:∃ t ∈ ts,t.1 = k
   ·have:=hg.first hb k2 k3 h3 ht.srt hx
    omega
   ·rw [hout k k1 fun t m e=>hx ⟨t,m,e⟩] at k3
    have:=(hb.ok k k1).1
    omega
def zqX:Option (List Int)->PyData
 | none=>.none
 | some ns=>zbe ns
theorem zo4 {n k:Nat} (h:k < n):ixN n (k:Int) = some k:=by
 unfold ixN
 rw [if_pos (by omega),if_pos (by omega)]
 simp
theorem zfN {α:Type} {f:α->PyData} {ts:List α} {i:Nat} (il:i < ts.length):zef (ts.map f) (some ((i:Int) + 1)) none = (ts.drop (i + 1)).map f:=by
 have ei:(i:Int) + 1 = ((i + 1:Nat):Int):=by omega
 unfold zef
 have e1:HT.sIx ts.length ts.length none = ts.length:=rfl
 rw [List.length_map,ei,e1,HT.sIx_nat,Nat.min_eq_left il,List.take_of_length_le (by simp),List.map_drop]
theorem zl6 {n i:Nat} (il:i < n):¬ (HT.sIx n 0 (some ((i:Int) + 1)) = 0/\HT.sIx n n none = n):=fun z=>by
 have ei:(i:Int) + 1 = ((i + 1:Nat):Int):=by omega
 have:=z.1
 rw [ei,HT.sIx_nat] at this
 omega
theorem zfc {l:List Int} {k:Nat} {x:Int} (h:k < l.length):(l.set k x).getD k 0 = x:=by
 rw [List.getD_eq_getElem?_getD,List.getElem?_set_self h]
 rfl
theorem zf1 {l:List Int} {k j:Nat} {x:Int} (h:k ≠ j):(l.set k x).getD j 0 = l.getD j 0:=by
 rw [List.getD_eq_getElem?_getD,List.getD_eq_getElem?_getD,List.getElem?_set_ne h]
theorem zcO {ps:List Part} {ts:List Term} {most:Int} (ho:Ord ps) (hn:ps.length <= 100) (ht:Tms ps.length ts) (q:∀ r,FirstNG ps ts most r->R (.d (zqX r)) []):zaL [.d (zcW ps),.d (zmT ts),.d (.int most)] [] R:=by
 have h3:Tm3 ps.length ts:=⟨by have:=ht.len; omega,fun t m=>⟨(ht.ok t m).1,(ht.ok t m).2.2⟩⟩
 unfold zaL
 walk_at "d"
 refine seq1 ?_
 walk_at "d"
 refine zdr rfl h3 ?_
 unfold spD
 walk_at "d"
 split
 ·rename_i hgt
  exact q none fun ms hb=>by have:=(zfP hb h3).1; omega
 rename_i hle
 (refine seq1 ?_; walk_at "d")
 refine zis hn ?_
 unfold zbe
 walk_at "d"
 (refine seq1 ?_; walk_at "d")
 refine seq1 ?_
 walk_at "d"
 unfold zmT
 walk_at "d"
 refine zaN (fun i δ S=>∃ (ns:List Int) (left:Int) (u1 u2 u3:Option XV),ns.length = ps.length/\(∀ j,j < ps.length->(∀ t ∈ ts.take i,t.1 ≠ j)->ns.getD j 0 = plo ps j) /\
   (∀ res:List Int,(∀ t ∈ ts.take i,res.getD t.1 0 = ns.getD t.1 0)->GR ps (ts.drop i) left res->GR ps ts most res)/\S = [ns.map PyData.int] /\
   δ = [some (.d (zcW ps)),some (.d (.tuple (ts.map tmD))),some (.d (.int most)),some (.l 0),some (.d (.int left)),u1,u2,u3]) ⟨zgu ps,most,_,_,_,by simp [zgu],fun j hj _=>zkt hj,fun res _ h=>h,rfl,rfl⟩ ?_ ?_
 ·rintro i d _ _ N hi ⟨ns,left,u1,u2,u3,hl,hout,hg,rfl,rfl⟩ hN
  obtain ⟨e,he,rfl⟩:=ze0 _ 0 i d hi
  obtain ⟨t,ht',rfl⟩:=zbZ he
  have mt:=List.mem_of_getElem? ht'
  have il:i < ts.length:=(List.getElem?_eq_some_iff.mp ht').1
  obtain ⟨t1,t2,t3,t4⟩:=ht.ok t mt
  have ed:ts.drop i = t :: ts.drop (i + 1):=by
   rw [List.drop_eq_getElem_cons il]
   rw [List.getElem?_eq_getElem il] at ht'
   rw [Option.some.inj ht']
  have notin:∀ u ∈ ts.take i,u.1 ≠ t.1:=by
   intro u mu
   have hs:=ht.srt
   rw [<- List.take_append_drop i ts,ed,List.pairwise_append] at hs
   have:=hs.2.2 u mu t List.mem_cons_self
   omega
  have et:ns.getD t.1 0 = plo ps t.1:=hout t.1 t1 notin
  have eget:=zc1 (f:=PyData.int) (zhm (show t.1 < ns.length by rw [hl]; exact t1))
  have tk:ts.take (i + 1) = ts.take i ++ [t]:=by rw [List.take_add_one,ht']; rfl
  rw [zjE]
  walk_at "d"
  have fin:∀ x,x = pick ps t (ts.drop (i + 1)) left->(t.2 < 0->x = max (plo ps t.1) (zm0 (left - zag ps (ts.drop (i + 1))) t.2))->∀ u1 u2 u3,N [some (.d (zcW ps)),some (.d (.tuple (ts.map tmD))),some (.d (.int most)),some (.l 0),some (.d (.int (left - t.2 * x))),u1,u2,u3] [(ns.set t.1 x).map PyData.int]:=by
   intro x ex _ u1 u2 u3
   refine hN _ _ ⟨ns.set t.1 x,left - t.2 * x,u1,u2,u3,by simp [hl],fun j hj hj'=>?_,fun res hr hgr=>?_,rfl,rfl⟩
   ·rw [tk] at hj'
    have n1:t.1 ≠ j:=hj' t (by simp)
    rw [zf1 n1]
    exact hout j hj fun u mu=>hj' u (List.mem_append_left _ mu)
   ·rw [tk] at hr
    refine hg res (fun u mu=>?_) ?_
    ·rw [hr u (List.mem_append_left _ mu),zf1 (Ne.symm (notin u mu))]
    ·rw [ed]
     refine ⟨?_,by rw [<- ex]; exact hgr⟩
     rw [hr t (by simp),zfc (by rw [hl]; exact t1),ex]
  refine cut (fun δ S=>∃ x u,x = pick ps t (ts.drop (i + 1)) left/\S = [(ns.set t.1 x).map PyData.int]/\δ = [some (.d (zcW ps)),some (.d (.tuple (ts.map tmD))),some (.d (.int most)),some (.l 0),some (.d (.int left)),some (.d (.int (i:Int))),some (.d (.tuple [.int t.1,.int t.2])),u]) (fun N' hN'=>?_) ?_
  ·walk_at "d"
   by_cases hneg:t.2 < 0
   ·rw [if_pos hneg]
    (refine seq1 ?_; walk_at "d")
    rw [zfN il]
    refine ⟨by simpa using zl6 il,?_⟩
    refine zdr rfl (h3.drop _) ?_
    unfold spD
    walk_at "d"
    refine ⟨_,eget,?_⟩
    walk_at "d"
    refine zgH t3 hneg ?_
    walk_at "d"
    refine ⟨_,zo4 (by rw [hl]; exact t1),?_⟩
    have ep:(if zm0 (left - zag ps (ts.drop (i + 1))) t.2 > ns.getD t.1 0 then zm0 (left - zag ps (ts.drop (i + 1))) t.2 else ns.getD t.1 0) = pick ps t (ts.drop (i + 1)) left:=by
     unfold pick
     rw [if_pos hneg,et]
     split <;> omega
    rw [ep]
    exact hN' _ _ ⟨_,_,rfl,by rw [List.map_set],rfl⟩
   ·rw [if_neg hneg]
    have ep:pick ps t (ts.drop (i + 1)) left = ns.getD t.1 0:=by
     unfold pick
     rw [if_neg hneg,et]
    refine hN' _ _ ⟨_,_,rfl,?_,rfl⟩
    rw [ep]
    congr 1
    congr 1
    apply List.ext_getElem?
    intro j
    by_cases hj:t.1 = j
    ·subst hj
     rw [List.getElem?_set_self (by rw [hl]; exact t1),zhm (by rw [hl]; exact t1)]
    ·rw [List.getElem?_set_ne hj]
  ·rintro _ _ ⟨x,u,ex,rfl,rfl⟩
   have eget2:=zc1 (f:=PyData.int) (zhm (ns:=ns.set t.1 x) (k:=t.1) (by simp [hl]; exact t1))
   rw [zfc (by rw [hl]; exact t1)] at eget2
   walk_at "d"
   refine ⟨_,eget2,?_⟩
   walk_at "d"
   refine ⟨zev (by omega) (by omega),fin x ex (fun hneg=>by rw [ex]; unfold pick; rw [if_pos hneg]) _ _ _⟩
 ·rintro _ _ ⟨ns,left,u1,u2,u3,hl,hout,hg,rfl,rfl⟩
  rw [zc9,List.length_map,List.take_length] at hout
  rw [zc9,List.length_map,List.take_length,List.drop_length] at hg
  walk_at "d"
  exact q (some ns) (zkx ho hn ht (by omega) hl hout (hg ns (fun _ _=>rfl) trivial))
def opp (ts:List Term):List Term:=ts.map fun t=>(t.1,-t.2)
theorem zpy {n:Nat} {ts:List Term} (h:Tms n ts):Tms n (opp ts) where
 ne:=by unfold opp; simp [h.ne]
 len:=by unfold opp; rw [List.length_map]; exact h.len
 ok:=fun t m=>by
  obtain ⟨u,mu,rfl⟩:=List.mem_map.mp m
  obtain ⟨a,b,c,d⟩:=h.ok u mu
  exact ⟨a,by simp only; omega,by simp only; omega,by simp only; omega⟩
 srt:=by
  unfold opp
  rw [List.pairwise_map]
  exact h.srt
theorem zf2 {ns:List Int}:∀ ts:List Term,worth (opp ts) ns = - worth ts ns
 | []=>rfl
 | t :: ts=>by
  have e:opp (t :: ts) = (t.1,-t.2) :: opp ts:=rfl
  rw [e,zdk,zdk,zf2 ts]
  simp only [Int.neg_mul]
  omega
theorem zi9 {ts:List Term} (hl:ts.length <= 100) (q:R (.d (zmT (opp ts))) []):zeq [.d (zmT ts)] [] R:=by
 unfold zeq
 rw [zmT]
 walk_at "e"
 refine cmp2 (S0:=[]) (fun t:Term=>tmD (t.1,-t.2)) rfl ts (by omega) ?_ ?_
 ·intro t mt u v acc R' hk
  rw [zjE]
  walk_at "e"
  exact hk _ _
 ·walk_at "e"
  have e:zmT (opp ts) = .tuple (ts.map fun t:Term=>tmD (t.1,-t.2)):=by
   unfold zmT opp
   rw [List.map_map]
   rfl
  rw [e] at q
  exact q
def zho (ps:List Part) (gs:List Gap):PyData:=.tuple [zcW ps,zfk gs]
def Brk (ps:List Part) (g:Gap):Option (List Int) × Option (List Int)->Prop:=fun r=>FirstNG ps g.ts (g.lo - 1) r.1/\FirstNG ps (opp g.ts) (-g.hi - 1) r.2
def flat2 (rs:List (Option (List Int) × Option (List Int))):List (Option (List Int)):=rs.flatMap fun r=>[r.1,r.2]
theorem zf6:∀ rs,(flat2 rs).length = 2 * rs.length
 | []=>rfl
 | r :: rs=>by
  have:=zf6 rs
  simp only [flat2,List.flatMap_cons,List.length_append,List.length_cons,List.length_nil] at this ⊢
  omega
theorem zfv {ps:List Part} {gs:List Gap} (ho:Ord ps) (hn:ps.length <= 100) (hl:gs.length <= 100) (hg:∀ g ∈ gs,Tms ps.length g.ts)
  (q:∀ rs,Paired (Brk ps) gs rs->R (.d (.list ((flat2 rs).map zqX))) []):zbx [.d (zho ps gs)] [] R:=by
 unfold zbx
 rw [zho,zfk]
 walk_at "d"
 (refine seq1 ?_; walk_at "d")
 refine seq1 ?_
 walk_at "d"
 refine zaN (fun i δ S=>∃ (rs:List (Option (List Int) × Option (List Int))) (u1 u2 u3:Option XV),Paired (Brk ps) (gs.take i) rs/\S = [(flat2 rs).map zqX]/\δ = [some (.d (.tuple [zcW ps,.tuple (gs.map zjw)])),some (.l 0),u1,u2,u3]) ⟨[],_,_,_,.nil,rfl,rfl⟩ ?_ ?_
 ·rintro i d _ _ N hi ⟨rs,u1,u2,u3,pr,rfl,rfl⟩ hN
  obtain ⟨g,hg',rfl⟩:=zbZ hi
  have mg:=List.mem_of_getElem? hg'
  have ht:=hg g mg
  have il:i < gs.length:=(List.getElem?_eq_some_iff.mp hg').1
  have pl:=Paired.length pr
  rw [List.length_take] at pl
  have fl:=zf6 rs
  rw [zec]
  walk_at "d"
  (refine seq1 ?_; walk_at "d")
  refine zcO ho hn ht fun r1 hr1=>?_
  walk_at "d"
  refine ⟨by omega,?_⟩
  walk_at "d"
  refine zi9 (by have:=ht.len; omega) ?_
  walk_at "d"
  refine zcO ho hn (zpy ht) fun r2 hr2=>?_
  walk_at "d"
  refine ⟨by omega,hN _ _ ⟨rs ++ [(r1,r2)],_,_,_,?_,?_,rfl⟩⟩
  ·have tk:gs.take (i + 1) = gs.take i ++ [g]:=by rw [List.take_add_one,hg']; rfl
   rw [tk]
   have app:∀ {a:List Gap} {b:List (Option (List Int) × Option (List Int))},Paired (Brk ps) a b->Paired (Brk ps) (a ++ [g]) (b ++ [(r1,r2)]):=by
    intro a b h
    induction h with
    | nil=>exact .cons ⟨hr1,hr2⟩ .nil
    | cons h _ ih=>exact .cons h ih
   exact app pr
  ·simp [flat2]
 ·rintro _ _ ⟨rs,u1,u2,u3,pr,rfl,rfl⟩
  rw [List.length_map,List.take_length] at pr
  walk_at "d"
  exact .inl (q rs pr)
theorem ziy {gs:List Gap} {ns:List Int} (hl:gs.length <= 100) (h3:∀ g ∈ gs,Tm3 ns.length g.ts) (q:R (.d (.list (gs.map fun g=>.bool (zcw g ns)))) []):zdE [.d (zfk gs),.d (zbe ns)] [] R:=by
 unfold zdE
 rw [zfk]
 walk_at "e"
 refine cmp1 (S0:=[]) (fun g:Gap=>.bool (zcw g ns)) rfl gs (by omega) ?_ ?_
 ·intro g mg u acc R' hk
  walk_at "e"
  refine znn (h3 g mg) ?_
  walk_at "e"
  exact hk _
 ·walk_at "e"
  exact .inl q
def BrkS (gs:List Gap) (ms:List Int):Prop:=∃ g ∈ gs,zcw g ms = false
theorem zf9:∀ (bs:List Bool),false ∈ bs->∃ j:Nat,bs[j]? = some false/\∀ m:Nat,m < j->bs[m]? = some true
 | [],h=>by cases h
 | false :: bs,_=>⟨0,rfl,fun m hm=>by omega⟩
 | true :: bs,h=>by
  obtain ⟨j,h1,h2⟩:=zf9 bs (by simpa using h)
  refine ⟨j + 1,by simpa using h1,fun m hm=>?_⟩
  cases m with
  | zero=>rfl
  | succ m=>simpa using h2 m (by omega)
theorem zgY {α β:Type} {r:α->β->Prop}:∀ {a:List α} {b:List β},Paired r a b->(∀ x ∈ a,∃ y ∈ b,r x y)/\(∀ y ∈ b,∃ x ∈ a,r x y)
 | _,_,.nil=>⟨by simp,by simp⟩
 | _,_,.cons h t=>by
  obtain ⟨h1,h2⟩:=zgY t
  refine ⟨fun x m=>?_,fun y m=>?_⟩
  ·rcases List.mem_cons.mp m with rfl | m
   ·exact ⟨_,List.mem_cons_self,h⟩
   ·obtain ⟨y,my,hy⟩:=h1 x m
    exact ⟨y,List.mem_cons_of_mem _ my,hy⟩
  ·rcases List.mem_cons.mp m with rfl | m
   ·exact ⟨_,List.mem_cons_self,h⟩
   ·obtain ⟨x,mx,hx⟩:=h2 y m
    exact ⟨x,List.mem_cons_of_mem _ mx,hx⟩
theorem zgW {ps:List Part} {gs:List Gap} (ho:Ord ps) (hn:ps.length <= 100) (hl:gs.length <= 100) (hg:∀ g ∈ gs,Tms ps.length g.ts)
  (no:(∀ ms,InBox ps ms->¬ BrkS gs ms)->R (.d .none) [])
  (yes:∀ (one:List Int) (j:Nat) (g:Gap),InBox ps one->gs[j]? = some g->zcw g one = false->(∀ (m:Nat) (g':Gap),m < j->gs[m]? = some g'->zcw g' one = true)->(∀ ms,InBox ps ms->BrkS gs ms->HT.lexLt ms one = false)->R (.d (.tuple [zbe one,.int (j:Nat)])) []):zed [.d (zho ps gs)] [] R:=by
 unfold zed
 walk_at "d"
 (refine seq1 ?_; walk_at "d")
 refine zfv ho hn hl hg fun rs pr=>?_
 have pl:=Paired.length pr
 have fl:=zf6 rs
 obtain ⟨pm1,pm2⟩:=zgY pr
 walk_at "d"
 refine cmf1 (S0:=[]) zqX (fun r:Option (List Int)=>r.isSome) rfl (flat2 rs) (by omega) ?_ ?_
 ·intro r mr u acc R' hk
  walk_at "d"
  cases r with
  | none =>
   refine hk _ fun h=>?_
   cases h
  | some ns =>
   refine hk _ fun _ T hT=>?_
   walk_at "d"
   exact hT
 ·obtain ⟨nss,en⟩:∃ nss:List (List Int),(flat2 rs).filter (fun r=>r.isSome) = nss.map some:=by
   have:∀ l:List (Option (List Int)),∃ nss:List (List Int),l.filter (fun r=>r.isSome) = nss.map some:=by
    intro l
    induction l with
    | nil=>exact ⟨[],rfl⟩
    | cons r l ih =>
     obtain ⟨nss,e⟩:=ih
     cases r with
     | none=>exact ⟨nss,by simpa using e⟩
     | some ns=>exact ⟨ns :: nss,by simp [e]⟩
   exact this _
  have memN:∀ ns,ns ∈ nss ↔ some ns ∈ flat2 rs:=fun ns=>by
   have:some ns ∈ (flat2 rs).filter (fun r=>r.isSome) ↔ some ns ∈ flat2 rs:=by simp [List.mem_filter]
   rw [<- this,en]
   simp
  have mem2:∀ r,r ∈ flat2 rs ↔ ∃ x ∈ rs,r = x.1\/r = x.2:=fun r=>by
   unfold flat2
   rw [List.mem_flatMap]
   simp
  rw [en,List.map_map]
  have em:nss.map (zqX ∘ some) = nss.map zmY:=rfl
  rw [em]
  walk_at "d"
  -- whoever breaks comes behind one of them
  have behind:∀ ms,InBox ps ms->BrkS gs ms->∃ ns ∈ nss,HT.lexLt ms ns = false:=by
   rintro ms hb ⟨g,mg,hk⟩
   obtain ⟨x,mx,x1,x2⟩:=pm1 g mg
   have hk':¬ (g.lo <= worth g.ts ms/\worth g.ts ms <= g.hi):=by simpa [zcw] using hk
   by_cases h1:worth g.ts ms <= g.lo - 1
   ·cases e:x.1 with
    | none =>
     rw [e] at x1
     have:=x1 ms hb
     omega
    | some ns =>
     rw [e] at x1
     exact ⟨ns,(memN ns).mpr ((mem2 _).mpr ⟨x,mx,.inl e.symm⟩),x1.2.2 ms hb h1⟩
   ·have h2:worth (opp g.ts) ms <= -g.hi - 1:=by rw [zf2]; omega
    cases e:x.2 with
    | none =>
     rw [e] at x2
     have:=x2 ms hb
     omega
    | some ns =>
     rw [e] at x2
     exact ⟨ns,(memN ns).mpr ((mem2 _).mpr ⟨x,mx,.inr e.symm⟩),x2.2.2 ms hb h2⟩
  have each:∀ ns ∈ nss,InBox ps ns/\BrkS gs ns:=by
   intro ns mn
   obtain ⟨x,mx,hx⟩:=(mem2 _).mp ((memN ns).mp mn)
   obtain ⟨g,mg,x1,x2⟩:=pm2 x mx
   rcases hx with hx | hx
   ·rw [<- hx] at x1
    exact ⟨x1.1,g,mg,by have:=x1.2.1; simp [zcw]; omega⟩
   ·rw [<- hx] at x2
    refine ⟨x2.1,g,mg,?_⟩
    have:=x2.2.1
    rw [zf2] at this
    simp [zcw]
    omega
  cases hne:nss with
  | nil =>
   refine seq1 ?_
   walk_at "d"
   refine no fun ms hb hbr=>?_
   obtain ⟨ns,mn,_⟩:=behind ms hb hbr
   rw [hne] at mn
   cases mn
  | cons n0 nr =>
   rw [<- hne]
   have nn:nss ≠ []:=by rw [hne]; simp
   have ie:(nss.map zmY).isEmpty = false:=by rw [hne]; rfl
   refine seq1 ?_
   walk_at "d"
   rw [ie]
   walk_at "d"
   (refine seq1 ?_; walk_at "d")
   refine .inr ⟨_,rfl,nss,rfl,nn,fun one mo hmin=>?_⟩
   obtain ⟨ob,g0,mg0,hb0⟩:=each one mo
   walk_at "d"
   rw [show zmY one = zbe one from rfl]
   rw [zho]
   walk_at "d"
   refine ziy hl (fun g mg=>by rw [ob.len]; exact ⟨by have:=(hg g mg).len; omega,fun t m=>⟨((hg g mg).ok t m).1,((hg g mg).ok t m).2.2⟩⟩) ?_
   obtain ⟨j,j1,j2⟩:=zf9 (gs.map fun g=>zcw g one) (List.mem_map.mpr ⟨g0,mg0,hb0⟩)
   rw [List.getElem?_map] at j1
   obtain ⟨gj,e1,e2⟩:=Option.map_eq_some_iff.mp j1
   walk_at "d"
   refine ⟨(zhy (n:=0) fun d m=>by obtain ⟨g,_,rfl⟩:=List.mem_map.mp m; exact zm4).ok,by omega,j,⟨.bool false,by rw [List.getElem?_map,e1]; simp [e2],rfl⟩,fun m e hm he=>?_,?_⟩
   ·obtain ⟨g',hg1,rfl⟩:=zbZ he
    have:=j2 m hm
    rw [List.getElem?_map,hg1] at this
    have t:zcw g' one = true:=by simpa using this
    rw [t]
    rfl
   ·walk_at "d"
    refine yes one j gj ob e1 e2 (fun m g' hm hg'=>?_) fun ms hb hbr=>?_
    ·have:=j2 m hm
     rw [List.getElem?_map,hg'] at this
     simpa using this
    ·obtain ⟨ns,mn,hn⟩:=behind ms hb hbr
     exact zfm ms ns one hn (hmin ns mn)
end
section
variable {R:RX} {S:Sto}
def zop:PyData->Bool
 | .int _=>true
 | _=>false
theorem zfU:∀ {ts:List Term},(ts.Pairwise fun t u=>t.1 < u.1)->∀ {t:Term},t ∈ ts->ts.find? (fun u=>u.1 == t.1) = some t
 | [],_,t,m=>by cases m
 | u :: ts,hs,t,m=>by
  rw [List.pairwise_cons] at hs
  rcases List.mem_cons.mp m with rfl | m
  ·simp
  ·have:=hs.1 t m
   rw [List.find?_cons_of_neg (by simp; omega)]
   exact zfU hs.2 m
def corner (ps:List Part) (ts:List Term) (up:Bool):List Int:=(List.range ps.length).map fun j=>match ts.find? (fun u=>u.1 == j) with
 | some t=>if decide (t.2 < 0) = up then plo ps j else phi ps j
 | none=>plo ps j
theorem zfh {ps:List Part} {ts:List Term} {up:Bool} {j:Nat} (h:j < ps.length):(corner ps ts up).getD j 0 = match ts.find? (fun u=>u.1 == j) with
  | some t=>if decide (t.2 < 0) = up then plo ps j else phi ps j
  | none=>plo ps j:=by
 unfold corner
 rw [List.getD_eq_getElem?_getD,List.getElem?_map,List.getElem?_range h]
 rfl
theorem zgT {ps:List Part} {ts:List Term} {up:Bool} (ho:Ord ps):InBox ps (corner ps ts up):=by
 refine ⟨by simp [corner],fun k hk=>?_⟩
 rw [zfh hk]
 have:=ho.at hk
 split
 ·split <;> omega
 ·omega
theorem ziq {ps:List Part} {ts:List Term} (ho:Ord ps) (h3:Tm3 ps.length ts) (hs:ts.Pairwise fun t u=>t.1 < u.1):worth ts (corner ps ts false) = zag ps ts:=by
 unfold worth zag
 congr 1
 apply List.map_congr_left
 intro t m
 obtain ⟨t1,t2,t3⟩:=h3.ok t m
 rw [zfh t1,zfU hs m]
 simp only
 by_cases hn:t.2 < 0
 ·rw [if_neg (by simp [hn]),zl7 (ho.at t1) t2 hn]
 ·rw [if_pos (by simp [hn]),zk0 (ho.at t1) t3 (by omega)]
theorem zjy {ps:List Part} {ts:List Term} (ho:Ord ps) (h3:Tm3 ps.length ts) (hs:ts.Pairwise fun t u=>t.1 < u.1):worth ts (corner ps ts true) = zcb ps ts:=by
 unfold worth zcb
 congr 1
 apply List.map_congr_left
 intro t m
 obtain ⟨t1,t2,t3⟩:=h3.ok t m
 rw [zfh t1,zfU hs m]
 simp only
 have o:=ho.at t1
 unfold tHi
 generalize plo ps t.1 = lo at o ⊢
 generalize phi ps t.1 = hi at o ⊢
 have:t.2 = -3\/t.2 = -2\/t.2 = -1\/t.2 = 0\/t.2 = 1\/t.2 = 2\/t.2 = 3:=by omega
 rcases this with e | e | e | e | e | e | e <;> rw [e] <;> simp <;> omega
theorem Tms.tm3' {n:Nat} {ts:List Term} (h:Tms n ts) (hn:n <= 100):Tm3 n ts:=⟨by have:=h.len; omega,fun t m=>⟨(h.ok t m).1,(h.ok t m).2.2⟩⟩
theorem zh8 {ps:List Part} {g:Gap} (ho:Ord ps) (hn:ps.length <= 100) (ht:Tms ps.length g.ts):(∀ ms,InBox ps ms->zcw g ms = true) ↔ g.lo <= zag ps g.ts/\zcb ps g.ts <= g.hi:=by
 have h3:=ht.tm3' hn
 constructor
 ·intro h
  have h1:=h _ (zgT (ts:=g.ts) (up:=false) ho)
  have h2:=h _ (zgT (ts:=g.ts) (up:=true) ho)
  unfold zcw at h1 h2
  rw [ziq ho h3 ht.srt,decide_eq_true_eq] at h1
  rw [zjy ho h3 ht.srt,decide_eq_true_eq] at h2
  exact ⟨h1.1,h2.2⟩
 ·rintro ⟨h1,h2⟩ ms hb
  have:=zfP hb h3
  unfold zcw
  rw [decide_eq_true_eq]
  omega
def zpk (ps:List Part) (g:Gap):Bool:=decide (g.lo <= zag ps g.ts/\zcb ps g.ts <= g.hi)
end
section
variable {R:RX} {S:Sto}
def rng (lo:Int) (n:Nat):List Int:=(List.range n).map fun k:Nat=>lo + k
def zma (p:Part):List Int:=rng p.2.1 (p.2.2 - p.2.1 + 1).toNat
theorem zm3 (p:Part):(zma p).length = (p.2.2 - p.2.1 + 1).toNat:=by simp [zma,rng]
def ext (found:List (List Int)) (p:Part):List (List Int):=found.flatMap fun a=>(zma p).map fun x=>a ++ [x]
def zbj:List Nat->Nat
 | []=>1
 | x :: xs=>x * zbj xs
def zpZ (ps:List Part):Nat:=zbj (ps.map fun p=>(p.2.2 - p.2.1 + 1).toNat)
theorem zdI {α β:Type} {f:α->List β} {n:Nat}:∀ {l:List α},(∀ x ∈ l,(f x).length = n)->(l.flatMap f).length = l.length * n
 | [],_=>by simp
 | x :: l,h=>by
  rw [List.flatMap_cons,List.length_append,h x List.mem_cons_self,zdI fun y m=>h y (List.mem_cons_of_mem _ m),List.length_cons,Nat.succ_mul,Nat.add_comm]
theorem zlW {found:List (List Int)} {p:Part}:(ext found p).length = found.length * (p.2.2 - p.2.1 + 1).toNat:=by
 unfold ext
 exact zdI fun x _=>by rw [List.length_map,zm3]
theorem zfW:∀ {l:List Nat},(∀ x ∈ l,1 <= x)->1 <= zbj l
 | [],_=>Nat.le_refl _
 | x :: l,h=>Nat.mul_le_mul (h x List.mem_cons_self) (zfW fun y m=>h y (List.mem_cons_of_mem _ m))
theorem zd9:∀ (a b:List Nat),zbj (a ++ b) = zbj a * zbj b
 | [],b=>by simp [zbj]
 | x :: a,b=>by simp [zbj,zd9 a b,Nat.mul_assoc]
theorem zeZ {α:Type} {l:List α} {i:Nat} {x:α} (h:l[i]? = some x):l.take (i + 1) = l.take i ++ [x]:=by rw [List.take_add_one,h]; rfl
theorem zmf (a:List Int) (x:Int):PyData.tuple (a.map PyData.int ++ [.int x]) = zbe (a ++ [x]):=by simp [zbe]
end
section
variable {R:RX} {S:Sto}
structure Wds (ws:List Int):Prop where
 l1:1 <= ws.length
 l8:ws.length <= 8
 pos:∀ x ∈ ws,1 <= x
 le:∀ x ∈ ws,x <= 300
 prod:zbj (ws.map Int.toNat) <= 300
theorem prod3:∀ {ws:List Int},(∀ x ∈ ws,1 <= x/\x <= 3)->zbj (ws.map Int.toNat) <= 3 ^ ws.length
 | [],_=>by simp [zbj]
 | x :: ws,h=>by
  have h1:=h x List.mem_cons_self
  have h2:=prod3 fun y m=>h y (List.mem_cons_of_mem _ m)
  rw [List.map_cons,zbj,List.length_cons,Nat.pow_succ,Nat.mul_comm]
  exact Nat.mul_le_mul h2 (by omega)
theorem wds3 {ws:List Int} (l1:1 <= ws.length) (l4:ws.length <= 4) (h:∀ x ∈ ws,1 <= x/\x <= 3):Wds ws:=by
 refine ⟨l1,by omega,fun x m=>(h x m).1,fun x m=>by have:=(h x m).2; omega,Nat.le_trans (prod3 h) ?_⟩
 have:ws.length = 1\/ws.length = 2\/ws.length = 3\/ws.length = 4:=by omega
 rcases this with e | e | e | e <;> rw [e] <;> decide
theorem zm1 {Q names number:PN} {p:List PyData} {m:Int} (hQ:Q = fun xs S R=>(zac (zau (zG 0 1 names (ze (zp 0) zy)) (zo 2)) (zac (zau (zck [none,some 0] (zbc (ze (dOp zbT (dC (.int 1)) (zG 0 2 zu (ze (zp 0) (ze (zp 1) zy)))) zy)) (zo 0) zaB (dOp zbT (dC (.int 1)) (zG 0 2 zu (ze (zp 1) (ze (dC (.int 3)) zy))))) (zo 3)) (zac (zdW (dB (dOp zgz (zG 0 2 zu (ze (zp 0) (ze (dC (.int 12)) zy))) (dC (.int 0)))) (zau (dOp dIx (zgy (ze (dOp zfJ (zgy (ze (dC (.int 2)) zy)) (dC (.int 8))) (ze (zgy (ze (dC (.int 17)) (ze (dC (.int 17)) zy))) (ze (zgy (ze (dC (.int 300)) zy)) (ze (dOp zfJ (zgy (ze (dC (.int 1)) zy)) (dC (.int 8))) zy))))) (zG 0 2 zu (ze (zp 0) (ze (dC (.int 4)) zy)))) (zo 3)) za1) (zac (zau (zd8 zy) (zo 4)) (zac (zg7 (zbc (ze (dCB zcB (ze (zp 3) zy)) zy)) (zo 5) (zac (zau (zG 0 1 number (ze (zp 0) zy)) (zo 6)) (zd5 (dBM zbY (zp 4) (ze (zdz (ze (dOp dIx (zp 2) (zp 5)) (ze (zp 6) (ze (dOp (dI0 fun i j=>i - j) (dOp zbT (zp 6) (dOp dIx (zp 3) (zp 5))) (dC (.int 1))) zy)))) zy))))) (zbo (dCB zbL (ze (zp 4) zy)))))))) (zcr S.length R) (xs.map some ++ List.replicate 5 none) S)
  (hnames:∀ {p:List PyData} {R:RX},zae p->(∀ (ns:List Str) p',ns.length = 8->(∀ z ∈ ns,ze7 z = true)->zae p'->R (.d (.list (ns.map PyData.str))) [p'])->names [.l 0] [p] R)
  (hnumber:∀ {p:List PyData} {R:RX},zae p->(∀ r p',-10 ^ 58 <= r->r <= 10 ^ 58->zae p'->R (.d (.int r)) [p'])->number [.l 0] [p] R)
  (hp:zae p) (m1:0 < m) (m4:m <= 4) (q:∀ (ps:List Part) p',Drw ps->zpZ ps <= 300->zae p'->R (.d (zcW ps)) [p']):Q [.l 0,.d (.int m)] [p] R:=by
 subst hQ
 walk_at "d"
 (refine seq1 ?_; walk_at "d")
 refine hnames hp fun ns p1 hn hz hp1=>?_
 walk_at "d"
 (refine seq1 ?_; walk_at "d")
 refine zx hp1 m1 (zb0 m1 (by omega)) fun r p2 r0 r1 hp2=>?_
 walk_at "d"
 refine zsE (α:=Int) (fun x=>1 <= x/\x <= 3) PyData.int (fun τ=>∃ u,τ = [u,some (.l 0)]) _ [] p2 _ ⟨_,rfl⟩ hp2 (by rw [zaj]; simp; omega) ?_ ?_
 ·rintro d md _ p acc R' ⟨u,rfl⟩ hp hk
  walk_at "d"
  refine zx hp (by decide) (by decide +kernel) fun r p' r0 r1 hp'=>?_
  walk_at "d"
  exact hk _ _ p' ⟨_,rfl⟩ hp' ⟨by omega,by omega⟩
 ·intro ws p3 hp3 hw hl
  rw [zaj] at hl
  have hws:Wds ws:=wds3 (by omega) (by omega) hw
  rw [List.nil_append]
  walk_at "d"
  refine cut (fun δ S=>∃ (p:List PyData) (ws:List Int),zae p/\Wds ws/\S = [p]/\δ = [some (.l 0),some (.d (.int m)),some (.d (.list (ns.map PyData.str))),some (.d (.list (ws.map PyData.int))),none,none,none]) (fun N hN=>?_) ?_
  ·walk_at "d"
   refine zx hp3 (by decide) (by decide +kernel) fun r2 p4 r3 r4 hp4=>?_
   walk_at "d"
   split
   ·refine zx hp4 (by decide) (by decide +kernel) fun r5 p5 r6 r7 hp5=>?_
    obtain ⟨d,ed,ws',rfl,hw'⟩:=zk8 (P:=fun d=>∃ ws:List Int,d = .list (ws.map PyData.int)/\Wds ws) (ds:=[PyData.list (List.replicate 8 [PyData.int 2]).flatten,.list [.int 17,.int 17],.list [.int 300],.list (List.replicate 8 [PyData.int 1]).flatten]) r6 r7 (by
     intro d m
     simp only [List.mem_cons,List.not_mem_nil,or_false] at m
     rcases m with rfl | rfl | rfl | rfl
     ·exact ⟨[2,2,2,2,2,2,2,2],rfl,by decide,by decide,by decide,by decide,by decide⟩
     ·exact ⟨[17,17],rfl,by decide,by decide,by decide,by decide,by decide⟩
     ·exact ⟨[300],rfl,by decide,by decide,by decide,by decide,by decide⟩
     ·exact ⟨[1,1,1,1,1,1,1,1],rfl,by decide,by decide,by decide,by decide,by decide⟩)
    walk_at "d"
    refine ⟨_,ed,hN _ _ ⟨p5,ws',hp5,hw',rfl,rfl⟩⟩
   ·exact hN _ _ ⟨p4,ws,hp4,hws,rfl,rfl⟩
  rintro _ _ ⟨p,ws,hp,hws,rfl,rfl⟩
  have w8:=hws.l8
  (refine seq1 ?_; walk_at "d")
  refine seq1 ?_
  walk_at "d"
  refine zaN (fun i δ S=>∃ (p:List PyData) (ps:List Part) (u1 u2:Option XV),zae p/\ps.length = i/\(∀ p ∈ ps,Prt p)/\ps.map (fun p=>(p.2.2 - p.2.1 + 1).toNat) = (ws.take i).map Int.toNat/\S = [p,ps.map zgr]/\δ = [some (.l 0),some (.d (.int m)),some (.d (.list (ns.map PyData.str))),some (.d (.list (ws.map PyData.int))),some (.l 1),u1,u2]) ⟨p,[],_,_,hp,rfl,by simp,rfl,rfl,rfl⟩ ?_ ?_
  ·rintro i d _ _ N hi ⟨p,ps,u1,u2,hp,hl,ha,hs,rfl,rfl⟩ hN
   obtain ⟨hi',rfl⟩:=zcV hi
   have iw:i < ws.length:=by simpa using hi'
   have i8:i < ns.length:=by omega
   have e:=zc1 (f:=PyData.str) (List.getElem?_eq_getElem i8)
   have ew:=zc1 (f:=PyData.int) (List.getElem?_eq_getElem iw)
   have w1:=hws.pos _ (List.getElem_mem iw)
   have w300:=hws.le _ (List.getElem_mem iw)
   have e0:(0:Int) + (i:Int) = (i:Int):=by omega
   walk_at "d"
   (refine seq1 ?_; walk_at "d")
   refine hnumber hp fun lo p3 h1 h2 hp3=>?_
   walk_at "d"
   rw [e0]
   refine ⟨_,e,?_⟩
   walk_at "d"
   refine ⟨_,ew,?_⟩
   walk_at "d"
   refine ⟨by omega,hN _ _ ⟨p3,ps ++ [(ns[i],lo,lo + ws[i] - 1)],_,_,hp3,by simp [hl],fun x hx=>?_,?_,by simp [zgr],rfl⟩⟩
   ·rcases List.mem_append.mp hx with hx | hx
    ·exact ha x hx
    ·rw [List.mem_singleton.mp hx]
     exact ⟨hz _ (List.getElem_mem i8),by simp only; omega,h1,by simp only; omega⟩
   ·rw [List.map_append,hs,zeZ (List.getElem?_eq_getElem iw),List.map_append]
    congr 1
    simp only [List.map_cons,List.map_nil,List.cons.injEq,and_true]
    omega
  ·rintro _ _ ⟨p,ps,u1,u2,hp,hl,ha,hs,rfl,rfl⟩
   rw [zaj] at hl hs
   have hz':(ws.length:Int).toNat = ws.length:=by simp
   rw [hz'] at hl hs
   rw [List.take_length] at hs
   walk_at "d"
   have hw1:=hws.l1
   exact q ps p ⟨by omega,by omega,ha⟩ (by unfold zpZ; rw [hs]; exact hws.prod) hp
theorem zhH {p:List PyData} {m:Int} (hp:zae p) (m1:0 < m) (m4:m <= 4) (q:∀ (ps:List Part) p',Drw ps->zpZ ps <= 300->zae p'->R (.d (zcW ps)) [p']):zek [.l 0,.d (.int m)] [p] R :=
 zm1 (names:=zaM) (number:=zaT) rfl zej zdP hp m1 m4 q
end
section
variable {R:RX} {S:Sto}
abbrev Off:=Int × Int × Int
def zer (o:Off):PyData:=.tuple [.int o.1,.int o.2.1,.int o.2.2]
theorem zfu (o:Off):zer o = .tuple [.int o.1,.int o.2.1,.int o.2.2]:=rfl
def zeW (l:List Off):PyData:=.tuple (l.map zer)
theorem zcl (l:List Off):zeW l = .tuple (l.map zer):=rfl
def zaz (os:List (List Off)):PyData:=.tuple (os.map zeW)
structure Ofp (p:Part) (l:List Off):Prop where
 l1:1 <= l.length
 l4:l.length <= 4
 ok:∀ o ∈ l,p.2.1 <= o.1/\o.1 <= o.2.1/\o.2.1 <= p.2.2
structure Offs (ps:List Part) (os:List (List Off)):Prop where
 len:os.length = ps.length
 ok:∀ (i:Nat) p l,ps[i]? = some p->os[i]? = some l->Ofp p l
theorem zmz {α:Type} {l:List α} (h:1 <= l.length):∃ m x,l = m ++ [x]:=⟨l.dropLast,l.getLast (by intro z; subst z; simp at h),(List.dropLast_concat_getLast _).symm⟩
theorem gD {α:Type} {l:List α} {k:Nat} {d:α} (h:k < l.length):l[k]? = some (l.getD k d):=by
 rw [List.getD_eq_getElem?_getD]
 rw [List.getElem?_eq_getElem h]
 rfl
def offer (os:List (List Off)) (ks:List Nat) (i:Nat):Off:=(os.getD i []).getD (ks.getD i 0) (0,0,0)
structure Chs (os:List (List Off)) (ks:List Nat):Prop where
 len:ks.length = os.length
 ok:∀ i,i < os.length->ks.getD i 0 < (os.getD i []).length
def chosen (ps:List Part) (os:List (List Off)) (ks:List Nat):List Part:=(List.range ps.length).map fun i=>((part ps i).1,(offer os ks i).1,(offer os ks i).2.1)
def znA (ks:List Nat):PyData:=.tuple (ks.map fun k:Nat=>.int k)
theorem zao {ps:List Part} {os:List (List Off)} {ks:List Nat}:(chosen ps os ks).length = ps.length:=by simp [chosen]
theorem ziE {ps:List Part} {os:List (List Off)} {ks:List Nat} {i:Nat} (h:i < ps.length):part (chosen ps os ks) i = ((part ps i).1,(offer os ks i).1,(offer os ks i).2.1):=by
 have:=zb2 (ps:=chosen ps os ks) (k:=i) (by rw [zao]; exact h)
 unfold chosen at this ⊢
 rw [List.getElem?_map,List.getElem?_range h] at this
 exact (Option.some.inj this).symm
theorem zgM {os:List (List Off)} {i:Nat} (h:i < os.length):os[i]? = some (os.getD i []):=by rw [List.getElem?_eq_getElem h,List.getD_eq_getElem?_getD,List.getElem?_eq_getElem h]; rfl
theorem zhg {os:List (List Off)} {ks:List Nat} (hc:Chs os ks) {i:Nat} (h:i < os.length):(os.getD i [])[ks.getD i 0]? = some (offer os ks i):=by
 have:=hc.ok i h
 exact gD this
theorem znu {ps:List Part} {os:List (List Off)} {ks:List Nat} (ho:Offs ps os) (hc:Chs os ks) {i:Nat} (h:i < ps.length):plo ps i <= (offer os ks i).1/\(offer os ks i).1 <= (offer os ks i).2.1/\(offer os ks i).2.1 <= phi ps i:=by
 have hi:i < os.length:=by rw [ho.len]; exact h
 exact (ho.ok i _ _ (zb2 h) (zgM hi)).ok _ (List.mem_of_getElem? (zhg hc hi))
theorem zr3 {ps:List Part} (h:∀ i,i < ps.length->plo ps i <= phi ps i):Ord ps:=fun p m=>by
 obtain ⟨i,hi⟩:=List.mem_iff_getElem?.mp m
 have hl:=(List.getElem?_eq_some_iff.mp hi).1
 have:=h i hl
 rw [zb2 hl] at hi
 cases hi
 exact this
theorem zeo {ps:List Part} {os:List (List Off)} {ks:List Nat} (ho:Offs ps os) (hc:Chs os ks):Ord (chosen ps os ks):=by
 refine zr3 fun i hi=>?_
 rw [zao] at hi
 unfold plo phi
 rw [ziE hi]
 exact (znu ho hc hi).2.1
theorem zll {g:DG} {te:DE} {fin:Sto->Prop} {ps:List Part} {os:List (List Off)} {p:List PyData} {u0:Option XV} {caps:XE} {n:Nat} (S0:Sto) (hn:S0.length + 1 = n) (ho:Offs ps os) (h8:ps.length <= 8) (hp:zae p)
  (el:∀ (l:List Off) (u:Option XV) p acc (R:XE->RX),1 <= l.length->l.length <= 4->zae p->(∀ u' (k:Nat) p',zae p'->k < l.length->R (u' :: caps) (.d (.int (k:Nat))) (p' :: (S0 ++ [acc])))->g (.d (zeW l)) (u :: caps) (p :: (S0 ++ [acc])) fun τ1 S1=>te τ1 S1 (R τ1))
  (hf:∀ ks p',zae p'->Chs os ks->fin (p' :: (S0 ++ [ks.map fun k:Nat=>.int k]))):zeL n g zaB te fin (os.map zeW) (u0 :: caps) (p :: (S0 ++ [[]])):=by
 subst hn
 have go:∀ (os:List (List Off)) (u:Option XV) (acc:List Nat) (p:List PyData),zae p->acc.length + os.length <= 1000->(∀ l ∈ os,1 <= l.length/\l.length <= 4) ->
   (∀ ks p',zae p'->Chs os ks->fin (p' :: (S0 ++ [(acc ++ ks).map fun k:Nat=>.int k])))->zeL (S0.length + 1) g zaB te fin (os.map zeW) (u :: caps) (p :: (S0 ++ [acc.map fun k:Nat=>.int k])):=by
  intro os
  induction os with
  | nil =>
   intro u acc p hp _ _ h
   have:=h [] p hp ⟨rfl,fun i hi=>by simp at hi⟩
   rw [List.append_nil] at this
   exact this
  | cons l os ih =>
   intro u acc p hp hl h4 h
   show g (.d (zeW l)) (u :: caps) (p :: (S0 ++ [acc.map fun k:Nat=>.int k])) fun τ1 S1=>zaB τ1 S1 fun b S2=>if b = true then te τ1 S2 fun x S3=>asD x fun e=>∃ acc,S3[S0.length + 1]? = some acc/\acc.length < 1000/\zeL (S0.length + 1) g zaB te fin (os.map zeW) τ1 (S3.set (S0.length + 1) (acc ++ [e])) else zeL (S0.length + 1) g zaB te fin (os.map zeW) τ1 S2
   simp only [zaB,↓reduceIte]
   rw [List.length_cons] at hl
   have hl4:=h4 l List.mem_cons_self
   refine el l u p _ (fun τ1 x S3=>asD x fun e=>∃ acc,S3[S0.length + 1]? = some acc/\acc.length < 1000/\zeL (S0.length + 1) g zaB te fin (os.map zeW) τ1 (S3.set (S0.length + 1) (acc ++ [e]))) hl4.1 hl4.2 hp fun u' k p' hp' hk=>?_
   refine ⟨acc.map fun k:Nat=>.int k,by simp,by rw [List.length_map]; omega,?_⟩
   have e:(p' :: (S0 ++ [acc.map fun k:Nat=>PyData.int k]):Sto).set (S0.length + 1) ((acc.map fun k:Nat=>PyData.int k) ++ [.int (k:Nat)]) = p' :: (S0 ++ [(acc ++ [k]).map fun k:Nat=>PyData.int k]):=by
    rw [List.set_cons_succ,zff rfl]
    simp
   rw [e]
   refine ih u' (acc ++ [k]) p' hp' (by rw [List.length_append,List.length_singleton]; omega) (fun l m=>h4 l (List.mem_cons_of_mem _ m)) fun ks p'' hp'' hc=>?_
   rw [List.append_assoc]
   refine h (k :: ks) p'' hp'' ⟨by simp [hc.len],fun i hi=>?_⟩
   cases i with
   | zero=>exact hk
   | succ i=>exact hc.ok i (by simpa using hi)
 refine go os u0 [] p hp (by have:=ho.len; simp; omega) (fun l m=>?_) fun ks p' hp' hc=>hf ks p' hp' hc
 obtain ⟨i,hi⟩:=List.mem_iff_getElem?.mp m
 have hl:=(List.getElem?_eq_some_iff.mp hi).1
 have:=ho.ok i _ l (zb2 (by rw [<- ho.len]; exact hl)) hi
 exact ⟨this.l1,this.l4⟩
theorem zky {ps:List Part} {os:List (List Off)} {ks:List Nat} (ho:Offs ps os) (hc:Chs os ks):(ps.zip ((os.zip ks).map fun q=>q.1.getD q.2 (0,0,0))).map (fun q=>zgr (q.1.1,q.2.1,q.2.2.1)) = (chosen ps os ks).map zgr:=by
 have hl:=ho.len
 have hk:=hc.len
 refine List.ext_getElem (by simp [zao]; omega) fun i h1 h2=>?_
 have hi:i < ps.length:=by simpa [zao] using h2
 have hi2:i < os.length:=by omega
 have hi3:i < ks.length:=by omega
 simp only [List.getElem_map,List.getElem_zip,chosen,List.getElem_range]
 have e1:part ps i = ps[i]:=by simp [part,hi]
 have e2:os.getD i [] = os[i]:=by simp [hi2]
 have e3:ks.getD i 0 = ks[i]:=by simp [hi3]
 unfold offer
 rw [e1,e2,e3]
theorem zdh {ps:List Part} {os:List (List Off)} {ks:List Nat} (ho:Offs ps os) (hc:Chs os ks) (h8:ps.length <= 8) (q:R (.d (zcW (chosen ps os ks))) []):zaK [.d (zcW ps),.d (zaz os),.d (znA ks)] [] R:=by
 have hl:=ho.len
 have hk:=hc.len
 unfold zaK zcW zaz znA
 walk_at "d"
 (refine seq1 ?_; walk_at "d")
 rw [zeY]
 refine cmp2 (S0:=[]) (fun q:List Off × Nat=>zer (q.1.getD q.2 (0,0,0))) rfl (os.zip ks) (by simp; omega) ?_ ?_
 ·intro x mx u v acc R' hk'
  obtain ⟨i,hi⟩:=List.mem_iff_getElem?.mp mx
  rw [List.getElem?_zip_eq_some] at hi
  obtain ⟨h1,h2⟩:=hi
  have il:i < os.length:=(List.getElem?_eq_some_iff.mp h1).1
  have e1:os.getD i [] = x.1:=by rw [zgM il] at h1; exact Option.some.inj h1
  have e2:ks.getD i 0 = x.2:=by rw [gD (d:=0) (by omega)] at h2; exact Option.some.inj h2
  have kb:=hc.ok i il
  rw [e1,e2] at kb
  have e3:=zc1 (f:=zer) (gD (d:=((0,0,0):Off)) kb)
  rw [zcl]
  walk_at "d"
  refine ⟨_,e3,?_⟩
  exact hk' _ _
 ·walk_at "d"
  have em:(os.zip ks).map (fun q:List Off × Nat=>zer (q.1.getD q.2 (0,0,0))) = ((os.zip ks).map fun q:List Off × Nat=>q.1.getD q.2 (0,0,0)).map zer:=by rw [List.map_map]; rfl
  rw [em,zeY]
  refine cmp2 (S0:=[]) (fun q:Part × Off=>zgr (q.1.1,q.2.1,q.2.2.1)) rfl _ (by simp; omega) ?_ ?_
  ·intro x mx u v acc R' hk'
   rw [zjd,zfu]
   walk_at "d"
   exact hk' _ _
  ·walk_at "d"
   rw [zky ho hc]
   exact q
def zfF (ps:List Part) (gs:List Gap):Bool:=gs.all fun g=>zpk ps g
theorem zdX {ps:List Part} {gs:List Gap} (ho:Ord ps) (hn:ps.length <= 100) (hg:∀ g ∈ gs,Tms ps.length g.ts):zfF ps gs = true ↔ ∀ ms,InBox ps ms->¬ BrkS gs ms:=by
 unfold zfF
 rw [List.all_eq_true]
 constructor
 ·rintro h ms hb ⟨g,mg,hk⟩
  have:=h g mg
  unfold zpk at this
  rw [decide_eq_true_eq] at this
  have:=(zh8 ho hn (hg g mg)).mpr this ms hb
  rw [hk] at this
  cases this
 ·intro h g mg
  unfold zpk
  rw [decide_eq_true_eq]
  refine (zh8 ho hn (hg g mg)).mp fun ms hb=>?_
  cases hk:zcw g ms with
  | true=>rfl
  | false=>exact absurd ⟨g,mg,hk⟩ (h ms hb)
theorem zlM {ps:List Part} {os:List (List Off)} {ks:List Nat} {gs:List Gap} (ho:Offs ps os) (hc:Chs os ks) (h8:ps.length <= 8) (h6:gs.length <= 6) (hg:∀ g ∈ gs,Tms ps.length g.ts) (q:R (.d (.bool (zfF (chosen ps os ks) gs))) []):zhU [.d (zho ps gs),.d (zaz os),.d (znA ks)] [] R:=by
 have co:=zeo ho hc
 have cl:=zao (ps:=ps) (os:=os) (ks:=ks)
 have hg':∀ g ∈ gs,Tms (chosen ps os ks).length g.ts:=by rw [cl]; exact hg
 unfold zhU
 rw [zho]
 walk_at "d"
 refine zdh ho hc h8 ?_
 walk_at "d"
 refine zgW co (by omega) (by omega) hg' (fun no=>?_) fun one j gj ob hj hbr hbef hmin=>?_
 ·rw [(zdX co (by omega) hg').mpr no] at q
  walk_at "d"
  exact q
 ·have:zfF (chosen ps os ks) gs = false:=by
   rw [Bool.eq_false_iff]
   intro h
   exact (zdX co (by omega) hg').mp h one ob ⟨gj,List.mem_of_getElem? hj,hbr⟩
  rw [this] at q
  walk_at "d"
  exact q
end
section
variable {R:RX} {S:Sto}
theorem zhM {d:PyData} (q:R (.d (.bool (zop d))) []):zem [.d d] [] R:=by
 unfold zem
 cases d <;> (walk_at "e"; exact q)
def zmV (n:Nat):PyData->Bool
 | .int k=>decide (0 <= k/\k < n)
 | _=>false
def chB (os:List (List Off)):PyData->Bool
 | .tuple ds=>decide (ds.length = os.length) && ((ds.zip os).map fun q=>zmV q.2.length q.1).all id
 | _=>false
theorem zeP {os:List (List Off)} (h8:os.length <= 8) (q:R (.d (.list (os.map fun l=>.int l.length))) []):zcH [.d (zaz os)] [] R:=by
 unfold zcH zaz
 walk_at "d"
 refine cmp1 (S0:=[]) (fun l:List Off=>.int l.length) rfl os (by omega) ?_ ?_
 ·intro l ml u acc R' hk
  rw [zcl]
  walk_at "d"
  exact hk _
 ·walk_at "d"
  exact .inl q
def bgB (os:List (List Off)):PyData->Bool
 | .tuple ds=>decide (ds.length <= os.length) && ((ds.zip os).map fun q=>zmV q.2.length q.1).all id
 | _=>false
theorem zqY {os:List (List Off)} {ds:List PyData}:chB os (.tuple ds) = (decide (ds.length = os.length) && ((ds.zip os).map fun q=>zmV q.2.length q.1).all id):=rfl
theorem zk7 {os:List (List Off)} {ds:List PyData}:bgB os (.tuple ds) = (decide (ds.length <= os.length) && ((ds.zip os).map fun q=>zmV q.2.length q.1).all id):=rfl
theorem zga {os:List (List Off)} {d:PyData} (h8:os.length <= 8) (q:R (.d (.bool (bgB os d))) []):zb8 [.d (.list (os.map fun l=>.int l.length)),.d d] [] R:=by
 unfold zb8
 cases d with
 | tuple ds =>
  walk_at "d"
  (refine seq1 ?_; walk_at "d")
  by_cases h:ds.length <= os.length
  ·rw [if_neg (by omega)]
   walk_at "d"
   rw [zk7,decide_eq_true h] at q
   have ez:zhP ds (os.map fun l=>PyData.int (l.length:Nat)) = (ds.zip os).map fun q=>.tuple [q.1,.int (q.2.length:Nat)]:=by
    have:=zeY (fun d:PyData=>d) (fun l:List Off=>PyData.int (l.length:Nat)) ds os
    rwa [List.map_id'] at this
   rw [ez]
   refine cmp2 (S0:=[]) (fun q:PyData × List Off=>.bool (zmV q.2.length q.1)) rfl (ds.zip os) (by simp; omega) ?_ ?_
   ·intro x mx u v acc R' hk
    obtain ⟨d,l⟩:=x
    walk_at "d"
    refine zhM ?_
    cases d with
    | int k =>
     simp only [zop]
     walk_at "d"
     have e0:zmV l.length (.int k) = decide (0 <= k/\k < l.length):=rfl
     by_cases h0:0 <= k
     ·rw [if_pos h0]
      have:=hk (some (.d (.int k))) (some (.d (.int l.length)))
      rw [e0] at this
      simpa [h0] using this
     ·rw [if_neg h0]
      have:=hk (some (.d (.int k))) (some (.d (.int l.length)))
      rw [e0] at this
      simpa [h0] using this
    | none=>exact hk _ _
    | bool b=>exact hk _ _
    | str b=>exact hk _ _
    | list b=>exact hk _ _
    | dict b=>exact hk _ _
    | tuple b=>exact hk _ _
   ·walk_at "d"
    refine ⟨(ds.zip os).map fun q=>zmV q.2.length q.1,by rw [List.map_map]; rfl,?_⟩
    exact q
  ·rw [if_pos (by omega)]
   rw [zk7,decide_eq_false h] at q
   exact q
 | none=>(walk_at "d"; (refine seq1 ?_; walk_at "d"); exact q)
 | bool b=>(walk_at "d"; (refine seq1 ?_; walk_at "d"); exact q)
 | int b=>(walk_at "d"; (refine seq1 ?_; walk_at "d"); exact q)
 | str b=>(walk_at "d"; (refine seq1 ?_; walk_at "d"); exact q)
 | list b=>(walk_at "d"; (refine seq1 ?_; walk_at "d"); exact q)
 | dict b=>(walk_at "d"; (refine seq1 ?_; walk_at "d"); exact q)
theorem zcM {ps:List Part} {os:List (List Off)} {ks:List Nat} (ho:Offs ps os) (hc:Chs os ks) (h8:ps.length <= 8) (q:R (.d (.int (((os.zip ks).map fun q=>(q.1.getD q.2 (0,0,0)).2.2).sum))) []):zaA [.d (zaz os),.d (znA ks)] [] R:=by
 have hl:=ho.len
 have hk:=hc.len
 unfold zaA zaz znA
 walk_at "d"
 rw [zeY]
 refine cmp2 (S0:=[]) (fun q:List Off × Nat=>.int (q.1.getD q.2 (0,0,0)).2.2) rfl (os.zip ks) (by simp; omega) ?_ ?_
 ·intro x mx u v acc R' hk'
  obtain ⟨i,hi⟩:=List.mem_iff_getElem?.mp mx
  rw [List.getElem?_zip_eq_some] at hi
  obtain ⟨h1,h2⟩:=hi
  have il:i < os.length:=(List.getElem?_eq_some_iff.mp h1).1
  have e1:os.getD i [] = x.1:=by rw [zgM il] at h1; exact Option.some.inj h1
  have e2:ks.getD i 0 = x.2:=by rw [gD (d:=0) (by omega)] at h2; exact Option.some.inj h2
  have kb:=hc.ok i il
  rw [e1,e2] at kb
  have e3:=zc1 (f:=zer) (gD (d:=((0,0,0):Off)) kb)
  rw [zcl]
  walk_at "d"
  refine ⟨_,e3,?_⟩
  rw [zfu]
  walk_at "d"
  exact hk' _ _
 ·walk_at "d"
  exact ⟨_,by rw [List.map_map]; rfl,q⟩
theorem zhT {os:List (List Off)} {d:PyData} (h8:os.length <= 8) (q:R (.d (.bool (chB os d))) []):zdN [.d (zaz os),.d d] [] R:=by
 unfold zdN
 walk_at "d"
 refine zeP h8 ?_
 walk_at "d"
 refine zga h8 ?_
 walk_at "d"
 cases d with
 | tuple ds =>
  rw [zk7]
  rw [zqY] at q
  unfold zaz
  walk_at "d"
  by_cases h:ds.length = os.length
  ·rw [decide_eq_true h,Bool.true_and] at q
   rw [decide_eq_true (show ds.length <= os.length by omega),Bool.true_and]
   by_cases h2:((ds.zip os).map fun q=>zmV q.2.length q.1).all id = true
   ·rw [if_pos h2]
    rw [h2] at q
    rw [decide_eq_true (by omega)]
    exact q
   ·rw [if_neg h2]
    rw [Bool.not_eq_true _ |>.mp h2] at q
    exact q
  ·rw [decide_eq_false h,Bool.false_and] at q
   split
   ·rw [decide_eq_false (by omega)]
    exact q
   ·exact q
 | none=>exact q
 | bool b=>exact q
 | int b=>exact q
 | str b=>exact q
 | list b=>exact q
 | dict b=>exact q
end
section
variable {R:RX}
theorem zgG {found:List (List Int)} {p:Part} (hl:(ext found p).length <= 1000) (fl:∀ a ∈ found,a.length <= 100) (h1:1 <= found.length) (q:R (.d (.list ((ext found p).map zbe))) []):zcC [.d (.list (found.map zbe)),.d (.list ((zma p).map PyData.int))] [] R:=by
 unfold zcC
 walk_at "d"
 (refine seq1 ?_; walk_at "d")
 refine seq1 ?_
 walk_at "d"
 refine zaN (fun j δ S=>∃ (u:Option XV),S = [(ext (found.take j) p).map zbe]/\δ = [some (.d (.list (found.map zbe))),some (.d (.list ((zma p).map PyData.int))),some (.l 0),u]) ⟨_,rfl,rfl⟩ ?_ ?_
 ·rintro j d _ _ N hj ⟨u,rfl,rfl⟩ hN
  obtain ⟨a,ha,rfl⟩:=zbZ hj
  have al:=fl a (List.mem_of_getElem? ha)
  have ej:ext (found.take (j + 1)) p = ext (found.take j) p ++ (zma p).map fun x=>a ++ [x]:=by
   rw [zeZ ha]
   unfold ext
   rw [List.flatMap_append]
   simp
  have lj:(ext (found.take (j + 1)) p).length <= (ext found p).length:=by
   rw [zlW,zlW,List.length_take]
   exact Nat.mul_le_mul_right _ (by omega)
  have sm:(ext (found.take j) p).length + (zma p).length <= 1000:=by
   rw [ej,List.length_append,List.length_map] at lj
   omega
  rw [zbe]
  walk_at "d"
  refine cmp1 (S0:=[(ext (found.take j) p).map zbe]) (fun x:Int=>zbe (a ++ [x])) rfl (zma p) (by omega) ?_ ?_
  ·intro x mx u acc R' hk
   walk_at "d"
   refine ⟨by omega,?_⟩
   rw [zmf]
   exact hk _
  ·walk_at "d"
   refine ⟨sm,hN _ _ ⟨_,?_,rfl⟩⟩
   rw [ej,List.map_append,List.map_map]
   rfl
 ·rintro _ _ ⟨u,rfl,rfl⟩
  rw [List.length_map,List.take_length]
  walk_at "d"
  exact .inl q
end
section
variable {R:RX}
theorem len2 {ds:List PyData} (h:ds.length = 2):∃ x y,ds = [x,y]:=by
 match ds,h with
 | [x,y],_=>exact ⟨x,y,rfl⟩
end
section
variable {R:RX} {S:Sto}
inductive Hs:PyData->Prop
 | tup {ds:List PyData}:(∀ x r,ds = x :: r->SeqAt.shaped x = true)->(∀ y ∈ ds,Hs y)->Hs (.tuple ds)
 | oth {d:PyData}:(∀ ds,d ≠ .tuple ds)->Hs d
theorem Hs.hd {x:PyData} {r:List PyData} (h:Hs (.tuple (x :: r))):SeqAt.shaped x = true:=by
 cases h with
 | tup h1 h2=>exact h1 x r rfl
 | oth h=>exact absurd rfl (h _)
theorem Hs.item {ds:List PyData} (h:Hs (.tuple ds)):∀ y ∈ ds,Hs y:=by
 cases h with
 | tup h1 h2=>exact h2
 | oth h=>exact absurd rfl (h _)
theorem len5 {ds:List PyData} (h:ds.length = 5):∃ x y z u v,ds = [x,y,z,u,v]:=by
 match ds,h with
 | [x,y,z,u,v],_=>exact ⟨x,y,z,u,v,rfl⟩
end
section
def fil:List Nat->List (List Int)
 | []=>[[]]
 | s :: r=>(List.range s).flatMap fun k:Nat=>(fil r).map fun z=>(k:Int) :: z
theorem zf4:∀ sz:List Nat,(fil sz).length = zbj sz
 | []=>rfl
 | s :: r=>by
  have:∀ (n:Nat),((List.range n).flatMap fun k:Nat=>(fil r).map fun z=>(k:Int) :: z).length = n * zbj r:=by
   intro n
   induction n with
   | zero=>simp
   | succ n ih =>
    rw [List.range_succ,List.flatMap_append,List.length_append,ih]
    simp [zf4 r,Nat.succ_mul]
  exact this s
def Bgn:List Nat->List Int->Prop
 | _,[]=>True
 | [],_ :: _=>False
 | s :: r,k :: b=>(0 <= k/\k < s)/\Bgn r b
theorem zfo:∀ {sz:List Nat} {z:List Int},z ∈ fil sz ↔ z.length = sz.length/\Bgn sz z
 | [],z=>by
  cases z with
  | nil=>simp [fil,Bgn]
  | cons a z=>simp [fil,Bgn]
 | s :: r,z=>by
  simp only [fil,List.mem_flatMap,List.mem_range,List.mem_map]
  constructor
  ·rintro ⟨k,hk,y,hy,rfl⟩
   have:=(zfo (sz:=r)).mp hy
   exact ⟨by simp [this.1],⟨by omega,by omega⟩,this.2⟩
  ·rintro ⟨h1,h2⟩
   cases z with
   | nil=>simp at h1
   | cons k z =>
    obtain ⟨⟨a,b⟩,c⟩:=h2
    exact ⟨k.toNat,by omega,z,(zfo (sz:=r)).mpr ⟨by simpa using h1,c⟩,by rw [Int.toNat_of_nonneg a]⟩
end
section
variable {R:RX} {S:Sto}
abbrev Trm:=Int × Int
def wys (l:List Trm):List Trm:=(0,0) :: l
def szD (sz:List Nat):PyData:=.list (sz.map fun n:Nat=>.int n)
def way (l:List Trm) (k:Int):Trm:=(wys l).getD k.toNat (0,0)
theorem zpY {α:Type} {ds:List α} {k:Nat} (h:k <= ds.length):zef ds (some (k:Int)) none = ds.drop k:=by
 have e1:HT.sIx ds.length 0 (some (k:Int)) = k:=by rw [HT.sIx_nat]; omega
 have e2:HT.sIx ds.length ds.length none = ds.length:=rfl
 unfold zef
 rw [e1,e2,List.take_of_length_le (by simp)]
def Sz (sz:List Nat):Prop:=sz.length <= 8/\∀ s ∈ sz,s <= 4
theorem zfi (l:List Nat) (x:Nat):zbj (l ++ [x]) = zbj l * x:=by
 rw [zd9]
 simp [zbj]
theorem zft {sz:List Nat} {ds:List PyData} (hz:Sz sz) (hl:ds.length <= sz.length) (q:R (.d (.int (zbj (sz.drop ds.length)))) []):zbu [.d (szD sz),.d (.tuple ds)] [] R:=by
 obtain ⟨h8,h4⟩:=hz
 unfold zbu szD
 walk_at "d"
 (refine seq1 ?_; walk_at "d")
 (refine seq1 ?_; walk_at "d")
 rw [zpY (by simpa using hl),<- List.map_drop]
 refine zaN (fun i δ S=>∃ (u:Option XV),S = []/\δ = [some (.d (.list (sz.map fun n:Nat=>PyData.int n))),some (.d (.tuple ds)),some (.d (.int (zbj ((sz.drop ds.length).take i):Nat))),u]) ⟨none,rfl,by simp [zbj]⟩ ?_ ?_
 ·rintro i d _ _ N hi ⟨u,rfl,rfl⟩ hN
  obtain ⟨x,hx,rfl⟩:=zbZ hi
  walk_at "d"
  have mx:x ∈ sz:=List.mem_of_mem_drop (List.mem_of_getElem? hx)
  have x4:=h4 x mx
  refine ⟨zmo (by omega) (by omega),hN _ _ ⟨some (.d (.int x)),rfl,?_⟩⟩
  rw [List.take_add_one,hx]
  simp [zfi]
 ·rintro _ _ ⟨u,rfl,rfl⟩
  rw [List.length_map,List.take_length]
  walk_at "d"
  exact q
theorem zhh {α:Type} {ds:List α} {k:Nat}:zef ds none (some (k:Int)) = ds.take k:=by
 have e1:HT.sIx ds.length ds.length (some (k:Int)) = min k ds.length:=by rw [HT.sIx_nat]
 have e2:HT.sIx ds.length 0 none = 0:=rfl
 unfold zef
 rw [e1,e2]
 rcases Nat.le_total k ds.length with h | h
 ·rw [Nat.min_eq_left h]
  simp
 ·rw [Nat.min_eq_right h,List.take_of_length_le (by simp),List.take_of_length_le h]
  simp
def t2:PyData->Bool
 | .tuple [_,_]=>true
 | _=>false
end
section
variable {R:RX} {S:Sto}
theorem zka:∀ (sz:List Nat) (F:List (List Int)),sz.foldl (fun F s=>F.flatMap fun a=>(List.range s).map fun k:Nat=>a ++ [(k:Int)]) F = F.flatMap fun a=>(fil sz).map fun z=>a ++ z
 | [],F=>by simp [fil]
 | s :: sz,F=>by
  rw [List.foldl_cons,zka sz,List.flatMap_assoc]
  congr 1
  funext a
  simp only [fil,List.flatMap_map,List.map_flatMap,List.map_map]
  congr 1
  funext k
  congr 1
  funext z
  simp
theorem zeb (sz:List Nat):sz.foldl (fun F s=>F.flatMap fun a=>(List.range s).map fun k:Nat=>a ++ [(k:Int)]) [[]] = fil sz:=by
 rw [zka]
 simp
def stp (F:List (List Int)) (s:Nat):List (List Int):=F.flatMap fun a=>(List.range s).map fun k:Nat=>a ++ [(k:Int)]
theorem ziM (l:List Nat) (x:Nat):(l ++ [x]).foldl stp [[]] = stp (l.foldl stp [[]]) x:=by simp
theorem zjX (l:List Nat):(l.foldl stp [[]]).length = zbj l:=by
 have:=zeb l
 rw [<- zf4,<- this]
 rfl
theorem zlP {sz:List Nat} (h:∀ s ∈ sz,1 <= s) (i:Nat):zbj (sz.take i) <= zbj sz:=by
 have:=zd9 (sz.take i) (sz.drop i)
 rw [List.take_append_drop] at this
 rw [this]
 exact Nat.le_mul_of_pos_right _ (zfW fun x m=>h x (List.mem_of_mem_drop m))
theorem zfs {g:DG} {b:DSm} {E:DEndsM}:∀ {ds:List PyData} {δ:XE} {S:Sto} {M:DM} (I:Nat->XE->Sto->DM->Prop),I 0 δ S M ->
  (∀ i d δ S M (N:XE->Sto->DM->Prop),ds[i]? = some d->I i δ S M->(∀ δ' S' M',I (i + 1) δ' S' M'->N δ' S' M')->g (.d d) δ S fun δ1 S1=>b { nx:=N,ct:=N,bk:=E.nx,rt:=E.rt } δ1 S1 M) ->
  (∀ δ S M,I ds.length δ S M->E.nx δ S M)->zfA g b ds E δ S M
 | [],δ,S,M,I,h0,_,fin=>fin δ S M h0
 | d :: ds,δ,S,M,I,h0,step,fin=>by
  show g (.d d) δ S fun δ1 S1=>b _ δ1 S1 M
  refine step 0 d δ S M _ rfl h0 fun δ' S' M' h1=>?_
  exact zfs (ds:=ds) (fun i=>I (i + 1)) h1 (fun i e δ S M N hi=>step (i + 1) e δ S M N (by simpa using hi)) fin
def zoa (m:List (List Key × PyData)) (k:List Key):Bool:=m.any fun p=>decide (p.1 = k)
theorem znT {m:List (List Key × PyData)} {k k':List Key} {v:PyData}:zoa (ptA m k v) k' = (zoa m k' || decide (k = k')):=by
 unfold zoa ptA
 split
 ·rename_i h
  rw [List.any_map]
  have e:(m.any ((fun p=>decide (p.1 = k')) ∘ fun p=>if p.1 = k then (p.1,v) else p)) = m.any fun p=>decide (p.1 = k'):=by
   congr 1
   funext p
   simp only [Function.comp]
   split <;> rfl
  rw [e]
  by_cases hk:k = k'
  ·subst hk
   rw [h]
   rfl
  ·simp [hk]
 ·rw [List.any_append]
  simp
theorem zqf {m:List (List Key × PyData)} {k:List Key}:(lkA m k).isSome = zoa m k:=by
 unfold lkA zoa
 rw [Option.isSome_map]
 induction m with
 | nil=>rfl
 | cons p m ih =>
  rw [List.find?_cons,List.any_cons]
  cases decide (p.1 = k) with
  | true=>rfl
  | false=>simpa using ih
theorem zrU {m:List (List Key × PyData)} {k:List Key} {v:PyData}:(ptA m k v).length <= m.length + 1:=by
 unfold ptA
 split <;> simp
theorem zfO (b:List Int):zkW (zbe b) = some (b.map Sum.inl):=by
 show ziK (b.map PyData.int) = _
 induction b with
 | nil=>rfl
 | cons x b ih=>simp [ziK,zla,ih]
end
section
variable {R:RX} {S:Sto}
def szO (os:List (List Off)):List Nat:=os.map (·.length)
def kN (ks:List Int):List Nat:=ks.map Int.toNat
theorem zlv:∀ {sz:List Nat} {z:List Int},Bgn sz z->(kN z).map (fun k:Nat=>(k:Int)) = z/\z.length <= sz.length/\∀ (i:Nat) k s,z[i]? = some k->sz[i]? = some s->k.toNat < s
 | _,[],_=>⟨rfl,Nat.zero_le _,fun i k s e=>by simp at e⟩
 | [],_ :: _,h=>h.elim
 | s :: sz,k :: z,h=>by
  obtain ⟨⟨h0,h1⟩,h2⟩:=h
  obtain ⟨e1,e2,e3⟩:=zlv h2
  refine ⟨?_,by simp; omega,fun i k' s' q1 q2=>?_⟩
  ·show ((k.toNat:Nat):Int) :: (kN z).map (fun k:Nat=>(k:Int)) = k :: z
   rw [e1,Int.toNat_of_nonneg h0]
  ·cases i with
   | zero =>
    cases q1
    cases q2
    omega
   | succ i=>exact e3 i k' s' q1 q2
theorem zpp {ks:List Int} (h:(kN ks).map (fun k:Nat=>(k:Int)) = ks):zbe ks = znA (kN ks):=by
 unfold zbe znA
 conv=>lhs; rw [<- h]
 rw [List.map_map]
 rfl
theorem zdc {os:List (List Off)} {ks:List Int} (h:ks ∈ fil (szO os)):Chs os (kN ks)/\zbe ks = znA (kN ks):=by
 obtain ⟨h1,h2⟩:=zfo.mp h
 obtain ⟨e1,e2,e3⟩:=zlv h2
 have hl:ks.length = os.length:=by simpa [szO] using h1
 refine ⟨⟨by simpa [kN] using hl,fun i hi=>?_⟩,zpp e1⟩
 have hk:i < ks.length:=by omega
 have:=e3 i ks[i] (os.getD i []).length (List.getElem?_eq_getElem hk) (by unfold szO; rw [List.getElem?_map,zgM hi]; rfl)
 have e:(kN ks).getD i 0 = ks[i].toNat:=by simp [kN,hk]
 rw [e]
 exact this
structure OC (ps:List Part) (os:List (List Off)):Prop extends Offs ps os where
 h8:ps.length <= 8
 few:zbj (szO os) <= 256
 nest:∀ (i:Nat) l,os[i]? = some l->∀ (j:Nat) o o',l[j]? = some o->l[j + 1]? = some o'->o.1 <= o'.1/\o'.2.1 <= o.2.1
theorem OC.sz {ps:List Part} {os:List (List Off)} (h:OC ps os):Sz (szO os)/\∀ s ∈ szO os,1 <= s:=by
 have hl:=h.len
 have h8:=h.h8
 have ok:∀ l ∈ os,1 <= l.length/\l.length <= 4:=fun l m=>by
  obtain ⟨i,hi⟩:=List.mem_iff_getElem?.mp m
  have il:=(List.getElem?_eq_some_iff.mp hi).1
  have:=h.ok i _ l (zb2 (by omega)) hi
  exact ⟨this.l1,this.l4⟩
 refine ⟨⟨by simp [szO]; omega,fun s m=>?_⟩,fun s m=>?_⟩
 ·obtain ⟨l,ml,rfl⟩:=List.mem_map.mp m
  exact (ok l ml).2
 ·obtain ⟨l,ml,rfl⟩:=List.mem_map.mp m
  exact (ok l ml).1
theorem zjK (os:List (List Off)):(os.map fun l=>PyData.int (l.length:Nat)) = (szO os).map fun n:Nat=>.int n:=by
 unfold szO
 rw [List.map_map]
 rfl
theorem zk3 {n:Nat} (h:1 <= n):zma ("",0,(n:Int) - 1) = (List.range n).map fun k:Nat=>(k:Int):=by
 unfold zma rng
 rw [show ((n:Int) - 1 - 0 + 1).toNat = n by omega]
 simp
theorem zp6 {n:Nat} (h:1 <= n) (F:List (List Int)):ext F ("",0,(n:Int) - 1) = stp F n:=by
 unfold ext stp
 rw [zk3 h]
 simp [List.map_map,Function.comp_def]
theorem zgA {sz:List Nat} (hz:Sz sz) (h1:∀ s ∈ sz,1 <= s) (hf:zbj sz <= 256) (q:R (.d (.list ((fil sz).map zbe))) []):zcx [.d (szD sz)] [] R:=by
 obtain ⟨h8,h4⟩:=hz
 unfold zcx szD
 walk_at "d"
 (refine seq1 ?_; walk_at "d")
 refine seq1 ?_
 walk_at "d"
 refine zaN (fun i δ S=>∃ (u:Option XV),S = []/\δ = [some (.d (.list (sz.map fun n:Nat=>.int n))),some (.d (.list (((sz.take i).foldl stp [[]]).map zbe))),u]) ⟨_,rfl,rfl⟩ ?_ ?_
 ·rintro i d _ _ N hi ⟨u,rfl,rfl⟩ hN
  obtain ⟨n,en,rfl⟩:=zbZ hi
  have il:i < sz.length:=(List.getElem?_eq_some_iff.mp en).1
  have n1:=h1 n (List.mem_of_getElem? en)
  have n4:=h4 n (List.mem_of_getElem? en)
  have pl:=zlP h1 (i + 1)
  rw [List.take_add_one,en] at pl
  simp only [Option.toList_some] at pl
  rw [zfi] at pl
  generalize hF:(sz.take i).foldl stp [[]] = F
  have lF:F.length = zbj (sz.take i):=by rw [<- hF,zjX]
  have F1:1 <= F.length:=by rw [lF]; exact zfW fun x m=>h1 x (List.mem_of_mem_take m)
  walk_at "d"
  refine ⟨⟨by omega,by omega⟩,?_⟩
  have ei:zfI 0 ((n:Int)).toNat = (zma ("",0,(n:Int) - 1)).map PyData.int:=by
   rw [zk3 n1,List.map_map,Int.toNat_natCast]
   simp [zfI]
  rw [ei]
  have es:=zp6 n1 F
  refine zgG (by rw [es]; unfold stp; rw [zdI (n:=n) (fun x _=>by simp),lF]; omega) (fun a ma=>?_) F1 ?_
  ·have ea:F = fil (sz.take i):=by rw [<- hF]; exact zeb _
   rw [ea] at ma
   have:=(zfo.mp ma).1
   rw [List.length_take] at this
   omega
  ·rw [es]
   have e5:(sz.take (i + 1)).foldl stp [[]] = stp F n:=by
    rw [List.take_add_one,en,<- hF]
    exact ziM _ _
   exact hN _ _ ⟨_,rfl,by rw [e5]⟩
 ·rintro _ _ ⟨u,rfl,rfl⟩
  rw [List.length_map,List.take_length]
  walk_at "d"
  have:=zeb sz
  rw [<- this] at q
  exact q
theorem zkH {sz:List Nat} (hz:Sz sz) (hf:zbj sz <= 300) (q:R (.d .none) []):zbh [.d (szD sz)] [] R:=by
 unfold zbh
 walk_at "d"
 (refine seq1 ?_; walk_at "d")
 refine zft hz (by simp) ?_
 walk_at "d"
 rw [List.drop_zero,if_neg (by omega)]
 exact q
theorem zgC {ps:List Part} {os:List (List Off)} (h:OC ps os) (q:R (.d (.list ((fil (szO os)).map zbe))) []):zcy [.d (zaz os)] [] R:=by
 obtain ⟨⟨h8,h4⟩,h1⟩:=h.sz
 have l8:os.length <= 8:=by have:=h.len; have:=h.h8; omega
 unfold zcy zaz
 walk_at "d"
 (refine seq1 ?_; walk_at "d")
 (refine seq1 ?_; walk_at "d")
 refine zaN (fun i δ S=>∃ (u1 u2 u3:Option XV),S = []/\δ = [some (.d (.tuple (os.map zeW))),some (.d (.list ((((szO os).take i).foldl stp [[]]).map zbe))),u1,u2,u3]) ⟨_,_,_,rfl,rfl⟩ ?_ ?_
 ·rintro i d _ _ N hi ⟨u1,u2,u3,rfl,rfl⟩ hN
  obtain ⟨l,hl,rfl⟩:=zbZ hi
  have es:(szO os)[i]? = some l.length:=by unfold szO; rw [List.getElem?_map,hl]; rfl
  have n4:=h4 _ (List.mem_of_getElem? es)
  have pl:=zlP (sz:=szO os) h1 (i + 1)
  have pf:=h.few
  rw [List.take_add_one,es] at pl
  simp only [Option.toList_some] at pl
  rw [zfi] at pl
  generalize hF:((szO os).take i).foldl stp [[]] = F
  have lF:F.length = zbj ((szO os).take i):=by rw [<- hF,zjX]
  rw [zcl]
  walk_at "d"
  (refine seq1 ?_; walk_at "d")
  (refine seq1 ?_; walk_at "d")
  refine zaN (fun j δ S=>∃ (u3:Option XV),S = [(stp (F.take j) l.length).map zbe]/\δ = [some (.d (.tuple (os.map zeW))),some (.d (.list (F.map zbe))),some (.d (.tuple (l.map zer))),some (.l 0),u3]) ⟨_,by simp [stp],rfl⟩ ?_ ?_
  ·rintro j d _ _ N hj ⟨u3,rfl,rfl⟩ hN
   obtain ⟨a,ha,rfl⟩:=zbZ hj
   have jl:j < F.length:=(List.getElem?_eq_some_iff.mp ha).1
   have e1:stp (F.take (j + 1)) l.length = stp (F.take j) l.length ++ (List.range l.length).map fun k:Nat=>a ++ [(k:Int)]:=by
    rw [List.take_add_one,ha]
    simp [stp]
   have e2:(stp (F.take j) l.length).length = j * l.length:=by
    unfold stp
    rw [zdI (n:=l.length) (fun x _=>by simp),List.length_take]
    rw [Nat.min_eq_left (by omega)]
   have e3:j * l.length <= 256:=Nat.le_trans (Nat.mul_le_mul_right _ (by omega)) (Nat.le_trans pl pf)
   have ei:zfI 0 ((l.length:Int)).toNat = (List.range l.length).map fun k:Nat=>PyData.int (0 + (k:Int)):=by
    rw [show ((l.length:Int)).toNat = l.length by omega]
    simp [zfI]
   unfold zbe
   walk_at "d"
   rw [ei]
   refine cmp1 (S0:=[_]) (fun k:Nat=>zbe (a ++ [(k:Int)])) rfl (List.range l.length) (by simp; omega) ?_ ?_
   ·intro k mk u acc R' hk
    have:=hk (some (.d (.int (0 + (k:Int)))))
    unfold zbe at this
    walk_at "d"
    have al:a.length <= 8:=by
     have ea:F = fil ((szO os).take i):=by rw [<- hF]; exact zeb _
     have ma:a ∈ fil ((szO os).take i):=by rw [<- ea]; exact List.mem_of_getElem? ha
     have:=(zfo.mp ma).1
     simp [szO] at this
     omega
    refine ⟨by omega,?_⟩
    simpa using this
   ·walk_at "d"
    rw [e2,List.length_range]
    refine ⟨by omega,hN _ _ ⟨_,?_,rfl⟩⟩
    rw [e1,List.map_append,List.map_map]
    rfl
  ·rintro _ _ ⟨u3,rfl,rfl⟩
   rw [List.length_map,List.take_length]
   refine ⟨[],_,rfl,_,rfl,?_⟩
   have e5:((szO os).take (i + 1)).foldl stp [[]] = stp F l.length:=by
    rw [List.take_add_one,es,<- hF]
    exact ziM _ _
   exact hN _ _ ⟨_,_,_,rfl,by rw [e5]; rfl⟩
 ·rintro _ _ ⟨u1,u2,u3,rfl,rfl⟩
  rw [List.length_map,show os.length = (szO os).length by simp [szO],List.take_length]
  walk_at "d"
  have:=zeb (szO os)
  rw [<- this] at q
  exact q
def pcO (os:List (List Off)) (ks:List Nat):Int:=((os.zip ks).map fun q=>(q.1.getD q.2 (0,0,0)).2.2).sum
def ntD:PyData->Nat
 | .int i=>i.toNat
 | _=>0
def pcD (os:List (List Off)):PyData->Int
 | .tuple ds=>pcO os (ds.map ntD)
 | _=>0
theorem zgd (os:List (List Off)) (ks:List Int):pcD os (zbe ks) = pcO os (kN ks):=by
 show pcO os ((ks.map PyData.int).map ntD) = _
 rw [List.map_map]
 rfl
def zaW (ps:List Part) (os:List (List Off)) (gs:List Gap):List (List Int):=(fil (szO os)).filter fun ks=>zfF (chosen ps os (kN ks)) gs
theorem zgm {ps:List Part} {os:List (List Off)} {gs:List Gap} (h:OC ps os) (h6:gs.length <= 6) (hg:∀ g ∈ gs,Tms ps.length g.ts) (no:zaW ps os gs = []->R (.d .none) [])
  (yes:∀ b,b ∈ zaW ps os gs->(∀ a ∈ zaW ps os gs,pcO os (kN b) <= pcO os (kN a))->R (.d (zbe b)) []):zdm [.d (zho ps gs),.d (zaz os)] [] R:=by
 obtain ⟨hz,h1⟩:=h.sz
 have l8:os.length <= 8:=by have:=h.len; have:=h.h8; omega
 have hf:=h.few
 unfold zdm
 walk_at "d"
 (refine seq1 ?_; walk_at "d")
 refine zeP l8 ?_
 rw [zjK]
 walk_at "d"
 refine zkH hz (by omega) ?_
 walk_at "d"
 (refine seq1 ?_; walk_at "d")
 refine zeP l8 ?_
 rw [zjK]
 walk_at "d"
 refine zgA hz h1 hf ?_
 walk_at "d"
 refine cmf1 (S0:=[]) (h:=zbe) (f:=zbe) (p:=fun ks=>zfF (chosen ps os (kN ks)) gs) rfl (fil (szO os)) (by rw [zf4]; omega) ?_ ?_
 ·intro ks mk u acc R' hk'
  obtain ⟨hc,e⟩:=zdc mk
  walk_at "d"
  rw [e]
  refine zlM h.toOffs hc h.h8 h6 hg ?_
  walk_at "d"
  exact hk' _ fun _ T hT=>⟨_,rfl,by rw [<- e]; exact hT⟩
 ·walk_at "d"
  refine ⟨_,[.d (zaz os)],pcD os,rfl,rfl,fun d md R' hR=>⟨_,rfl,[zaz os,d],rfl,rfl,?_⟩,fun z=>no (List.map_eq_nil_iff.mp z),fun pre d post e hp hq=>?_⟩
  ·obtain ⟨ks,mk,rfl⟩:=List.mem_map.mp md
   obtain ⟨hc,e⟩:=zdc (List.mem_filter.mp mk).1
   rw [zgd] at hR
   show zaA [.d (zaz os),.d (zbe ks)] [] _
   rw [e]
   refine zcM h.toOffs hc h.h8 ?_
   walk_at "d"
   exact hR
  ·obtain ⟨p1,r1,e1,rfl,e2⟩:=List.map_eq_append_iff.mp e
   obtain ⟨b,q1,rfl,rfl,rfl⟩:=List.map_eq_cons_iff.mp e2
   have hgd:zaW ps os gs = p1 ++ b :: q1:=e1
   have mb:b ∈ zaW ps os gs:=by rw [hgd]; simp
   refine yes b mb fun a ma=>?_
   rw [hgd] at ma
   rcases List.mem_append.mp ma with ma | ma
   ·have:=hp (zbe a) (List.mem_map_of_mem ma)
    rw [zgd,zgd] at this
    omega
   ·rcases List.mem_cons.mp ma with rfl | ma
    ·exact Int.le_refl _
    ·have:=hq (zbe a) (List.mem_map_of_mem ma)
     rw [zgd,zgd] at this
     exact this
theorem zl0 {l:List Off} (h:∀ (j:Nat) o o',l[j]? = some o->l[j + 1]? = some o'->o.1 <= o'.1/\o'.2.1 <= o.2.1):∀ (d j:Nat) (o o':Off),l[j]? = some o->l[j + d]? = some o'->o.1 <= o'.1/\o'.2.1 <= o.2.1
 | 0,j,o,o',e1,e2=>by
  rw [Nat.add_zero,e1] at e2
  cases e2
  exact ⟨Int.le_refl _,Int.le_refl _⟩
 | d + 1,j,o,o',e1,e2=>by
  have hl:=(List.getElem?_eq_some_iff.mp e2).1
  have e3:=List.getElem?_eq_getElem (show j + d < l.length by omega)
  have h1:=zl0 h d j o _ e1 e3
  have h2:=h (j + d) _ o' e3 (by rw [Nat.add_assoc]; exact e2)
  omega
theorem zo6 {ps:List Part} {os:List (List Off)} {gs:List Gap} {ks ks':List Nat} (h:OC ps os) (hg:∀ g ∈ gs,Tms ps.length g.ts) (hc:Chs os ks) (hc':Chs os ks') (le:∀ i,i < os.length->ks.getD i 0 <= ks'.getD i 0) (hs:zfF (chosen ps os ks) gs = true):zfF (chosen ps os ks') gs = true:=by
 have h8:=h.h8
 have hl:=h.len
 have hg1:∀ k:List Nat,∀ g ∈ gs,Tms (chosen ps os k).length g.ts:=fun k=>by rw [zao]; exact hg
 refine (zdX (zeo h.toOffs hc') (by rw [zao]; omega) (hg1 _)).mpr fun ms hb=>?_
 refine (zdX (zeo h.toOffs hc) (by rw [zao]; omega) (hg1 _)).mp hs ms ?_
 refine ⟨by rw [hb.len,zao,zao],fun k hk=>?_⟩
 rw [zao] at hk
 have hb':=hb.ok k (by rw [zao]; exact hk)
 unfold plo phi at hb' ⊢
 rw [ziE hk] at hb' ⊢
 have hk2:k < os.length:=by omega
 have lk:=le k hk2
 have:=zl0 (h.nest k _ (zgM hk2)) (ks'.getD k 0 - ks.getD k 0) (ks.getD k 0) _ _ (zhg hc hk2) (by rw [show ks.getD k 0 + (ks'.getD k 0 - ks.getD k 0) = ks'.getD k 0 by omega]; exact zhg hc' hk2)
 simp only at hb' ⊢
 omega
def nrw (sz:List Nat) (ks:List Int):List (List Int):=((List.range sz.length).filter fun k=>decide (ks.getD k 0 + 1 < (sz.getD k 0:Int))).map fun k=>ks.set k (ks.getD k 0 + 1)
theorem zi1:∀ {sz:List Nat} {z:List Int},z.length = sz.length->((∀ i,i < sz.length->0 <= z.getD i 0/\z.getD i 0 < (sz.getD i 0:Int)) ↔ Bgn sz z)
 | [],[],_=>⟨fun _=>trivial,fun _ i hi=>by simp at hi⟩
 | [],_ :: _,h=>by simp at h
 | _ :: _,[],h=>by simp at h
 | s :: sz,k :: z,h=>by
  have ih:=zi1 (sz:=sz) (z:=z) (by simpa using h)
  constructor
  ·intro q
   refine ⟨by simpa using q 0 (by simp),ih.mp fun i hi=>by simpa using q (i + 1) (by simpa using hi)⟩
  ·rintro ⟨q0,q⟩ i hi
   cases i with
   | zero=>simpa using q0
   | succ i=>simpa using ih.mpr q i (by simpa using hi)
theorem zc7 {sz:List Nat} {z:List Int}:z ∈ fil sz ↔ z.length = sz.length/\∀ i,i < sz.length->0 <= z.getD i 0/\z.getD i 0 < (sz.getD i 0:Int):=by
 rw [zfo]
 constructor
 ·rintro ⟨h1,h2⟩
  exact ⟨h1,(zi1 h1).mpr h2⟩
 ·rintro ⟨h1,h2⟩
  exact ⟨h1,(zi1 h1).mp h2⟩
theorem zql (ks:List Int) (i:Nat):(kN ks).getD i 0 = (ks.getD i 0).toNat:=by
 unfold kN
 simp only [List.getD_eq_getElem?_getD,List.getElem?_map]
 cases ks[i]? <;> simp
theorem zk9 {ps:List Part} {os:List (List Off)} {gs:List Gap} {ks ks':List Int} (h:OC ps os) (hg:∀ g ∈ gs,Tms ps.length g.ts) (hk:ks ∈ zaW ps os gs) (hk':ks' ∈ fil (szO os)) (le:∀ i,i < os.length->ks.getD i 0 <= ks'.getD i 0):ks' ∈ zaW ps os gs:=by
 obtain ⟨m1,s1⟩:=List.mem_filter.mp hk
 refine List.mem_filter.mpr ⟨hk',zo6 h hg (zdc m1).1 (zdc hk').1 (fun i hi=>?_) s1⟩
 rw [zql,zql]
 exact Int.toNat_le_toNat (le i hi)
theorem zps {sz:List Nat} {ks z:List Int} (hk:ks ∈ fil sz) (hz:z ∈ nrw sz ks):z ∈ fil sz/\∀ i,ks.getD i 0 <= z.getD i 0:=by
 obtain ⟨k,mk,rfl⟩:=List.mem_map.mp hz
 obtain ⟨m1,m2⟩:=List.mem_filter.mp mk
 have kl:=List.mem_range.mp m1
 have m2:=of_decide_eq_true m2
 obtain ⟨h1,h2⟩:=zc7.mp hk
 have e:∀ i,(ks.set k (ks.getD k 0 + 1)).getD i 0 = if k = i then ks.getD k 0 + 1 else ks.getD i 0:=fun i=>by
  simp only [List.getD_eq_getElem?_getD,List.getElem?_set]
  split
  ·rename_i z
   subst z
   rw [if_pos (by omega)]
   simp
  ·rfl
 refine ⟨zc7.mpr ⟨by rw [List.length_set]; exact h1,fun i hi=>?_⟩,fun i=>?_⟩
 ·rw [e]
  have:=h2 i hi
  split
  ·rename_i z
   subst z
   omega
  ·exact this
 ·rw [e]
  split
  ·rename_i z
   subst z
   omega
  ·exact Int.le_refl _
def zgJ (sz:List Nat):List Int:=sz.map fun n:Nat=>(n:Int) - 1
theorem znj {sz:List Nat} (h1:∀ s ∈ sz,1 <= s):zgJ sz ∈ fil sz/\∀ ks ∈ fil sz,∀ i,i < sz.length->ks.getD i 0 <= (zgJ sz).getD i 0:=by
 have e:∀ i,i < sz.length->(zgJ sz).getD i 0 = (sz.getD i 0:Int) - 1/\1 <= sz.getD i 0:=fun i hi=>by
  have:=h1 sz[i] (List.getElem_mem hi)
  unfold zgJ
  simp [hi]
  omega
 refine ⟨zc7.mpr ⟨by simp [zgJ],fun i hi=>?_⟩,fun ks mk i hi=>?_⟩
 ·have:=e i hi
  omega
 ·have:=e i hi
  have:=(zc7.mp mk).2 i hi
  omega
theorem zf7 {ps:List Part} {os:List (List Off)} {ks:List Int} (h:OC ps os) (mk:ks ∈ fil (szO os)) (q:R (.d (.list ((nrw (szO os) ks).map zbe))) []):zb9 [.d (zaz os),.d (zbe ks)] [] R:=by
 have l8:os.length <= 8:=by have:=h.len; have:=h.h8; omega
 obtain ⟨h1,h2⟩:=zc7.mp mk
 have kl:ks.length = os.length:=by simpa [szO] using h1
 unfold zb9 zaz zbe
 walk_at "d"
 (refine seq1 ?_; walk_at "d")
 refine seq1 ?_
 walk_at "d"
 refine zaN (fun i δ S=>∃ (u:Option XV),S = [(((List.range i).filter fun k=>decide (ks.getD k 0 + 1 < ((szO os).getD k 0:Int))).map fun k=>zbe (ks.set k (ks.getD k 0 + 1)))]/\δ = [some (.d (.tuple (os.map zeW))),some (.d (.tuple (ks.map PyData.int))),some (.l 0),u]) ⟨_,rfl,rfl⟩ ?_ ?_
 ·rintro i d _ _ N hi ⟨u,rfl,rfl⟩ hN
  obtain ⟨hi',rfl⟩:=zcV hi
  have il:i < os.length:=by simpa using hi'
  have ik:i < ks.length:=by omega
  have e1:=zc1 (f:=PyData.int) (gD (d:=0) ik)
  have e2:=zc1 (f:=zeW) (zgM il)
  have es:(szO os).getD i 0 = (os.getD i []).length:=by
   unfold szO
   simp [il]
  simp only [Int.zero_add]
  walk_at "d"
  refine ⟨_,e1,?_⟩
  walk_at "d"
  refine ⟨_,e2,?_⟩
  rw [zcl]
  walk_at "d"
  have ef:(List.range (i + 1)).filter (fun k=>decide (ks.getD k 0 + 1 < ((szO os).getD k 0:Int))) = (List.range i).filter (fun k=>decide (ks.getD k 0 + 1 < ((szO os).getD k 0:Int))) ++ if ks.getD i 0 + 1 < ((os.getD i []).length:Int) then [i] else []:=by
   rw [List.range_succ,List.filter_append,<- es]
   congr 1
   by_cases z:ks.getD i 0 + 1 < ((szO os).getD i 0:Int)
   ·rw [if_pos z,List.filter_cons_of_pos (by simpa using z)]
    rfl
   ·rw [if_neg z,List.filter_cons_of_neg (by simpa using z)]
    rfl
  by_cases hlt:ks.getD i 0 + 1 < ((os.getD i []).length:Int)
  ·rw [if_pos hlt] at ef ⊢
   refine ⟨?_,_,e1,?_⟩
   ·rw [HT.sIx_nat]
    omega
   walk_at "d"
   have c1:=zhh (ds:=ks.map PyData.int) (k:=i)
   have c2:=zfN (f:=PyData.int) ik
   rw [c1,c2]
   have l1:((ks.map PyData.int).take i).length <= 8:=by simp; omega
   have l2:((ks.drop (i + 1)).map PyData.int).length <= 8:=by simp; omega
   have l3:((List.range i).filter fun k=>decide (ks.getD k 0 + 1 < ((szO os).getD k 0:Int))).length <= i:=by
    have:=List.length_filter_le (fun k=>decide (ks.getD k 0 + 1 < ((szO os).getD k 0:Int))) (List.range i)
    simpa using this
   refine ⟨by omega,?_,by omega,by omega,?_⟩
   ·rw [show ((i:Int) + 1) = ((i + 1:Nat):Int) by omega,HT.sIx_nat]
    omega
   refine hN _ _ ⟨_,?_,rfl⟩
   rw [ef,List.map_append]
   congr 3
   show PyData.tuple _ = zbe (ks.set i (ks.getD i 0 + 1))
   unfold zbe
   rw [List.set_eq_take_append_cons_drop,if_pos ik]
   simp
  ·rw [if_neg hlt] at ef ⊢
   exact hN _ _ ⟨_,by rw [ef,List.append_nil],rfl⟩
 ·rintro _ _ ⟨u,rfl,rfl⟩
  walk_at "d"
  refine .inl ?_
  rw [zaj,show ((os.length:Int)).toNat = (szO os).length by simp [szO]]
  unfold nrw at q
  rw [List.map_map] at q
  exact q
def bD:Option (List Int)->PyData
 | none=>.none
 | some b=>zbe b
theorem zna {ps:List Part} {os:List (List Off)} {gs:List Gap} (h:OC ps os):(zaW ps os gs).length <= 256:=by
 have:=List.length_filter_le (fun ks=>zfF (chosen ps os (kN ks)) gs) (fil (szO os))
 rw [zf4] at this
 have:=h.few
 unfold zaW
 omega
theorem zp8 {os:List (List Off)} {b:List Int} (h:b ∈ fil (szO os)):chB os (zbe b) = true:=by
 obtain ⟨h1,h2⟩:=zc7.mp h
 have hl:b.length = os.length:=by simpa [szO] using h1
 show (decide ((b.map PyData.int).length = os.length) && (((b.map PyData.int).zip os).map fun q=>zmV q.2.length q.1).all id) = true
 rw [List.length_map,decide_eq_true hl,Bool.true_and,List.all_map,List.all_eq_true]
 intro x mx
 obtain ⟨i,hi⟩:=List.mem_iff_getElem?.mp mx
 rw [List.getElem?_zip_eq_some,List.getElem?_map] at hi
 obtain ⟨e1,e2⟩:=hi
 obtain ⟨k,ek,ex⟩:=Option.map_eq_some_iff.mp e1
 have il:=(List.getElem?_eq_some_iff.mp e2).1
 have:=h2 i (by simpa [szO] using il)
 have eb:b.getD i 0 = k:=by rw [List.getD_eq_getElem?_getD,ek]; rfl
 have es:(szO os).getD i 0 = x.2.length:=by
  unfold szO
  rw [List.getD_eq_getElem?_getD,List.getElem?_map,e2]
  rfl
 rw [eb,es] at this
 show zmV x.2.length x.1 = true
 rw [<- ex]
 exact decide_eq_true this
theorem zhF {ps:List Part} {os:List (List Off)} {gs:List Gap} {best:Option (List Int)} (h:OC ps os) (h6:gs.length <= 6) (hg:∀ g ∈ gs,Tms ps.length g.ts)
  (hb:(best = none/\zaW ps os gs = [])\/∃ b,best = some b/\b ∈ zaW ps os gs/\∀ a ∈ zaW ps os gs,pcO os (kN b) <= pcO os (kN a)) (q:R (.d (.bool true)) []) :
  zbv [.d (zho ps gs),.d (zaz os),.d (.list ((zaW ps os gs).map zbe)),.d (bD best)] [] R:=by
 have l8:os.length <= 8:=by have:=h.len; have:=h.h8; omega
 have gl:=zna (gs:=gs) h
 unfold zbv
 walk_at "d"
 (refine seq1 ?_; walk_at "d")
 intro a _
 refine seqm ?_
 walk_at "d"
 refine zfs (fun i δ S M=>∃ (m:List (List Key × PyData)) (u:Option XV),S = []/\M = [(a,.t m)]/\m.length <= i/\(∀ k,zoa m k = true ↔ ∃ b ∈ (zaW ps os gs).take i,k = b.map Sum.inl)/\δ = [some (.d (zho ps gs)),some (.d (zaz os)),some (.d (.list ((zaW ps os gs).map zbe))),some (.d (bD best)),some (.o (.ref a)),u,none]) ⟨[],none,rfl,rfl,Nat.le_refl _,by simp [zoa],rfl⟩ ?_ ?_
 ·rintro i d _ _ _ N hi ⟨m,u,rfl,rfl,hm,hk,rfl⟩ hN
  obtain ⟨b,eb,rfl⟩:=zbZ hi
  have il:i < (zaW ps os gs).length:=(List.getElem?_eq_some_iff.mp eb).1
  walk_at "d"
  have pl:=zrU (m:=m) (k:=b.map Sum.inl) (v:=.bool true)
  refine ⟨a,rfl,.t m,.t (ptA m (b.map Sum.inl) (.bool true)),by simp,by show (zkW (zbe b)).map _ = _; rw [zfO]; rfl,by show m.length < 1000; omega,?_⟩
  refine hN _ _ _ ⟨ptA m (b.map Sum.inl) (.bool true),_,rfl,by simp [zpI],by omega,fun k=>?_,rfl⟩
  rw [znT,Bool.or_eq_true,hk,decide_eq_true_eq,List.take_add_one,eb]
  simp only [Option.toList_some,List.mem_append,List.mem_singleton]
  constructor
  ·rintro (⟨x,mx,e⟩ | e)
   ·exact ⟨x,.inl mx,e⟩
   ·exact ⟨b,.inr rfl,e.symm⟩
  ·rintro ⟨x,mx | rfl,e⟩
   ·exact .inl ⟨x,mx,e⟩
   ·exact .inr e.symm
 ·rintro _ _ _ ⟨m,u,rfl,rfl,hm,hk,rfl⟩
  rw [List.length_map] at hm hk
  rw [List.take_length] at hk
  have hk':∀ b:List Int,zoa m (b.map Sum.inl) = decide (b ∈ zaW ps os gs):=fun b=>by
   rw [Bool.eq_iff_iff,hk,decide_eq_true_eq]
   constructor
   ·rintro ⟨x,mx,e⟩
    rw [(List.map_inj_right fun _ _ e=>Sum.inl.inj e).mp e]
    exact mx
   ·exact fun mb=>⟨b,mb,rfl⟩
  walk_at "d"
  refine seqm ?_
  walk_at "d"
  refine zfs (fun i δ S M=>∃ (u:Option XV),S = []/\M = [(a,.t m)]/\δ = [some (.d (zho ps gs)),some (.d (zaz os)),some (.d (.list ((zaW ps os gs).map zbe))),some (.d (bD best)),some (.o (.ref a)),u,none]) ⟨_,rfl,rfl,rfl⟩ ?_ ?_
  ·rintro i d _ _ _ N hi ⟨u,rfl,rfl,rfl⟩ hN
   obtain ⟨b,eb,rfl⟩:=zbZ hi
   have mb:=List.mem_of_getElem? eb
   have fb:=(List.mem_filter.mp mb).1
   walk_at "d"
   refine zf7 h fb ?_
   walk_at "d"
   refine cmp1 (S0:=[]) (fun z:List Int=>.bool (decide (z ∈ zaW ps os gs))) rfl (nrw (szO os) b) ?_ ?_ ?_
   ·unfold nrw
    rw [List.length_map]
    have:=List.length_filter_le (fun k=>decide (b.getD k 0 + 1 < ((szO os).getD k 0:Int))) (List.range (szO os).length)
    simp only [List.length_range] at this
    have:(szO os).length = os.length:=by simp [szO]
    omega
   ·intro z mz u acc R' hk2
    walk_at "d"
    refine ⟨.t m,lkA m (z.map Sum.inl),.inl ⟨a,rfl,by simp⟩,by show (zkW (zbe z)).map _ = _; rw [zfO]; rfl,?_⟩
    rw [zqf,hk']
    exact hk2 _
   ·walk_at "d"
    refine ⟨(nrw (szO os) b).map fun z=>decide (z ∈ zaW ps os gs),by rw [List.map_map]; rfl,?_⟩
    have al:((nrw (szO os) b).map fun z=>decide (z ∈ zaW ps os gs)).all id = true:=by
     rw [List.all_map,List.all_eq_true]
     intro z mz
     obtain ⟨z1,z2⟩:=zps fb mz
     exact decide_eq_true (zk9 h hg mb z1 fun i _=>z2 i)
    rw [al]
    exact hN _ _ _ ⟨_,rfl,rfl,rfl⟩
  ·rintro _ _ _ ⟨u,rfl,rfl,rfl⟩
   have lm:=znj h.sz.2
   have lg:zgJ (szO os) ∈ zaW ps os gs ↔ zaW ps os gs ≠ []:=by
    constructor
    ·intro m z
     rw [z] at m
     cases m
    ·intro z
     obtain ⟨x,mx⟩:=List.exists_mem_of_ne_nil _ z
     have fx:=(List.mem_filter.mp mx).1
     exact zk9 h hg mx lm.1 fun i hi=>lm.2 x fx i (by simpa [szO] using hi)
   walk_at "d"
   refine seqm ?_
   unfold zaz
   walk_at "d"
   refine cmp1 (S0:=[]) (fun l:List Off=>.int ((l.length:Int) - 1)) rfl os (by omega) ?_ ?_
   ·intro l ml u acc R' hk2
    rw [zcl]
    walk_at "d"
    exact hk2 _
   have el:PyData.tuple (os.map fun l:List Off=>.int ((l.length:Int) - 1)) = zbe (zgJ (szO os)):=by
    unfold zbe zgJ szO
    rw [List.map_map,List.map_map]
    rfl
   walk_at "d"
   rw [el]
   refine seqm ?_
   walk_at "d"
   refine ⟨.t m,lkA m ((zgJ (szO os)).map Sum.inl),.inl ⟨a,rfl,by simp⟩,by show (zkW (zbe (zgJ (szO os)))).map _ = _; rw [zfO]; rfl,?_⟩
   rw [zqf,hk']
   have shL:SeqAt.shaped (PyData.list ((zaW ps os gs).map zbe)) = true:=(zhy (n:=1) (ziY fun s _=>zmH (n:=0) (ziY fun _ _=>zjh))).ok
   have eqL:(PyData.list ((zaW ps os gs).map zbe)).eqv (PyData.list []) = decide (zaW ps os gs = []):=by
    rw [zl3]
    simp
   rcases hb with ⟨rfl,hnil⟩ | ⟨b,rfl,mb,hmin⟩
   ·rw [eqL,decide_eq_false (fun z=>lg.mp z hnil),decide_eq_true hnil]
    simp only [bD,Bool.not_false,not_true_eq_false,↓reduceIte]
    refine ⟨shL,rfl,?_⟩
    refine seqm ?_
    walk_at "d"
    exact ⟨[],_,rfl,q⟩
   ·have ne:zaW ps os gs ≠ []:=fun z=>by rw [z] at mb; cases mb
    have fb:=(List.mem_filter.mp mb).1
    have sb:=(List.mem_filter.mp mb).2
    obtain ⟨hc,e⟩:=zdc fb
    rw [eqL,decide_eq_true (lg.mpr ne),decide_eq_false ne]
    simp only [bD,zbe,Bool.not_true,not_true_eq_false,↓reduceIte]
    refine ⟨shL,rfl,?_⟩
    refine seqm ?_
    walk_at "d"
    refine zhT (os:=os) (d:=zbe b) l8 ?_
    rw [zp8 fb]
    walk_at "d"
    refine ⟨.t m,lkA m (b.map Sum.inl),.inl ⟨a,rfl,by simp⟩,by show (zkW (zbe b)).map _ = _; rw [zfO]; rfl,?_⟩
    rw [zqf,hk',decide_eq_true mb]
    simp only [↓reduceIte,Bool.true_eq_false]
    refine ⟨[],_,rfl,?_⟩
    refine seq1 ?_
    rw [zho]
    walk_at "d"
    show zaK [.d (zcW ps),.d (zaz os),.d (zbe b)] [] _
    rw [e]
    refine zdh h.toOffs hc h.h8 ?_
    walk_at "d"
    have co:=zeo h.toOffs hc
    have cl:=zao (ps:=ps) (os:=os) (ks:=kN b)
    have h8:=h.h8
    have hg':∀ g ∈ gs,Tms (chosen ps os (kN b)).length g.ts:=by rw [cl]; exact hg
    refine zgW co (by omega) (by omega) hg' (fun no=>?_) fun one j gj ob hj hbr hbef hmin=>?_
    ·walk_at "d"
     refine cmp1 (S0:=[]) (fun ks:List Int=>.int (pcO os (kN ks))) rfl (zaW ps os gs) (by omega) ?_ ?_
     ·intro ks mk u acc R' hk2
      obtain ⟨hc2,e2⟩:=zdc (List.mem_filter.mp mk).1
      walk_at "d"
      show zaA [.d (zaz os),.d (zbe ks)] [] _
      rw [e2]
      refine zcM h.toOffs hc2 h.h8 ?_
      walk_at "d"
      exact hk2 _
     ·walk_at "d"
      refine .inl ⟨_,rfl,(zaW ps os gs).map fun ks=>pcO os (kN ks),by rw [List.map_map]; rfl,by simpa using ne,fun mn h1 h2=>?_⟩
      walk_at "d"
      have em:mn = pcO os (kN b):=by
       obtain ⟨x,mx,rfl⟩:=List.mem_map.mp h1
       have:=hmin x mx
       have:=h2 _ (List.mem_map_of_mem (f:=fun ks=>pcO os (kN ks)) mb)
       omega
      show zaA [.d (zaz os),.d (zbe b)] [] _
      rw [e]
      refine zcM h.toOffs hc h.h8 ?_
      walk_at "d"
      rw [em]
      unfold pcO
      walk_at "d"
      exact q
    ·exact absurd ⟨gj,List.mem_of_getElem? hj,hbr⟩ ((zdX co (by omega) hg').mp sb one ob)
def Nst (l:List Off):Prop:=∀ (j:Nat) o o',l[j]? = some o->l[j + 1]? = some o'->o.1 <= o'.1/\o'.2.1 <= o.2.1
theorem zp2 {o:Off}:Nst [o]:=fun j a b e1 e2=>by simp at e2
theorem Nst.snoc {front:List Off} {o n:Off} (h:Nst (front ++ [o])) (hn:o.1 <= n.1/\n.2.1 <= o.2.1):Nst (front ++ [o] ++ [n]):=fun j a b e1 e2=>by
 have hl:=(List.getElem?_eq_some_iff.mp e2).1
 simp only [List.length_append,List.length_singleton] at hl
 by_cases hj:j + 1 < (front ++ [o]).length
 ·rw [List.getElem?_append_left (by omega)] at e1
  rw [List.getElem?_append_left hj] at e2
  exact h j a b e1 e2
 ·simp only [List.length_append,List.length_singleton] at hj
  have ej:j = front.length:=by omega
  subst ej
  simp at e1 e2
  subst e1 e2
  exact hn
theorem Nst.take {l:List Off} (h:Nst l) (n:Nat):Nst (l.take n):=fun j a b e1 e2=>by
 rw [List.getElem?_take] at e1 e2
 split at e1
 ·split at e2
  ·exact h j a b e1 e2
  ·cases e2
 ·cases e1
structure Ofn (p:Part) (l:List Off):Prop extends Ofp p l where
 nst:Nst l
structure OffN (ps:List Part) (os:List (List Off)):Prop where
 len:os.length = ps.length
 ok:∀ (i:Nat) p l,ps[i]? = some p->os[i]? = some l->Ofn p l
theorem OffN.offs {ps:List Part} {os:List (List Off)} (h:OffN ps os):Offs ps os:=⟨h.len,fun i p l e1 e2=>(h.ok i p l e1 e2).toOfp⟩
theorem OffN.oc {ps:List Part} {os:List (List Off)} (h:OffN ps os) (h8:ps.length <= 8) (few:zbj (szO os) <= 256):OC ps os :=
 ⟨h.offs,h8,few,fun i l e=>(h.ok i _ l (zb2 (by have:=(List.getElem?_eq_some_iff.mp e).1; have:=h.len; omega)) e).nst⟩
theorem zkE {p:List PyData} {ps:List Part} (hp:zae p) (hd:Drw ps) (q:∀ os p',OffN ps os->zae p'->R (.d (zaz os)) [p']):zbO [.l 0,.d (zcW ps)] [p] R:=by
 have h8:=hd.l8
 unfold zbO
 walk_at "d"
 (refine seq1 ?_; walk_at "d")
 (refine seq1 ?_; walk_at "d")
 refine ⟨⟨by decide,by decide,by decide⟩,?_⟩
 refine zx hp (by decide) (by decide +kernel) fun r p1 r0 r1 hp1=>?_
 obtain ⟨d,ed,great,rfl,g0,gb⟩:=zk8 (P:=fun d=>∃ n:Int,d = .int n/\0 < n/\n.natAbs.log2 < 9000) (ds:=[PyData.int 4,PyData.int 4,PyData.int 4,PyData.int (10 ^ 50)]) r0 r1 (by
  intro d m
  simp only [List.mem_cons,List.not_mem_nil,or_false] at m
  rcases m with rfl | rfl | rfl | rfl <;> exact ⟨_,rfl,by decide +kernel,by decide +kernel⟩)
 walk_at "d"
 refine ⟨_,ed,?_⟩
 walk_at "d"
 refine seq1 ?_
 rw [zcW]
 walk_at "d"
 refine zaN (fun i δ S=>∃ (p:List PyData) (os:List (List Off)) (T:Sto) (u1 u2 u3 u4 u5 u6 u7 u8 u9 u10:Option XV),zae p/\os.length = i/\(∀ (j:Nat) p l,ps[j]? = some p->os[j]? = some l->Ofn p l)/\S = p :: os.map zeW :: T/\δ = [some (.l 0),some (.d (.tuple (ps.map zgr))),some (.l 1),some (.d (.int great)),u1,u2,u3,u4,u5,u6,u7,u8,u9,u10]) ⟨p1,[],[],_,_,_,_,_,_,_,_,_,_,hp1,rfl,by simp,rfl,rfl⟩ ?_ ?_
 ·rintro i d _ _ N hi ⟨p,os,T,u1,u2,u3,u4,u5,u6,u7,u8,u9,u10,hp,hl,ha,rfl,rfl⟩ hN
  obtain ⟨pt,hpt,rfl⟩:=zbZ hi
  have op:=hd.ord pt (List.mem_of_getElem? hpt)
  have il:i < ps.length:=(List.getElem?_eq_some_iff.mp hpt).1
  rw [zjd]
  walk_at "d"
  (refine seq1 ?_; walk_at "d")
  refine cut (fun δ S=>∃ (p:List PyData) (some_:List Off) (u5 u6 u7 u8 u9 u10:Option XV),zae p/\Ofn pt some_/\S = p :: os.map zeW :: (T ++ [some_.map zer])/\δ = [some (.l 0),some (.d (.tuple (ps.map zgr))),some (.l 1),some (.d (.int great)),some (.d (.str pt.1)),some (.d (.int pt.2.1)),some (.d (.int pt.2.2)),some (.l (T.length + 1 + 1)),u5,u6,u7,u8,u9,u10]) (fun N' hN'=>?_) ?_
  ·walk_at "d"
   refine zx hp (by decide) (by decide +kernel) fun r p1 r0 r1 hp1=>?_
   walk_at "d"
   refine zaN (fun j δ S=>∃ (p:List PyData) (some_:List Off) (u5 u6 u7 u8 u9 u10:Option XV),zae p/\some_.length <= j + 1/\1 <= some_.length/\((∀ o ∈ some_,pt.2.1 <= o.1/\o.1 <= o.2.1/\o.2.1 <= pt.2.2)/\Nst some_)/\S = p :: os.map zeW :: (T ++ [some_.map zer])/\δ = [some (.l 0),some (.d (.tuple (ps.map zgr))),some (.l 1),some (.d (.int great)),some (.d (.str pt.1)),some (.d (.int pt.2.1)),some (.d (.int pt.2.2)),some (.l (T.length + 1 + 1)),u5,u6,u7,u8,u9,u10]) ⟨p1,[(pt.2.1,pt.2.2,0)],_,_,_,_,_,_,hp1,by simp,by simp,⟨fun o m=>by rw [List.mem_singleton.mp m]; exact ⟨Int.le_refl _,op,Int.le_refl _⟩,zp2⟩,rfl,rfl⟩ ?_ ?_
   ·rintro j d _ _ N2 hj ⟨p,some_,u5,u6,u7,u8,u9,u10,hp,hl2,hl1,hso,rfl,rfl⟩ hN2
    obtain ⟨hj',rfl⟩:=zcV hj
    obtain ⟨front,o,rfl⟩:=zmz hl1
    have oo:=hso.1 o (by simp)
    walk_at "d"
    refine seq1 ?_
    walk_at "d"
    have gl:(T ++ [(front ++ [o]).map zer])[T.length]? = some (front.map zer ++ [zer o]):=by simp
    have al:=zjV (front.map zer) (zer o)
    refine ⟨_,gl,_,al,?_⟩
    rw [zfu]
    walk_at "d"
    have low:=fun (p:List PyData) (hp:zae p) (u5 u6 u7 u8 u9 u10:Option XV)=>hN2 [some (.l 0),some (.d (.tuple (ps.map zgr))),some (.l 1),some (.d (.int great)),some (.d (.str pt.1)),some (.d (.int pt.2.1)),some (.d (.int pt.2.2)),some (.l (T.length + 1 + 1)),u5,u6,u7,u8,u9,u10] (p :: os.map zeW :: (T ++ [(front ++ [o]).map zer])) ⟨p,front ++ [o],u5,u6,u7,u8,u9,u10,hp,by omega,hl1,hso,rfl,rfl⟩
    split
    ·rename_i hlt
     have add:=fun (p:List PyData) (hp:zae p) (u5 u6 u7 u8 u9 u10:Option XV) (n:Off) (hn:pt.2.1 <= n.1/\n.1 <= n.2.1/\n.2.1 <= pt.2.2) (hn2:o.1 <= n.1/\n.2.1 <= o.2.1)=>hN2 [some (.l 0),some (.d (.tuple (ps.map zgr))),some (.l 1),some (.d (.int great)),some (.d (.str pt.1)),some (.d (.int pt.2.1)),some (.d (.int pt.2.2)),some (.l (T.length + 1 + 1)),u5,u6,u7,u8,u9,u10] (p :: os.map zeW :: (T ++ [front.map zer ++ [zer o] ++ [zer n]])) ⟨p,front ++ [o] ++ [n],u5,u6,u7,u8,u9,u10,hp,by simp at hl2 ⊢; omega,by simp,⟨fun x m=>by
      rcases List.mem_append.mp m with m | m
      ·exact hso.1 x m
      ·rw [List.mem_singleton.mp m]; exact hn,hso.2.snoc hn2⟩,by simp,rfl⟩
     (refine seq1 ?_; walk_at "d")
     refine zx hp (by split <;> omega) (zb0 (by split <;> omega) (by split <;> omega)) fun r2 p2 r20 r21 hp2=>?_
     walk_at "d"
     (refine seq1 ?_; walk_at "d")
     refine zx hp2 (by decide) (by decide +kernel) fun r3 p3 r30 r31 hp3=>?_
     walk_at "d"
     have rb:r2 <= o.2.1 - o.1:=by split at r21 <;> omega
     have eb:o.1 + r2 <= (if o.2.1 - r3 > o.1 + r2 then o.2.1 - r3 else o.1 + r2)/\(if o.2.1 - r3 > o.1 + r2 then o.2.1 - r3 else o.1 + r2) <= o.2.1:=by split <;> omega
     generalize (if o.2.1 - r3 > o.1 + r2 then o.2.1 - r3 else o.1 + r2) = e at eb ⊢
     refine cut (fun δ S=>∃ b:Int,o.1 <= b/\b <= e/\S = p3 :: os.map zeW :: (T ++ [(front ++ [o]).map zer])/\δ = [some (.l 0),some (.d (.tuple (ps.map zgr))),some (.l 1),some (.d (.int great)),some (.d (.str pt.1)),some (.d (.int pt.2.1)),some (.d (.int pt.2.2)),some (.l (T.length + 1 + 1)),some (.d (.int (0 + (j:Int)))),some (.d (.int o.1)),some (.d (.int o.2.1)),some (.d (.int o.2.2)),some (.d (.int b)),some (.d (.int e))]) (fun N3 hN3=>?_) ?_
     ·walk_at "d"
      have no:=hN3 _ _ ⟨o.1 + r2,by omega,by omega,rfl,rfl⟩
      split
      ·split
       ·exact hN3 _ _ ⟨o.1 + 1,by omega,by omega,rfl,rfl⟩
       ·exact no
      ·exact no
     ·rintro _ _ ⟨b,b1,b2,rfl,rfl⟩
      walk_at "d"
      refine ⟨by simp,?_⟩
      refine zx hp3 g0 gb fun r4 p4 r40 r41 hp4=>?_
      walk_at "d"
      refine ⟨_,gl,by simp at hl2 ⊢; omega,?_⟩
      have es:((T ++ [(front ++ [o]).map zer]).set T.length (front.map zer ++ [zer o] ++ [zer (b,e,o.2.2 + 1 + r4)])) = T ++ [front.map zer ++ [zer o] ++ [zer (b,e,o.2.2 + 1 + r4)]]:=zff rfl
      rw [zfu (b,e,_)] at es
      rw [es]
      exact add _ hp4 _ _ _ _ _ _ (b,e,o.2.2 + 1 + r4) ⟨by simp only; omega,by simp only; omega,by simp only; omega⟩ ⟨by simp only; omega,by simp only; omega⟩
    ·exact low _ hp _ _ _ _ _ _
   ·rintro _ _ ⟨p,some_,u5,u6,u7,u8,u9,u10,hp,hl2,hl1,hso,rfl,rfl⟩
    rw [zaj] at hl2
    exact hN' _ _ ⟨p,some_,_,_,_,_,_,_,hp,⟨⟨hl1,by omega,hso.1⟩,hso.2⟩,rfl,rfl⟩
  ·rintro _ _ ⟨p,some_,u5,u6,u7,u8,u9,u10,hp,hso,rfl,rfl⟩
   walk_at "d"
   have gl:(T ++ [some_.map zer])[T.length]? = some (some_.map zer):=by simp
   refine ⟨by omega,_,gl,by omega,?_⟩
   refine hN _ _ ⟨p,os ++ [some_],T ++ [some_.map zer],_,_,_,_,_,_,_,_,_,_,hp,by simp [hl],fun j p' l hj1 hj2=>?_,by simp [zeW],rfl⟩
   by_cases e:j < os.length
   ·rw [List.getElem?_append_left e] at hj2
    exact ha j p' l hj1 hj2
   ·rw [List.getElem?_append_right (by omega)] at hj2
    have:j = i:=by
     have:=(List.getElem?_eq_some_iff.mp hj2).1
     simp at this
     omega
    subst this
    rw [hpt] at hj1
    cases hj1
    have e0:j - os.length = 0:=by omega
    rw [e0] at hj2
    cases hj2
    exact hso
 ·rintro _ _ ⟨p,os,T,u1,u2,u3,u4,u5,u6,u7,u8,u9,u10,hp,hl,ha,rfl,rfl⟩
  rw [List.length_map] at hl
  walk_at "d"
  exact q os p ⟨hl,ha⟩ hp
theorem zf0 {b:Nat}:∀ {sz:List Nat},(∀ s ∈ sz,s <= b)->zbj sz <= b ^ sz.length
 | [],_=>Nat.le_refl _
 | s :: sz,h=>by
  rw [List.length_cons,Nat.pow_succ,Nat.mul_comm (b ^ sz.length)]
  exact Nat.mul_le_mul (h s List.mem_cons_self) (zf0 fun x m=>h x (List.mem_cons_of_mem _ m))
theorem few4 {sz:List Nat} (hl:sz.length <= 4) (h:∀ s ∈ sz,s <= 4):zbj sz <= 256:=Nat.le_trans (zf0 h) (Nat.le_trans (Nat.pow_le_pow_right (by decide) hl) (by decide))
theorem few2 {sz:List Nat} (hl:sz.length <= 8) (h:∀ s ∈ sz,s <= 2):zbj sz <= 256:=Nat.le_trans (zf0 h) (Nat.le_trans (Nat.pow_le_pow_right (by decide) hl) (by decide))
theorem OffN.few {ps:List Part} {os:List (List Off)} (h:OffN ps os) (h4:ps.length <= 4):zbj (szO os) <= 256:=by
 refine few4 (by simp [szO]; have:=h.len; omega) fun s m=>?_
 obtain ⟨l,ml,rfl⟩:=List.mem_map.mp m
 obtain ⟨i,hi⟩:=List.mem_iff_getElem?.mp ml
 exact (h.ok i _ l (zb2 (by have:=(List.getElem?_eq_some_iff.mp hi).1; have:=h.len; omega)) hi).l4
def Wdr (os os':List (List Off)):Prop:=os'.length = os.length/\∀ (i:Nat) l,os[i]? = some l->∃ m,os'[i]? = some (l ++ m)
theorem znZ (os:List (List Off)):Wdr os os:=⟨rfl,fun i l e=>⟨[],by rw [List.append_nil]; exact e⟩⟩
theorem zmN {os os':List (List Off)} {ks:List Int} (w:Wdr os os') (hk:ks ∈ fil (szO os)):ks ∈ fil (szO os')/\(∀ i,i < os.length->offer os' (kN ks) i = offer os (kN ks) i):=by
 obtain ⟨h1,h2⟩:=zc7.mp hk
 have hl:(szO os).length = os.length:=by simp [szO]
 have hl':(szO os').length = os'.length:=by simp [szO]
 have get:∀ i,i < os.length->∃ m,os'.getD i [] = os.getD i [] ++ m:=fun i hi=>by
  obtain ⟨m,e⟩:=w.2 i _ (zgM hi)
  exact ⟨m,by rw [List.getD_eq_getElem?_getD,e]; rfl⟩
 have sz:∀ (os:List (List Off)) i,i < os.length->(szO os).getD i 0 = (os.getD i []).length:=fun os i hi=>by
  unfold szO
  simp [hi]
 refine ⟨zc7.mpr ⟨by rw [h1,hl,hl',w.1],fun i hi=>?_⟩,fun i hi=>?_⟩
 ·have hi2:i < os.length:=by rw [hl',w.1] at hi; exact hi
  have:=h2 i (by omega)
  rw [sz os i hi2] at this
  rw [sz os' i (by rw [w.1]; exact hi2)]
  obtain ⟨m,e⟩:=get i hi2
  rw [e,List.length_append]
  omega
 ·obtain ⟨m,e⟩:=get i hi
  have:=h2 i (by omega)
  rw [sz os i hi] at this
  unfold offer
  rw [e,zql]
  simp only [List.getD_eq_getElem?_getD]
  rw [List.getElem?_append_left (by simp only [List.getD_eq_getElem?_getD] at this; omega)]
theorem znL {ps:List Part} {os os':List (List Off)} {gs:List Gap} {ks:List Int} (hl:os.length = ps.length) (w:Wdr os os') (hk:ks ∈ zaW ps os gs):ks ∈ zaW ps os' gs/\pcO os' (kN ks) = pcO os (kN ks):=by
 obtain ⟨m1,s1⟩:=List.mem_filter.mp hk
 obtain ⟨w1,w2⟩:=zmN w m1
 have kl:(kN ks).length = os.length:=(zdc m1).1.len
 have ec:chosen ps os' (kN ks) = chosen ps os (kN ks):=by
  unfold chosen
  refine List.map_congr_left fun i mi=>?_
  rw [w2 i (by rw [hl]; exact List.mem_range.mp mi)]
 refine ⟨List.mem_filter.mpr ⟨w1,by rw [ec]; exact s1⟩,?_⟩
 unfold pcO
 congr 1
 refine List.ext_getElem (by simp [w.1]) fun i h1 h2=>?_
 have hi:i < os.length:=by simp at h2; omega
 have:=w2 i hi
 have hi':i < os'.length:=by rw [w.1]; exact hi
 have hik:i < (kN ks).length:=by omega
 unfold offer at this
 simp only [List.getD_eq_getElem?_getD,List.getElem?_eq_getElem hi,List.getElem?_eq_getElem hi',List.getElem?_eq_getElem hik,Option.getD_some] at this
 simp only [List.getElem_map,List.getElem_zip,List.getD_eq_getElem?_getD]
 rw [this]
theorem zfC {ps:List Part} {os more:List (List Off)} {gs gs':List Gap} {best:Option (List Int)} {job:PyData} (h:OC ps os) (hm:OC ps more) (h6:gs'.length <= 6) (hg:∀ g ∈ gs',Tms ps.length g.ts)
  (hb:∀ b,best = some b->b ∈ zaW ps os gs/\b ∈ zaW ps more gs'/\pcO more (kN b) = pcO os (kN b)) (q:R (.d (.bool true)) []) :
  zaD [.d job,.d (zaz os),.d (zho ps gs'),.d (zaz more),.d (bD best)] [] R:=by
 unfold zaD
 walk_at "d"
 (refine seq1 ?_; walk_at "d")
 refine zgm hm h6 hg (fun nil=>?_) fun b' mb' hmin=>?_
 ·cases best with
  | none =>
   walk_at "d"
   refine seq1 ?_
   simp only [bD]
   walk_at "d"
   exact q
  | some b =>
   have:=(hb b rfl).2.1
   rw [nil] at this
   cases this
 ·cases best with
  | none =>
   walk_at "d"
   refine seq1 ?_
   simp only [bD]
   walk_at "d"
   exact q
  | some b =>
   obtain ⟨m1,m2,e⟩:=hb b rfl
   have:=hmin b m2
   obtain ⟨hc,es⟩:=zdc (List.mem_filter.mp m1).1
   obtain ⟨hc',es'⟩:=zdc (List.mem_filter.mp mb').1
   walk_at "d"
   refine seq1 ?_
   simp only [bD,zbe]
   walk_at "d"
   show zaA [.d (zaz more),.d (zbe b')] [] _
   rw [es']
   refine zcM hm.toOffs hc' hm.h8 ?_
   walk_at "d"
   show zaA [.d (zaz os),.d (zbe b)] [] _
   rw [es]
   refine zcM h.toOffs hc h.h8 ?_
   walk_at "d"
   rw [e] at this
   unfold pcO at this
   rw [decide_eq_true this]
   exact q
theorem zhS {p:List PyData} {ps:List Part} {os:List (List Off)} (hp:zae p) (h:OffN ps os) (n1:1 <= ps.length) (h4:ps.length <= 4) (q:∀ os' p',OffN ps os'->Wdr os os'->zae p'->R (.d (zaz os')) [p']):zdL [.d (zaz os),.l 0] [p] R:=by
 have hl:=h.len
 unfold zdL zaz
 walk_at "d"
 (refine seq1 ?_; walk_at "d")
 refine zx hp (by omega) (zb0 (by omega) (by omega)) fun r p1 r0 r1 hp1=>?_
 obtain ⟨k,rfl⟩:=Int.eq_ofNat_of_zero_le r0
 have kl:k < os.length:=by omega
 have e1:=zc1 (f:=zeW) (zgM kl)
 have ok:=h.ok k _ _ (zb2 (by omega)) (zgM kl)
 obtain ⟨front,o,eo⟩:=zmz ok.l1
 walk_at "d"
 refine seq1 ?_
 walk_at "d"
 refine ⟨_,e1,?_⟩
 rw [zcl,eo]
 walk_at "d"
 have al:=zjV (front.map zer) (zer o)
 rw [<- List.map_singleton (f:=zer),<- List.map_append] at al
 refine ⟨_,al,?_⟩
 rw [zfu]
 walk_at "d"
 have same:=q os p1 h (znZ os) hp1
 unfold zaz at same
 refine cut (fun δ S=>S = [p1]/\(os.getD k []).length < 4/\o.1 < o.2.1/\δ = [some (.d (.tuple (os.map zeW))),some (.l 0),some (.d (.int k)),some (.d (.int o.1)),some (.d (.int o.2.1)),some (.d (.int o.2.2))]) (fun N hN=>?_) ?_
 ·walk_at "d"
  refine ⟨_,e1,?_⟩
  rw [zcl]
  walk_at "d"
  have oo:=ok.ok o (by rw [eo]; simp)
  have o4:=ok.l4
  split
  ·exact same
  ·split
   ·exact same
   ·exact hN _ _ ⟨rfl,by omega,by omega,rfl⟩
 ·rintro _ _ ⟨rfl,l4,lt,rfl⟩
  walk_at "d"
  refine ⟨by rw [HT.sIx_nat]; omega,_,e1,?_⟩
  rw [zcl]
  walk_at "d"
  have c1:=zhh (ds:=os.map zeW) (k:=k)
  have c2:=zfN (f:=zeW) kl
  rw [c1,c2]
  have l1:((os.map zeW).take k).length <= 8:=by simp; omega
  have l2:((os.drop (k + 1)).map zeW).length <= 8:=by simp; omega
  have l3:(os.drop (k + 1)).length <= 8:=by simp; omega
  refine ⟨by omega,?_⟩
  walk_at "d"
  refine ⟨by omega,?_,by omega,?_⟩
  ·rw [show ((k:Int) + 1) = ((k + 1:Nat):Int) by omega,HT.sIx_nat]
   omega
  have oo:=ok.ok o (by rw [eo]; simp)
  have nb:plo ps k <= o.1:=oo.1
  have:=q (os.set k (os.getD k [] ++ [(o.1 + 1,o.2.1,o.2.2 + 1)])) p1 ⟨by rw [List.length_set]; exact hl,fun i p' l e3 e4=>?_⟩ ⟨by rw [List.length_set],fun i l e3=>?_⟩ hp1
  ·have ed:zaz (os.set k (os.getD k [] ++ [(o.1 + 1,o.2.1,o.2.2 + 1)])) = .tuple ((os.map zeW).take k ++ [zeW (os.getD k [] ++ [(o.1 + 1,o.2.1,o.2.2 + 1)])] ++ (os.drop (k + 1)).map zeW):=by
    unfold zaz
    rw [List.set_eq_take_append_cons_drop,if_pos kl]
    simp
   rw [ed,zcl,List.map_append,List.map_singleton,zfu] at this
   exact this
  ·by_cases hi:i = k
   ·subst hi
    rw [List.getElem?_set_self kl] at e4
    cases e4
    rw [zb2 (by omega)] at e3
    cases e3
    refine ⟨⟨by simp,by simp only [List.length_append,List.length_singleton]; omega,fun x m=>?_⟩,?_⟩
    ·rcases List.mem_append.mp m with m | m
     ·exact ok.ok x m
     ·rw [List.mem_singleton.mp m]
      have:=oo.2.2
      exact ⟨by simp only; omega,by simp only; omega,this⟩
    ·have nn:=ok.nst
     rw [eo] at nn ⊢
     exact nn.snoc ⟨by simp only; omega,Int.le_refl _⟩
   ·rw [List.getElem?_set_ne (Ne.symm hi)] at e4
    exact h.ok i p' l e3 e4
  ·by_cases hi:i = k
   ·subst hi
    rw [zgM kl] at e3
    cases e3
    exact ⟨_,List.getElem?_set_self kl⟩
   ·exact ⟨[],by rw [List.getElem?_set_ne (Ne.symm hi),List.append_nil]; exact e3⟩
theorem znY {ps:List Part} (h:Drw ps):Drw (ps.take 4):=⟨by rw [List.length_take]; have:=h.l1; omega,by rw [List.length_take]; have:=h.l8; omega,fun p m=>h.all p (List.mem_of_mem_take m)⟩
theorem ziV (a:Addr) (n:Int):zpJ (zti a 9) ((some (.o (.ref a)) :: List.replicate 9 none).set 1 (some (.d (.int n)))) []:=by
 unfold zpJ
 walk_at "d"
 (refine seq1 ?_; walk_at "d")
 refine zhJ fun p hp=>?_
 walk_at "d"
 refine cut (fun δ S=>∃ (p:List PyData) (ps:List Part),zae p/\Drw ps/\S = [p]/\δ = [some (.o (.ref a)),some (.d (.int n)),some (.l 0),some (.d (zcW ps)),none,none,none,none,none,none]) (fun N hN=>?_) ?_
 ·walk_at "d"
  refine zx hp (by decide) (by decide +kernel) fun r p1 r0 r1 hp1=>?_
  walk_at "d"
  split
  ·refine zhH hp1 (by decide) (by decide) fun ps p2 hd _ hp2=>?_
   walk_at "d"
   exact hN _ _ ⟨p2,ps,hp2,hd,rfl,rfl⟩
  ·refine zcv hp1 (by decide) (by decide) fun ps p2 hd hp2=>?_
   walk_at "d"
   exact hN _ _ ⟨p2,ps,hp2,hd,rfl,rfl⟩
 rintro _ _ ⟨p1,ps,hp1,hd,rfl,rfl⟩
 refine seq1 ?_
 unfold zcW
 walk_at "d"
 rw [show (some 4:Option Int) = some ((4:Nat):Int) from rfl,zhh,<- List.map_take]
 have hd4:=znY hd
 refine cut (fun δ S=>∃ (p:List PyData) (ps:List Part),zae p/\Drw ps/\S = [p]/\δ = [some (.o (.ref a)),some (.d (.int n)),some (.l 0),some (.d (zcW ps)),none,none,none,none,none,none]) (fun N hN=>?_) ?_
 ·walk_at "d"
  refine zx hp1 (by decide) (by decide +kernel) fun r p2 r0 r1 hp2=>?_
  walk_at "d"
  split
  ·refine zcv hp2 (by decide) (by decide) fun ps p3 hd hp3=>?_
   walk_at "d"
   exact hN _ _ ⟨p3,ps,hp3,hd,rfl,rfl⟩
  ·exact hN _ _ ⟨p2,ps.take 4,hp2,hd4,rfl,rfl⟩
 rintro _ _ ⟨p2,ps,hp2,hd,rfl,rfl⟩
 have l8:=hd.l8
 have l1:=hd.l1
 (refine seq1 ?_; walk_at "d")
 refine zkE hp2 hd fun os p3 hoN hp3=>?_
 walk_at "d"
 refine cut (fun δ S=>∃ (os:List (List Off)),OffN ps os/\zbj (szO os) <= 256/\S = [p3]/\δ = [some (.o (.ref a)),some (.d (.int n)),some (.l 0),some (.d (zcW ps)),some (.d (zaz os)),none,none,none,none,none]) (fun N hN=>?_) ?_
 ·unfold zcW
  walk_at "d"
  have ol:=hoN.len
  by_cases h4:4 < ps.length
  ·rw [if_pos (by omega)]
   unfold zaz
   walk_at "d"
   refine cmp1 (S0:=[p3]) (fun l:List Off=>zeW (l.take 2)) rfl os (by omega) ?_ ?_
   ·intro l ml u acc R' hk
    rw [zcl]
    walk_at "d"
    rw [show (some 2:Option Int) = some ((2:Nat):Int) from rfl,zhh,<- List.map_take]
    exact hk _
   refine ⟨[p3],_,rfl,rfl,hN _ _ ⟨os.map (·.take 2),⟨by simpa using ol,fun i p' l e1 e2=>?_⟩,few2 (by simp [szO]; omega) fun s m=>?_,rfl,?_⟩⟩
   ·rw [List.getElem?_map] at e2
    obtain ⟨l',el,rfl⟩:=Option.map_eq_some_iff.mp e2
    have ok:=hoN.ok i p' l' e1 el
    refine ⟨⟨by rw [List.length_take]; have:=ok.l1; omega,by rw [List.length_take]; omega,fun o m=>ok.ok o (List.mem_of_mem_take m)⟩,ok.nst.take 2⟩
   ·unfold szO at m
    rw [List.map_map] at m
    obtain ⟨l',_,rfl⟩:=List.mem_map.mp m
    simp only [Function.comp,List.length_take]
    omega
   ·unfold zcW zaz
    rw [List.map_map]
    rfl
  ·rw [if_neg (by omega)]
   exact hN _ _ ⟨os,hoN,hoN.few (by omega),rfl,rfl⟩
 rintro _ _ ⟨os,hoN,hfew,rfl,rfl⟩
 have ho:=hoN.oc l8 hfew
 have ol:=hoN.len
 (refine seq1 ?_; walk_at "d")
 refine zgF hp3 hd (by decide) (by decide) fun gs p4 hgs gm hp4=>?_
 walk_at "d"
 refine cut (fun δ S=>∃ (p:List PyData) (gs:List Gap) (u6:Option XV),zae p/\1 <= gs.length/\gs.length <= 3/\(∀ g ∈ gs,Tms ps.length g.ts)/\S = [p]/\δ = [some (.o (.ref a)),some (.d (.int n)),some (.l 0),some (.d (zcW ps)),some (.d (zaz os)),some (.d (zfk gs)),u6,none,none,none]) (fun N hN=>?_) ?_
 ·walk_at "d"
  have g1:=hgs.l1
  have gt:=fun g m=>(hgs.all g m).ts
  refine zx hp4 (by decide) (by decide +kernel) fun r p5 r0 r1 hp5=>?_
  walk_at "d"
  split
  ·refine seq1 ?_
   unfold zaz
   walk_at "d"
   refine zll (ps:=ps) (os:=os) [] rfl ho.toOffs l8 hp5 ?_ ?_
   ·intro l u p acc R' l1 l4 hp hk
    rw [zcl]
    walk_at "d"
    refine zx hp (by omega) (zb0 (by omega) (by omega)) fun r p2 r0 r1 hp2=>?_
    obtain ⟨k,rfl⟩:=Int.eq_ofNat_of_zero_le r0
    walk_at "d"
    exact hk _ k p2 hp2 (by omega)
   ·intro ks p6 hp6 hc
    walk_at "d"
    show zaK [.d (zcW ps),.d (zaz os),.d (znA ks)] [] _
    refine zdh ho.toOffs hc l8 ?_
    have cl:=zao (ps:=ps) (os:=os) (ks:=ks)
    unfold zfk
    walk_at "d"
    refine cmp1 (S0:=[p6]) (fun g:Gap=>zjw ⟨g.ts,zag (chosen ps os ks) g.ts,zcb (chosen ps os ks) g.ts⟩) rfl gs (by omega) ?_ ?_
    ·intro g mg u acc R' hk
     rw [zec]
     walk_at "d"
     refine zex rfl (by rw [cl]; exact (gt g mg).tm3 l8) ?_
     unfold spD
     walk_at "d"
     exact hk _
    ·refine ⟨[p6],_,rfl,rfl,hN _ _ ⟨p6,gs.map (fun g=>⟨g.ts,zag (chosen ps os ks) g.ts,zcb (chosen ps os ks) g.ts⟩),some (.d (zcW (chosen ps os ks))),hp6,by simpa using g1,by rw [List.length_map]; omega,fun g m=>?_,rfl,?_⟩⟩
     ·obtain ⟨g',m',rfl⟩:=List.mem_map.mp m
      exact gt g' m'
     ·unfold zfk zaz
      rw [List.map_map]
      rfl
  ·exact hN _ _ ⟨p5,gs,_,hp5,g1,by omega,gt,rfl,rfl⟩
 rintro _ _ ⟨p5,gs,u6,hp5,g1,g3,hg,rfl,rfl⟩
 (refine seq1 ?_; walk_at "d")
 have ej:PyData.tuple [zcW ps,zfk gs] = zho ps gs:=rfl
 rw [ej]
 (refine seq1 ?_; walk_at "d")
 refine zgC ho ?_
 walk_at "d"
 refine cmf1 (S0:=[p5]) (h:=zbe) (f:=zbe) (p:=fun ks=>zfF (chosen ps os (kN ks)) gs) rfl (fil (szO os)) (by rw [zf4]; omega) ?_ ?_
 ·intro ks mk u acc R' hk'
  obtain ⟨hc,e⟩:=zdc mk
  walk_at "d"
  rw [e]
  refine zlM ho.toOffs hc l8 (by omega) hg ?_
  walk_at "d"
  exact hk' _ fun _ T hT=>⟨_,rfl,by rw [<- e]; exact hT⟩
 refine ⟨[p5],_,rfl,rfl,?_⟩
 have eg:(fil (szO os)).filter (fun ks=>zfF (chosen ps os (kN ks)) gs) = zaW ps os gs:=rfl
 rw [eg]
 refine cut (fun δ S=>∃ (best:Option (List Int)),((best = none/\zaW ps os gs = [])\/∃ b,best = some b/\b ∈ zaW ps os gs/\∀ a ∈ zaW ps os gs,pcO os (kN b) <= pcO os (kN a))/\S = [p5]/\δ = [some (.o (.ref a)),some (.d (.int n)),some (.l 0),some (.d (zcW ps)),some (.d (zaz os)),some (.d (zfk gs)),u6,some (.d (zho ps gs)),some (.d (.list ((zaW ps os gs).map zbe))),some (.d (bD best))]) (fun N hN=>?_) ?_
 ·walk_at "d"
  refine zgm ho (by omega) hg (fun nil=>?_) fun b mb hmin=>?_
  ·walk_at "d"
   exact hN _ _ ⟨none,.inl ⟨rfl,nil⟩,rfl,rfl⟩
  ·walk_at "d"
   exact hN _ _ ⟨some b,.inr ⟨b,rfl,mb,hmin⟩,rfl,rfl⟩
 rintro _ _ ⟨best,hb,rfl,rfl⟩
 refine seq1 ?_
 walk_at "d"
 refine zhF ho (by omega) hg hb ?_
 walk_at "d"
 have mem:∀ b,best = some b->b ∈ zaW ps os gs:=fun b e=>by
  rcases hb with ⟨z,_⟩ | ⟨b',z,m,_⟩
  ·rw [z] at e; cases e
  ·rw [z] at e; cases e; exact m
 refine cut (fun δ S=>S = [p5]/\δ = [some (.o (.ref a)),some (.d (.int n)),some (.l 0),some (.d (zcW ps)),some (.d (zaz os)),some (.d (zfk gs)),u6,some (.d (zho ps gs)),some (.d (.list ((zaW ps os gs).map zbe))),some (.d (bD best))]) (fun N hN=>?_) ?_
 ·unfold zfk
  walk_at "d"
  have skip:=hN _ _ ⟨rfl,rfl⟩
  unfold zfk at skip
  by_cases h1:1 < gs.length
  ·rw [if_pos (by omega)]
   refine ⟨by rw [show (some 1:Option Int) = some ((1:Nat):Int) from rfl,HT.sIx_nat]; omega,?_⟩
   have ecut:zef (gs.map zjw) (some 1) none = (gs.drop 1).map zjw:=by
    have:=zfN (f:=zjw) (ts:=gs) (i:=0) (by omega)
    simpa using this
   rw [ecut]
   show zaD [.d (zho ps gs),.d (zaz os),.d (zho ps (gs.drop 1)),.d (zaz os),.d (bD best)] [] _
   refine zfC (gs:=gs) ho ho (by rw [List.length_drop]; omega) (fun g m=>hg g (List.mem_of_mem_drop m)) (fun b e=>⟨mem b e,?_,rfl⟩) ?_
   ·obtain ⟨m1,m2⟩:=List.mem_filter.mp (mem b e)
    refine List.mem_filter.mpr ⟨m1,?_⟩
    unfold zfF at m2 ⊢
    rw [List.all_eq_true] at m2 ⊢
    exact fun g m=>m2 g (List.mem_of_mem_drop m)
   ·walk_at "d"
    exact skip
  ·rw [if_neg (by omega)]
   exact skip
 rintro _ _ ⟨rfl,rfl⟩
 unfold zcW
 walk_at "d"
 by_cases h5:ps.length < 5
 ·rw [if_pos (by omega)]
  refine zhS hp5 hoN l1 (by omega) fun os' p6 hN' hw hp6=>?_
  walk_at "d"
  show zaD [.d (zho ps gs),.d (zaz os),.d (zho ps gs),.d (zaz os'),.d (bD best)] [] _
  refine zfC (gs:=gs) ho (hN'.oc l8 (hN'.few (by omega))) (by omega) hg (fun b e=>⟨mem b e,znL ol hw (mem b e)⟩) ?_
  walk_at "d"
 ·rw [if_neg (by omega)]
  trivial
end
end My
namespace My
open PySem L2
def top (i : Nat) : Stmt := PySem.Challenge.pw_gaugewright_k41_whole_narrower_is_safer.main.body.getD i (.Pass ⟨0, 0, 0, 0⟩)
abbrev s_law_cell_at:Stmt:=top 38
theorem zgN:FnScope ["script","k"] ["script","k"] (zn s_law_cell_at):=fsc (by decide +kernel)
abbrev s_law_pen_of:Stmt:=top 40
theorem ze4:FnScope ["cell","left"] ["cell"] (zn s_law_pen_of):=fsc (by decide +kernel)
abbrev s_law_next:Stmt:=top 39
theorem zgw:FnScope ["seed"] ["seed"] (zn s_law_next):=fsc (by decide +kernel)
abbrev s_law_draw:Stmt:=top 41
theorem zgj:FnScope ["pen","many","found"] ["pen","many"] (zn s_law_draw):=fsc (by decide +kernel)
abbrev s_law_offers_of:Stmt:=top 50
theorem zI:FnScope ["pen","drawing","offers","great","name","low","high","some","k","first","last","price","begin","end"] ["pen","drawing"] (zn s_law_offers_of):=fsc (by decide +kernel)
abbrev s_law_ends_of:Stmt:=top 47
theorem zaw:FnScope ["drawing","terms","least","most","part","times","ends"] ["drawing","terms"] (zn s_law_ends_of):=fsc (by decide +kernel)
abbrev s_law_gap_of:Stmt:=top 48
theorem zai:FnScope ["pen","drawing","terms","part","times","least","most","wide","low","high"] ["pen","drawing"] (zn s_law_gap_of):=fsc (by decide +kernel)
abbrev s_law_gaps_of:Stmt:=top 49
theorem zeu:FnScope ["pen","drawing","most","gaps"] ["pen","drawing","most"] (zn s_law_gaps_of):=fsc (by decide +kernel)
abbrev s_choices_behind:Stmt:=top 35
theorem zbm:FnScope ["sizes","beginning","many","size"] ["sizes","beginning"] (zn s_choices_behind):=fsc (by decide +kernel)
abbrev s_refuse_too_many:Stmt:=top 34
theorem zc8:FnScope ["sizes","many"] ["sizes"] (zn s_refuse_too_many):=fsc (by decide +kernel)
abbrev s_sizes_of:Stmt:=top 26
theorem zje:FnScope ["offers"] ["offers"] (zn s_sizes_of):=fsc (by decide +kernel)
abbrev s_each_longer:Stmt:=top 11
theorem zdf:FnScope ["beginnings","numbers","longer","beginning"] ["beginnings","numbers"] (zn s_each_longer):=fsc (by decide +kernel)
abbrev s_all_choices:Stmt:=top 36
theorem zb6:FnScope ["sizes","choices","size"] ["sizes"] (zn s_all_choices):=fsc (by decide +kernel)
abbrev s_first_set:Stmt:=top 10
theorem ziP:FnScope ["drawing"] ["drawing"] (zn s_first_set):=fsc (by decide +kernel)
abbrev s_plus:Stmt:=top 6
theorem zp4:FnScope ["one","other"] ["one","other"] (zn s_plus):=fsc (by decide +kernel)
abbrev s_multiplied:Stmt:=top 7
theorem zfd:FnScope ["one","by","ends"] ["one","by"] (zn s_multiplied):=fsc (by decide +kernel)
abbrev s_span_of:Stmt:=top 9
theorem zkF:FnScope ["part"] ["part"] (zn s_span_of):=fsc (by decide +kernel)
abbrev s_reach_of_terms:Stmt:=top 16
theorem zaU:FnScope ["drawing","terms","ends","part","times"] ["drawing","terms"] (zn s_reach_of_terms):=fsc (by decide +kernel)
abbrev s_quotient_up:Stmt:=top 17
theorem zgE:FnScope ["number","by"] ["number","by"] (zn s_quotient_up):=fsc (by decide +kernel)
abbrev s_first_no_greater:Stmt:=top 22
theorem zad:FnScope ["drawing","terms","most","one","left","place","term","further"] ["drawing","terms","most"] (zn s_first_no_greater):=fsc (by decide +kernel)
abbrev s_opposite:Stmt:=top 21
theorem zji:FnScope ["terms"] ["terms"] (zn s_opposite):=fsc (by decide +kernel)
abbrev s_first_breakers:Stmt:=top 20
theorem zaP:FnScope ["job","found","terms","low","high"] ["job"] (zn s_first_breakers):=fsc (by decide +kernel)
abbrev s_worth_of:Stmt:=top 13
theorem zi4:FnScope ["gap","one"] ["gap","one"] (zn s_worth_of):=fsc (by decide +kernel)
abbrev s_keeps:Stmt:=top 14
theorem zny:FnScope ["gap","one"] ["gap","one"] (zn s_keeps):=fsc (by decide +kernel)
abbrev s_kept_gaps:Stmt:=top 23
theorem zh3:FnScope ["gaps","one"] ["gaps","one"] (zn s_kept_gaps):=fsc (by decide +kernel)
abbrev s_counter:Stmt:=top 19
theorem zfn:FnScope ["job","found","one"] ["job"] (zn s_counter):=fsc (by decide +kernel)
abbrev s_narrowed_by:Stmt:=top 29
theorem zeE:FnScope ["drawing","offers","choice","chosen"] ["drawing","offers","choice"] (zn s_narrowed_by):=fsc (by decide +kernel)
abbrev s_safe:Stmt:=top 30
theorem zpn:FnScope ["job","offers","choice"] ["job","offers","choice"] (zn s_safe):=fsc (by decide +kernel)
abbrev s_price_of:Stmt:=top 28
theorem zjc:FnScope ["offers","choice"] ["offers","choice"] (zn s_price_of):=fsc (by decide +kernel)
abbrev s_cheapest:Stmt:=top 33
theorem zfT:FnScope ["job","offers","found"] ["job","offers"] (zn s_cheapest):=fsc (by decide +kernel)
abbrev s_law_names_of:Stmt:=top 44
theorem zab:FnScope ["pen","letters","way","first","names","word","at"] ["pen"] (zn s_law_names_of):=fsc (by decide +kernel)
abbrev s_law_number_of:Stmt:=top 42
theorem zdU:FnScope ["pen","way"] ["pen"] (zn s_law_number_of):=fsc (by decide +kernel)
abbrev s_law_few:Stmt:=top 46
theorem zbW:FnScope ["pen","most","names","wides","drawing","k","low"] ["pen","most"] (zn s_law_few):=fsc (by decide +kernel)
abbrev s_law_span:Stmt:=top 43
theorem zdC:FnScope ["pen","low","wide"] ["pen"] (zn s_law_span):=fsc (by decide +kernel)
abbrev s_law_drawing_of:Stmt:=top 45
theorem zbg:FnScope ["pen","most","names","drawing","k"] ["pen","most"] (zn s_law_drawing_of):=fsc (by decide +kernel)
abbrev s_is_whole:Stmt:=top 4
theorem zjf:FnScope ["thing"] ["thing"] (zn s_is_whole):=fsc (by decide +kernel)
abbrev s_is_beginning:Stmt:=top 27
theorem zfY:FnScope ["sizes","thing"] ["sizes","thing"] (zn s_is_beginning):=fsc (by decide +kernel)
abbrev s_is_choice:Stmt:=top 25
theorem zif:FnScope ["offers","thing"] ["offers","thing"] (zn s_is_choice):=fsc (by decide +kernel)
abbrev s_law_narrower:Stmt:=top 52
theorem zcU:FnScope ["offers","choice","found","k"] ["offers","choice"] (zn s_law_narrower):=fsc (by decide +kernel)
abbrev s_law_best_right:Stmt:=top 55
theorem zaV:FnScope ["job","offers","good","best","table","choice","last"] ["job","offers","good","best"] (zn s_law_best_right):=fsc (by decide +kernel)
abbrev s_law_choices:Stmt:=top 51
theorem za8:FnScope ["offers","found","some","longer","ahead"] ["offers"] (zn s_law_choices):=fsc (by decide +kernel)
abbrev s_law_no_dearer:Stmt:=top 54
theorem zdT:FnScope ["job","offers","other","more","best","found"] ["job","offers","other","more","best"] (zn s_law_no_dearer):=fsc (by decide +kernel)
abbrev s_law_wider:Stmt:=top 53
theorem zcj:FnScope ["offers","pen","at","low","high","price"] ["offers","pen"] (zn s_law_wider):=fsc (by decide +kernel)
abbrev s_law:Stmt:=top 56
theorem zcX:FnScope ["script","cell","pen","drawing","offers","gaps","some","job","good","best"] ["script"] (zn s_law):=fsc (by decide +kernel)
structure Txt (mg:Str->Option Value):Prop where
 n_len:mg "len" = none
 n_tuple:mg "tuple" = none
 n_max:mg "max" = none
 n_int:mg "int" = none
 n_range:mg "range" = none
 n_min:mg "min" = none
 n_list:mg "list" = none
 n_enumerate:mg "enumerate" = none
 n_sum:mg "sum" = none
 n_zip:mg "zip" = none
 n_isinstance:mg "isinstance" = none
 n_bool:mg "bool" = none
 n_all:mg "all" = none
 g_MOST_CHOICES:∃ t,mg "MOST_CHOICES" = some (.int 300 t)
structure Dds (K:W.Frag) (mg:Str->Option Value):Prop where
 d_law_cell_at:Dd K mg "_law_cell_at" s_law_cell_at ["script","k"]
 d_law_pen_of:Dd K mg "_law_pen_of" s_law_pen_of ["cell"]
 d_law_next:Dd K mg "_law_next" s_law_next ["seed"]
 d_law_draw:Dd K mg "_law_draw" s_law_draw ["pen","many"]
 d_law_offers_of:Dd K mg "_law_offers_of" s_law_offers_of ["pen","drawing"]
 d_law_ends_of:Dd K mg "_law_ends_of" s_law_ends_of ["drawing","terms"]
 d_law_gap_of:Dd K mg "_law_gap_of" s_law_gap_of ["pen","drawing"]
 d_law_gaps_of:Dd K mg "_law_gaps_of" s_law_gaps_of ["pen","drawing","most"]
 d_choices_behind:Dd K mg "choices_behind" s_choices_behind ["sizes","beginning"]
 d_refuse_too_many:Dd K mg "refuse_too_many" s_refuse_too_many ["sizes"]
 d_sizes_of:Dd K mg "sizes_of" s_sizes_of ["offers"]
 d_each_longer:Dd K mg "each_longer" s_each_longer ["beginnings","numbers"]
 d_all_choices:Dd K mg "all_choices" s_all_choices ["sizes"]
 d_first_set:Dd K mg "first_set" s_first_set ["drawing"]
 d_plus:Dd K mg "plus" s_plus ["one","other"]
 d_multiplied:Dd K mg "multiplied" s_multiplied ["one","by"]
 d_span_of:Dd K mg "span_of" s_span_of ["part"]
 d_reach_of_terms:Dd K mg "reach_of_terms" s_reach_of_terms ["drawing","terms"]
 d_quotient_up:Dd K mg "quotient_up" s_quotient_up ["number","by"]
 d_first_no_greater:Dd K mg "first_no_greater" s_first_no_greater ["drawing","terms","most"]
 d_opposite:Dd K mg "opposite" s_opposite ["terms"]
 d_first_breakers:Dd K mg "first_breakers" s_first_breakers ["job"]
 d_worth_of:Dd K mg "worth_of" s_worth_of ["gap","one"]
 d_keeps:Dd K mg "keeps" s_keeps ["gap","one"]
 d_kept_gaps:Dd K mg "kept_gaps" s_kept_gaps ["gaps","one"]
 d_counter:Dd K mg "counter" s_counter ["job"]
 d_narrowed_by:Dd K mg "narrowed_by" s_narrowed_by ["drawing","offers","choice"]
 d_safe:Dd K mg "safe" s_safe ["job","offers","choice"]
 d_price_of:Dd K mg "price_of" s_price_of ["offers","choice"]
 d_cheapest:Dd K mg "cheapest" s_cheapest ["job","offers"]
 d_law_names_of:Dd K mg "_law_names_of" s_law_names_of ["pen"]
 d_law_number_of:Dd K mg "_law_number_of" s_law_number_of ["pen"]
 d_law_few:Dd K mg "_law_few" s_law_few ["pen","most"]
 d_law_span:Dd K mg "_law_span" s_law_span ["pen"]
 d_law_drawing_of:Dd K mg "_law_drawing_of" s_law_drawing_of ["pen","most"]
 d_is_whole:Dd K mg "is_whole" s_is_whole ["thing"]
 d_is_beginning:Dd K mg "is_beginning" s_is_beginning ["sizes","thing"]
 d_is_choice:Dd K mg "is_choice" s_is_choice ["offers","thing"]
 d_law_narrower:Dd K mg "_law_narrower" s_law_narrower ["offers","choice"]
 d_law_best_right:Dd K mg "_law_best_right" s_law_best_right ["job","offers","good","best"]
 d_law_choices:Dd K mg "_law_choices" s_law_choices ["offers"]
 d_law_no_dearer:Dd K mg "_law_no_dearer" s_law_no_dearer ["job","offers","other","more","best"]
 d_law_wider:Dd K mg "_law_wider" s_law_wider ["offers","pen"]
structure Lams (K:W.Frag) (mg:Str->Option Value):Prop where
 l_cheapest:∃ c P,CodeAt K mg "cheapest" c/\((c,P),L2.lamKey (("cheapest" ++ ".<locals>.") ++ "<lambda>") ⟨90,26,0,0⟩) ∈ L2.tabsG
section
variable {P:Program} {w:World} {K:W.Frag} {mg:Str->Option Value} {base:Heap}
abbrev zfb (P:Program) (w:World) (K:W.Frag) (mg:Str->Option Value) (base:Heap):Prop:=Df P w K mg base "_law_pen_of" ["cell"] 1 (spN ["cell"] zc2)
abbrev zeU (P:Program) (w:World) (K:W.Frag) (mg:Str->Option Value) (base:Heap):Prop:=Df P w K mg base "_law_next" ["seed"] 1 (spN ["seed"] zdn)
abbrev zaC (P:Program) (w:World) (K:W.Frag) (mg:Str->Option Value) (base:Heap):Prop:=Df P w K mg base "_law_draw" ["pen","many"] 2 (spN ["pen","many"] zu)
abbrev zdQ (P:Program) (w:World) (K:W.Frag) (mg:Str->Option Value) (base:Heap):Prop:=Df P w K mg base "_law_offers_of" ["pen","drawing"] 3 (spN ["pen","drawing"] zbO)
abbrev zdd (P:Program) (w:World) (K:W.Frag) (mg:Str->Option Value) (base:Heap):Prop:=Df P w K mg base "_law_ends_of" ["drawing","terms"] 1 (spN ["drawing","terms"] zbG)
abbrev zdF (P:Program) (w:World) (K:W.Frag) (mg:Str->Option Value) (base:Heap):Prop:=Df P w K mg base "_law_gap_of" ["pen","drawing"] 3 (spN ["pen","drawing"] zc0)
abbrev zeA (P:Program) (w:World) (K:W.Frag) (mg:Str->Option Value) (base:Heap):Prop:=Df P w K mg base "_law_gaps_of" ["pen","drawing","most"] 4 (spN ["pen","drawing","most"] zcD)
abbrev zbV (P:Program) (w:World) (K:W.Frag) (mg:Str->Option Value) (base:Heap):Prop:=Df P w K mg base "choices_behind" ["sizes","beginning"] 1 (spN ["sizes","beginning"] zbu)
abbrev zbE (P:Program) (w:World) (K:W.Frag) (mg:Str->Option Value) (base:Heap):Prop:=Df P w K mg base "refuse_too_many" ["sizes"] 3 (spN ["sizes"] zbh)
abbrev zdG (P:Program) (w:World) (K:W.Frag) (mg:Str->Option Value) (base:Heap):Prop:=Df P w K mg base "sizes_of" ["offers"] 1 (spN ["offers"] zcH)
abbrev zdg (P:Program) (w:World) (K:W.Frag) (mg:Str->Option Value) (base:Heap):Prop:=Df P w K mg base "each_longer" ["beginnings","numbers"] 1 (spN ["beginnings","numbers"] zcC)
abbrev zde (P:Program) (w:World) (K:W.Frag) (mg:Str->Option Value) (base:Heap):Prop:=Df P w K mg base "all_choices" ["sizes"] 2 (spN ["sizes"] zcx)
abbrev zei (P:Program) (w:World) (K:W.Frag) (mg:Str->Option Value) (base:Heap):Prop:=Df P w K mg base "first_set" ["drawing"] 1 (spN ["drawing"] zdD)
abbrev zi5 (P:Program) (w:World) (K:W.Frag) (mg:Str->Option Value) (base:Heap):Prop:=Df P w K mg base "plus" ["one","other"] 1 (spN ["one","other"] zkd)
abbrev zdx (P:Program) (w:World) (K:W.Frag) (mg:Str->Option Value) (base:Heap):Prop:=Df P w K mg base "multiplied" ["one","by"] 1 (spN ["one","by"] zcZ)
abbrev zfl (P:Program) (w:World) (K:W.Frag) (mg:Str->Option Value) (base:Heap):Prop:=Df P w K mg base "span_of" ["part"] 1 (spN ["part"] ze2)
abbrev zb3 (P:Program) (w:World) (K:W.Frag) (mg:Str->Option Value) (base:Heap):Prop:=Df P w K mg base "reach_of_terms" ["drawing","terms"] 2 (spN ["drawing","terms"] za6)
abbrev zdb (P:Program) (w:World) (K:W.Frag) (mg:Str->Option Value) (base:Heap):Prop:=Df P w K mg base "quotient_up" ["number","by"] 1 (spN ["number","by"] zcz)
abbrev zby (P:Program) (w:World) (K:W.Frag) (mg:Str->Option Value) (base:Heap):Prop:=Df P w K mg base "first_no_greater" ["drawing","terms","most"] 3 (spN ["drawing","terms","most"] zaL)
abbrev zeV (P:Program) (w:World) (K:W.Frag) (mg:Str->Option Value) (base:Heap):Prop:=Df P w K mg base "opposite" ["terms"] 1 (spN ["terms"] zeq)
abbrev zb4 (P:Program) (w:World) (K:W.Frag) (mg:Str->Option Value) (base:Heap):Prop:=Df P w K mg base "first_breakers" ["job"] 4 (spN ["job"] zbx)
abbrev zeK (P:Program) (w:World) (K:W.Frag) (mg:Str->Option Value) (base:Heap):Prop:=Df P w K mg base "worth_of" ["gap","one"] 1 (spN ["gap","one"] zet)
abbrev zhx (P:Program) (w:World) (K:W.Frag) (mg:Str->Option Value) (base:Heap):Prop:=Df P w K mg base "keeps" ["gap","one"] 2 (spN ["gap","one"] zhB)
abbrev zd0 (P:Program) (w:World) (K:W.Frag) (mg:Str->Option Value) (base:Heap):Prop:=Df P w K mg base "kept_gaps" ["gaps","one"] 3 (spN ["gaps","one"] zdE)
abbrev zen (P:Program) (w:World) (K:W.Frag) (mg:Str->Option Value) (base:Heap):Prop:=Df P w K mg base "counter" ["job"] 5 (spN ["job"] zed)
abbrev zb7 (P:Program) (w:World) (K:W.Frag) (mg:Str->Option Value) (base:Heap):Prop:=Df P w K mg base "narrowed_by" ["drawing","offers","choice"] 1 (spN ["drawing","offers","choice"] zaK)
abbrev zju (P:Program) (w:World) (K:W.Frag) (mg:Str->Option Value) (base:Heap):Prop:=Df P w K mg base "safe" ["job","offers","choice"] 6 (spN ["job","offers","choice"] zhU)
abbrev zcI (P:Program) (w:World) (K:W.Frag) (mg:Str->Option Value) (base:Heap):Prop:=Df P w K mg base "price_of" ["offers","choice"] 1 (spN ["offers","choice"] zaA)
abbrev zeS (P:Program) (w:World) (K:W.Frag) (mg:Str->Option Value) (base:Heap):Prop:=Df P w K mg base "cheapest" ["job","offers"] 9 (spN ["job","offers"] zdm)
abbrev zbF (P:Program) (w:World) (K:W.Frag) (mg:Str->Option Value) (base:Heap):Prop:=Df P w K mg base "_law_names_of" ["pen"] 3 (spN ["pen"] zaM)
abbrev zbt (P:Program) (w:World) (K:W.Frag) (mg:Str->Option Value) (base:Heap):Prop:=Df P w K mg base "_law_number_of" ["pen"] 3 (spN ["pen"] zaT)
abbrev zgZ (P:Program) (w:World) (K:W.Frag) (mg:Str->Option Value) (base:Heap):Prop:=Df P w K mg base "_law_few" ["pen","most"] 4 (spN ["pen","most"] zek)
abbrev zeQ (P:Program) (w:World) (K:W.Frag) (mg:Str->Option Value) (base:Heap):Prop:=Df P w K mg base "_law_span" ["pen"] 4 (spN ["pen"] zcE)
abbrev zdi (P:Program) (w:World) (K:W.Frag) (mg:Str->Option Value) (base:Heap):Prop:=Df P w K mg base "_law_drawing_of" ["pen","most"] 5 (spN ["pen","most"] za4)
abbrev zeH (P:Program) (w:World) (K:W.Frag) (mg:Str->Option Value) (base:Heap):Prop:=Df P w K mg base "is_whole" ["thing"] 1 (spN ["thing"] zem)
abbrev zcR (P:Program) (w:World) (K:W.Frag) (mg:Str->Option Value) (base:Heap):Prop:=Df P w K mg base "is_beginning" ["sizes","thing"] 2 (spN ["sizes","thing"] zb8)
abbrev zdY (P:Program) (w:World) (K:W.Frag) (mg:Str->Option Value) (base:Heap):Prop:=Df P w K mg base "is_choice" ["offers","thing"] 3 (spN ["offers","thing"] zdN)
abbrev zcK (P:Program) (w:World) (K:W.Frag) (mg:Str->Option Value) (base:Heap):Prop:=Df P w K mg base "_law_narrower" ["offers","choice"] 1 (spN ["offers","choice"] zb9)
abbrev zdp (P:Program) (w:World) (K:W.Frag) (mg:Str->Option Value) (base:Heap):Prop:=Df P w K mg base "_law_best_right" ["job","offers","good","best"] 6 (spN ["job","offers","good","best"] zbv)
abbrev zeB (P:Program) (w:World) (K:W.Frag) (mg:Str->Option Value) (base:Heap):Prop:=Df P w K mg base "_law_choices" ["offers"] 1 (spN ["offers"] zcy)
abbrev zdR (P:Program) (w:World) (K:W.Frag) (mg:Str->Option Value) (base:Heap):Prop:=Df P w K mg base "_law_no_dearer" ["job","offers","other","more","best"] 10 (spN ["job","offers","other","more","best"] zaD)
abbrev zfD (P:Program) (w:World) (K:W.Frag) (mg:Str->Option Value) (base:Heap):Prop:=Df P w K mg base "_law_wider" ["offers","pen"] 3 (spN ["offers","pen"] zdL)
theorem zdB (T:Txt mg) (dd:Dds K mg):Df P w K mg base "_law_cell_at" ["script","k"] 1 (sp2 (zp7 K)):=by
 refine Df.of2 dd.d_law_cell_at zgN (fun v u=>[some v,some u]) (fun _ _=>rfl) fun f cdv A outer s H v u Q E hr h=>?_
 obtain ⟨a,ns,i,rfl,rfl,hS,h0,q⟩:=h
 refine ⟨_,(zj (zbn (zU zih (pv 1) (zJ zlS (by rfl) T.n_len zbr (zc (pv 0) zf)) (nomark _)) (zt (zM (zW zlT (pv 0) (pv 1) (fun _ _=>rfl)))) zZ) (zt (zM zh))),?_⟩
 simp only [zgx,zsb,znH,tOp,znr,tCB,zjm,zqp,zsQ,tC,zqh,zl8,List.getElem?_cons_zero,List.getElem?_cons_succ]
 refine ⟨a,_,rfl,.inl hS,?_⟩
 simp only [zl8,zsJ,decide_eq_true_eq]
 refine ite2 (fun hi=>?_) (fun _=>q 0)
 obtain ⟨n,e⟩:=zpT h0 hi
 exact ⟨a,_,i,_,rfl,rfl,hS,e,q n⟩
theorem zd3 (T:Txt mg) (dd:Dds K mg) (ll:Lams K mg):zfb P w K mg base:=by
 exact Df.dN dd.d_law_pen_of ze4 1 rfl fun f cdv A outer s H E hr=>⟨_,_,(zj (zE (i:=1) ze4.nd rfl (Or.inl rfl) (zJ (zfZ rfl) (by rfl) T.n_max ziC (zc (pv 0) (zc (zF zcY zh (pv 0)) zf)))) (zt (zM (zaZ (zc (pv 1) (zc (zas zlo (by rfl) T.n_int zo2 (zc (zcP zst (pv 1) (zF zgU zh zh) (nomark _)) zf)) (zc (zF zfw (pv 1) zh) zf))))))),(zv (zB (zam znf (za zd (za (zq zeM zi zd) zg))) zk) (zN (zcs (za zd (za (zam zqg (za (zq zdv zd (zq zhN zi zi)) zg)) (za (zq zhN zd zi) zg)))))),fun xs S R q=>q⟩
theorem zcG (T:Txt mg) (dd:Dds K mg) (ll:Lams K mg):zeU P w K mg base:=by
 exact Df.dN dd.d_law_next zgw 0 rfl fun f cdv A outer s H E hr=>⟨_,_,(zj (zE (i:=0) zgw.nd rfl (Or.inl rfl) (zF zfw (zF zK (pv 0) zh) zh)) (zt (zM (zF zfw (zF zK (zF zK (zF zbf (pv 0) (pv 0)) (zF zbf zh (pv 0))) zh) zh)))),(zv (zB (zq zhN (zq zY zd zi) zi) zk) (zN (zq zhN (zq zY (zq zY (zq zcd zd zd) (zq zcd zi zd)) zi) zi))),fun xs S R q=>q⟩
theorem zr (T:Txt mg) (dd:Dds K mg) (ll:Lams K mg) (zcG:zeU P w K mg base):zaC P w K mg base:=by
 exact Df.dN dd.d_law_draw zgj 1 rfl fun f cdv A outer s H E hr=>⟨_,_,(zj (zbn (zU (zce hr.units) (zW zD (pv 0) zh (fun _ _=>rfl)) zh (nomark _)) (zj (zE (i:=2) zgj.nd rfl (Or.inl rfl) (zF zfw (zW zD (pv 0) zh (fun _ _=>rfl)) (pv 1))) (zj (zgq (zF zhd (zW zD (pv 0) zh (fun _ _=>rfl)) (pv 1)) (zkk (pv 0) zh zfK)) (zt (zM (pv 2))))) zZ) (zj (zgq (zw zcG hr (by decide) (zc (zF zK (zw zcG hr (by decide) (zc (zW zD (pv 0) zh (fun _ _=>rfl)) zf)) zh) zf)) (zkk (pv 0) zh zfK)) (zt (zM (zF zfw (zF zhd (zW zD (pv 0) zh (fun _ _=>rfl)) zh) (pv 1)))))),(zv (zbI (zep (zq zch (zq zX zd zi) zi)) (zv (zB (zq zhN (zq zX zd zi) zd) zk) (zv (zB (zq zkO (zq zX zd zi) zd) (zjZ zd zi)) (zN zd))) zaa) (zv (zB (zL (za (zq zY (zL (za (zq zX zd zi) zg)) zi) zg)) (zjZ zd zi)) (zN (zq zhN (zq zkO (zq zX zd zi) zi) zd)))),fun xs S R q=>q⟩
theorem zcJ (T:Txt mg) (dd:Dds K mg) (ll:Lams K mg) (zr:zaC P w K mg base):zdQ P w K mg base:=by
 exact Df.dN dd.d_law_offers_of zI 12 rfl fun f cdv A outer s H E hr=>⟨_,_,(zj (zE (i:=2) zI.nd rfl (Or.inl rfl) (zaZ zf)) (zj (zE (i:=3) zI.nd rfl (Or.inl rfl) (zW zD (zaZ (zc zh (zc zh (zc zh (zc (zF zgU zh zh) zf))))) (zw zr hr (by decide) (zc (pv 0) (zc zh zf))) (fun _ _=>rfl))) (zj (zbU PassesOwn.never rfl (zaX (pv 1)) (zc3 (n:=3) rfl (zQ (zA (i:=4) zI.nd rfl (Or.inl rfl)) (zQ (zA (i:=5) zI.nd rfl (Or.inl rfl)) (zQ (zA (i:=6) zI.nd rfl (Or.inl rfl)) zbH)))) (zj (zE (i:=7) zI.nd rfl (Or.inl rfl) (zaZ (zc (zap (zc (pv 5) (zc (pv 6) (zc zh zf)))) zf))) (zj (zbU PassesOwn.never rfl (zaR rfl T.n_range (zc (zw zr hr (by decide) (zc (pv 0) (zc zh zf))) zf)) (zA (i:=8) zI.nd rfl (Or.inl rfl)) (zj (zgq (zW zD (pv 7) (zfV zee zh) (fun _ _=>rfl)) (zc3 (n:=3) rfl (zQ (zA (i:=9) zI.nd rfl (Or.inl rfl)) (zQ (zA (i:=10) zI.nd rfl (Or.inl rfl)) (zQ (zA (i:=11) zI.nd rfl (Or.inl rfl)) zbH))))) (zt (zbn (zU zih (pv 9) (pv 10) (nomark _)) (zj (zE (i:=12) zI.nd rfl (Or.inl rfl) (zF zK (pv 9) (zw zr hr (by decide) (zc (pv 0) (zc (zF zK (zJ (zlh rfl) (by rfl) T.n_min zhb (zc (zF zcY (pv 10) (pv 9)) (zc zh zf))) zh) zf))))) (zj (zE (i:=13) zI.nd rfl (Or.inl rfl) (zJ (zfZ rfl) (by rfl) T.n_max ziC (zc (pv 12) (zc (zF zcY (pv 10) (zw zr hr (by decide) (zc (pv 0) (zc zh zf)))) zf)))) (zj (zbn (PW.pt (zj6 (zU (zce hr.units) (pv 12) (pv 9) (nomark _)) (zhu (zU (zce hr.units) (pv 13) (pv 10) (nomark _))))) (zt (zE (i:=12) zI.nd rfl (Or.inl rfl) (zF zK (pv 9) zh))) zZ) (zt (zcm (zfG PySem.F.plainAttrs_list PySem.F.slot_list_append PySem.F.type_list_append zbQ (pv 7) (zc (zap (zc (pv 12) (zc (pv 13) (zc (zF zK (zF zK (pv 11) zh) (zw zr hr (by decide) (zc (pv 0) (zc (pv 3) zf)))) zf)))) zf))))))) zZ)))) (zt (zcm (zfG PySem.F.plainAttrs_list PySem.F.slot_list_append PySem.F.type_list_append zbQ (pv 2) (zc (zas zV (by rfl) T.n_tuple za2 (zc (pv 7) zf)) zf))))))) (zt (zM (zas zV (by rfl) T.n_tuple za2 (zc (pv 2) zf))))))),(zv (zB (zcs zg) zk) (zv (zB (zq zX (zc5 (za zi (za zi (za zi (za (zq zhN zi zi) zg))))) (zC (i:=0) (za zd (za zi zg)))) zk) (zv (zcL (zaY zd) (zda (zP zk (zP zk (zP zk zbJ)))) (zv (zB (zcs (za (zaq (za zd (za zd (za zi zg)))) zg)) zk) (zv (zcL (zbS (za (zC (i:=0) (za zd (za zi zg))) zg)) zk (zv (zB (zq zX zd (zgk zmJ zi)) (zda (zP zk (zP zk (zP zk zbJ))))) (zbI (zep (zq zdv zd zd)) (zv (zB (zq zY zd (zC (i:=0) (za zd (za (zq zY (zam znf (za (zq zeM zd zd) (za zi zg))) zi) zg)))) zk) (zv (zB (zam znf (za zd (za (zq zeM zd (zC (i:=0) (za zd (za zi zg)))) zg))) zk) (zv (zbI (zjH (zep (zq zch zd zd)) (zep (zq zch zd zd))) (zB (zq zY zd zi) zk) zaa) (zco (zgB zci zd (za (zaq (za zd (za zd (za (zq zY (zq zY zd zi) (zC (i:=0) (za zd (za zd zg)))) zg)))) zg)))))) zaa))) (zco (zgB zci zd (za (zam za9 (za zd zg)) zg)))))) (zN (zam za9 (za zd zg)))))),fun xs S R q=>q⟩
theorem zbk (T:Txt mg) (dd:Dds K mg) (ll:Lams K mg):zdd P w K mg base:=by
 exact Df.dN dd.d_law_ends_of zaw 5 rfl fun f cdv A outer s H E hr=>⟨_,_,(zj (zE (i:=2) zaw.nd rfl (Or.inl rfl) zh) (zj (zE (i:=3) zaw.nd rfl (Or.inl rfl) zh) (zj (zbU PassesOwn.never rfl (zaX (pv 1)) (zc3 (n:=2) rfl (zQ (zA (i:=4) zaw.nd rfl (Or.inl rfl)) (zQ (zA (i:=5) zaw.nd rfl (Or.inl rfl)) zbH))) (zj (zE (i:=6) zaw.nd rfl (Or.inl rfl) (zaZ (zc (zF zbf (pv 5) (zW zD (zW zD (pv 0) (pv 4) (fun _ _=>rfl)) zh (fun _ _=>rfl))) (zc (zF zbf (pv 5) (zW zD (zW zD (pv 0) (pv 4) (fun _ _=>rfl)) zh (fun _ _=>rfl))) zf)))) (zj (zE (i:=2) zaw.nd rfl (Or.inl rfl) (zF zK (pv 2) (zJ (zfa rfl hr.units) (by rfl) T.n_min zhb (zc (pv 6) zf)))) (zt (zE (i:=3) zaw.nd rfl (Or.inl rfl) (zF zK (pv 3) (zJ (zii rfl) (by rfl) T.n_max ziC (zc (pv 6) zf)))))))) (zt (zM (zap (zc (pv 2) (zc (pv 3) zf)))))))),(zv (zB zi zk) (zv (zB zi zk) (zv (zcL (zaY zd) (zda (zP zk (zP zk zbJ))) (zv (zB (zc5 (za (zq zcd zd (zq zX (zq zX zd zd) zi)) (za (zq zcd zd (zq zX (zq zX zd zd) zi)) zg))) zk) (zv (zB (zq zY zd (zam zhE (za zd zg))) zk) (zB (zq zY zd (zam zou (za zd zg))) zk)))) (zN (zaq (za zd (za zd zg))))))),fun xs S R q=>q⟩
theorem zcf (T:Txt mg) (dd:Dds K mg) (ll:Lams K mg) (zr:zaC P w K mg base) (zbk:zdd P w K mg base):zdF P w K mg base:=by
 exact Df.dN dd.d_law_gap_of zai 8 rfl fun f cdv A outer s H E hr=>⟨_,_,(zj (zE (i:=2) zai.nd rfl (Or.inl rfl) (zaZ zf)) (zj (zbU PassesOwn.never rfl (zaR rfl T.n_range (zc (zJ zaf (by rfl) T.n_len zbr (zc (pv 1) zf)) zf)) (zA (i:=3) zai.nd rfl (Or.inl rfl)) (zj (zE (i:=4) zai.nd rfl (Or.inl rfl) (zF zcY (zw zr hr (by decide) (zc (pv 0) (zc zh zf))) zh)) (zt (zbn (zU (zmq hr.units) (pv 4) (zap (zc (zfV zee zh) (zc zh (zc zh zf)))) (by rfl)) (zt (zcm (zfG PySem.F.plainAttrs_list PySem.F.slot_list_append PySem.F.type_list_append zbQ (pv 2) (zc (zap (zc (pv 3) (zc (pv 4) zf))) zf)))) zZ)))) (zj (zbn (zU (zce hr.units) (pv 2) (zaZ zf) (nomark _)) (zt (zE (i:=2) zai.nd rfl (Or.inl rfl) (zaZ (zc (zap (zc (zw zr hr (by decide) (zc (pv 0) (zc (zJ zaf (by rfl) T.n_len zbr (zc (pv 1) zf)) zf))) (zc (zW zD (zaZ (zc zh (zc (zfV zee zh) (zc zh (zc (zfV zee zh) zf))))) (zw zr hr (by decide) (zc (pv 0) (zc zh zf))) (fun _ _=>rfl)) zf))) zf)))) zZ) (zj (zgq (zw zbk hr (by decide) (zc (pv 1) (zc (pv 2) zf))) (zc3 (n:=2) rfl (zQ (zA (i:=5) zai.nd rfl (Or.inl rfl)) (zQ (zA (i:=6) zai.nd rfl (Or.inl rfl)) zbH)))) (zj (zE (i:=7) zai.nd rfl (Or.inl rfl) (zF zcY (pv 6) (pv 5))) (zj (zE (i:=8) zai.nd rfl (Or.inl rfl) (zF zK (pv 5) (zW zD (zmx (zcn zh (zcn zh (zcn (zfV zee zh) (zcn (zF zhd (pv 7) zh) (zcn (zF zhd (pv 7) zh) (zcn (zF zK (pv 7) zh) zoW))))))) (zw zr hr (by decide) (zc (pv 0) (zc zh zf))) (fun _ _=>rfl)))) (zj (zE (i:=9) zai.nd rfl (Or.inl rfl) (zF zK (pv 8) (zW zD (zmx (zcn zh (zcn zh (zcn zh (zcn (zF zhd (pv 7) zh) (zcn (pv 7) (zcn (zF zK (pv 7) zh) zoW))))))) (zw zr hr (by decide) (zc (pv 0) (zc zh zf))) (fun _ _=>rfl)))) (zt (zM (zap (zc (zas zV (by rfl) T.n_tuple za2 (zc (pv 2) zf)) (zc (pv 8) (zc (pv 9) zf))))))))))))),(zv (zB (zcs zg) zk) (zv (zcL (zbS (za (zam zaS (za zd zg)) zg)) zk (zv (zB (zq zeM (zC (i:=0) (za zd (za zi zg))) zi) zk) (zbI (zep (zq zmX zd (zaq (za (zgk zmJ zi) (za zi (za zi zg)))))) (zco (zgB zci zd (za (zaq (za zd (za zd zg))) zg))) zaa))) (zv (zbI (zep (zq zch zd (zc5 zg))) (zB (zcs (za (zaq (za (zC (i:=0) (za zd (za (zam zaS (za zd zg)) zg))) (za (zq zX (zc5 (za zi (za (zgk zmJ zi) (za zi (za (zgk zmJ zi) zg))))) (zC (i:=0) (za zd (za zi zg)))) zg))) zg)) zk) zaa) (zv (zB (znI (za zd (za zd zg))) (zda (zP zk (zP zk zbJ)))) (zv (zB (zq zeM zd zd) zk) (zv (zB (zq zY zd (zq zX (zc5 (za zi (za zi (za (zgk zmJ zi) (za (zq zkO zd zi) (za (zq zkO zd zi) (za (zq zY zd zi) zg))))))) (zC (i:=0) (za zd (za zi zg))))) zk) (zv (zB (zq zY zd (zq zX (zc5 (za zi (za zi (za zi (za (zq zkO zd zi) (za zd (za (zq zY zd zi) zg))))))) (zC (i:=0) (za zd (za zi zg))))) zk) (zN (zaq (za (zam za9 (za zd zg)) (za zd (za zd zg)))))))))))),fun xs S R q=>q⟩
theorem zdJ (T:Txt mg) (dd:Dds K mg) (ll:Lams K mg) (zr:zaC P w K mg base) (zcf:zdF P w K mg base):zeA P w K mg base:=by
 exact Df.dN dd.d_law_gaps_of zeu 1 rfl fun f cdv A outer s H E hr=>⟨_,_,(zj (zd6 (i:=3) (fun _ _ h=>h) rfl (zT rfl rfl rfl rfl (N:=["k","pen","drawing"]) (caps:=[none,some 0,some 1]) (by show zaQ ["pen","drawing","most","gaps"] (zn s_law_gaps_of).names _ _ _ = true; decide +kernel)) zeu.nd rfl rfl (zaR rfl T.n_range (zc (zF zK zh (zw zr hr (by decide) (zc (pv 0) (zc (pv 2) zf)))) zf)) (fun _ _ _ _=>(zA (i:=0) (by show List.Nodup (["k","pen","drawing"]:List Str); decide) rfl (Or.inl rfl))) (fun _ _ _ _=>zaG) (fun _ _ _ _=>(zw zcf hr (by decide) (zc (pv 1) (zc (pv 2) zf))))) (zj (zbn (PW.pt (zj6 (zU (zce hr.units) (zw zr hr (by decide) (zc (pv 0) (zc zh zf))) zh (nomark _)) (zhu (zU zi8 (zJ zaf (by rfl) T.n_len zbr (zc (pv 3) zf)) zh (nomark _))))) (zt (zgq (zap (zc (zW zD (zW zD (pv 3) zh (fun _ _=>rfl)) zh (fun _ _=>rfl)) (zc (zF zK (zW zD (zW zD (pv 3) zh (fun _ _=>rfl)) zh (fun _ _=>rfl)) zh) (zc (zF zK (zF zK (zW zD (zW zD (pv 3) zh (fun _ _=>rfl)) zh (fun _ _=>rfl)) zh) (zw zr hr (by decide) (zc (pv 0) (zc zh zf)))) zf)))) (zkk (pv 3) (zfV zee zh) zfK))) zZ) (zt (zM (zas zV (by rfl) T.n_tuple za2 (zc (pv 3) zf)))))),(zv (zB (ze8 (zbS (za (zq zY zi (zC (i:=0) (za zd (za zd zg)))) zg)) zk zaH (zC (i:=0) (za zd (za zd zg)))) zk) (zv (zbI (zjH (zep (zq zch (zC (i:=0) (za zd (za zi zg))) zi)) (zep (zq zdv (zam zaS (za zd zg)) zi))) (zB (zaq (za (zq zX (zq zX zd zi) zi) (za (zq zY (zq zX (zq zX zd zi) zi) zi) (za (zq zY (zq zY (zq zX (zq zX zd zi) zi) zi) (zC (i:=0) (za zd (za zi zg)))) zg)))) (zjZ zd (zgk zmJ zi))) zaa) (zN (zam za9 (za zd zg))))),fun xs S R q=>q⟩
theorem za7 (T:Txt mg) (dd:Dds K mg) (ll:Lams K mg):zbV P w K mg base:=by
 exact Df.dN dd.d_choices_behind zbm 2 rfl fun f cdv A outer s H E hr=>⟨_,_,(zj (zE (i:=2) zbm.nd rfl (Or.inl rfl) zh) (zj (zbU PassesOwn.never rfl (zaX (zbl zeG (pv 0) (zbC (zJ zaf (by rfl) T.n_len zbr (zc (pv 1) zf))) zcp)) (zA (i:=3) zbm.nd rfl (Or.inl rfl)) (zt (zE (i:=2) zbm.nd rfl (Or.inl rfl) (zF zbf (pv 2) (pv 3))))) (zt (zM (pv 2))))),(zv (zB zi zk) (zv (zcL (zaY (zfH zeD zd (zct (zam zaS (za zd zg))) zcu)) zk (zB (zq zcd zd zd) zk)) (zN zd))),fun xs S R q=>q⟩
theorem zaO (T:Txt mg) (dd:Dds K mg) (ll:Lams K mg) (za7:zbV P w K mg base):zbE P w K mg base:=by
 exact Df.dN dd.d_refuse_too_many zc8 1 rfl fun f cdv A outer s H E hr=>⟨_,_,(zj (zE (i:=1) zc8.nd rfl (Or.inl rfl) (zw za7 hr (by decide) (zc (pv 0) (zc (zap zf) zf)))) (zt (zbn (zU zi8 (pv 1) (zn0 rfl T.g_MOST_CHOICES) (nomark _)) (zt znh) zZ))),(zv (zB (zL (za zd (za (zaq zg) zg))) zk) (zbI (zep (zq zdv zd zi)) znW zaa)),fun xs S R q=>q⟩
theorem zbi (T:Txt mg) (dd:Dds K mg) (ll:Lams K mg):zdG P w K mg base:=by
 exact Df.dN dd.d_sizes_of zje 0 rfl fun f cdv A outer s H E hr=>⟨_,_,(zt (zM (zbd (fun _ _ h=>h) rfl (zT (L:=0) rfl rfl rfl rfl (N:=["of_part"]) (caps:=[none]) (by show zaQ ["offers"] (zn s_sizes_of).names _ _ _ = true; decide +kernel)) (zaX (pv 0)) (fun _ _ _ _=>(zA (i:=0) (by show List.Nodup (["of_part"]:List Str); decide) rfl (Or.inl rfl))) (fun _ _ _ _=>zaG) (fun _ _ _ _=>(zJ zaf (by rfl) T.n_len zbr (zc (pv 0) zf)))))),(zN (ze8 (zaY zd) zk zaH (zam zaS (za zd zg)))),fun xs S R q=>q⟩
theorem zbR (T:Txt mg) (dd:Dds K mg) (ll:Lams K mg):zdg P w K mg base:=by
 exact Df.dN dd.d_each_longer zdf 2 rfl fun f cdv A outer s H E hr=>⟨_,_,(zj (zE (i:=2) zdf.nd rfl (Or.inl rfl) (zaZ zf)) (zj (zbU PassesOwn.never rfl (zaX (pv 0)) (zA (i:=3) zdf.nd rfl (Or.inr rfl)) (zt (zcm (zfG PySem.F.plainAttrs_list PySem.F.slot_list_extend PySem.F.type_list_extend ziB (pv 2) (zc (zbd (fun _ _ h=>h) rfl (zT rfl rfl rfl rfl (N:=["number","beginning"]) (caps:=[none,some 3]) (by show zaQ ["beginnings","numbers","longer","beginning"] (zn s_each_longer).names _ _ _ = true; decide +kernel)) (zaX (pv 1)) (fun _ _ _ _=>(zA (i:=0) (by show List.Nodup (["number","beginning"]:List Str); decide) rfl (Or.inl rfl))) (fun _ _ _ _=>zaG) (fun _ _ _ _=>(zF zK (pv 1) (zap (zc (pv 0) zf))))) zf))))) (zt (zM (pv 2))))),(zv (zB (zcs zg) zk) (zv (zcL (zaY zd) zk (zco (zgB ziw zd (za (za3 (zaY zd) zk zaH (zq zY zd (zaq (za zd zg)))) zg)))) (zN zd))),fun xs S R q=>q⟩
theorem zbM (T:Txt mg) (dd:Dds K mg) (ll:Lams K mg) (zbR:zdg P w K mg base):zde P w K mg base:=by
 exact Df.dN dd.d_all_choices zb6 2 rfl fun f cdv A outer s H E hr=>⟨_,_,(zj (zE (i:=1) zb6.nd rfl (Or.inl rfl) (zaZ (zc (zap zf) zf))) (zj (zbU PassesOwn.never rfl (zaX (pv 0)) (zA (i:=2) zb6.nd rfl (Or.inl rfl)) (zt (zE (i:=1) zb6.nd rfl (Or.inl rfl) (zw zbR hr (by decide) (zc (pv 1) (zc (zm8 rfl rfl T.n_list rfl T.n_range (zc (pv 2) zf)) zf)))))) (zt (zM (pv 1))))),(zv (zB (zc5 (za (zaq zg) zg)) zk) (zv (zcL (zaY zd) zk (zB (zL (za zd (za (zn1 (za zd zg)) zg))) zk)) (zN zd))),fun xs S R q=>q⟩
theorem zcQ (T:Txt mg) (dd:Dds K mg) (ll:Lams K mg):zei P w K mg base:=by
 exact Df.dN dd.d_first_set ziP 0 rfl fun f cdv A outer s H E hr=>⟨_,_,(zt (zM (zas zV (by rfl) T.n_tuple za2 (zc (zbd (fun _ _ h=>h) rfl (zT (L:=0) rfl rfl rfl rfl (N:=["part"]) (caps:=[none]) (by show zaQ ["drawing"] (zn s_first_set).names _ _ _ = true; decide +kernel)) (zaX (pv 0)) (fun _ _ _ _=>(zA (i:=0) (by show List.Nodup (["part"]:List Str); decide) rfl (Or.inl rfl))) (fun _ _ _ _=>zaG) (fun _ _ _ _=>(zW zD (pv 0) zh (fun _ _=>rfl)))) zf)))),(zN (zam za9 (za (za3 (zaY zd) zk zaH (zq zX zd zi)) zg))),fun xs S R q=>q⟩
theorem ziJ (T:Txt mg) (dd:Dds K mg) (ll:Lams K mg):zi5 P w K mg base:=by
 exact Df.dN dd.d_plus zp4 0 rfl fun f cdv A outer s H E hr=>⟨_,_,(zt (zM (zap (zc (zF zK (zW zD (pv 0) zh (fun _ _=>rfl)) (zW zD (pv 1) zh (fun _ _=>rfl))) (zc (zF zK (zW zD (pv 0) zh (fun _ _=>rfl)) (zW zD (pv 1) zh (fun _ _=>rfl))) zf))))),(zN (zaq (za (zq zY (zq zX zd zi) (zq zX zd zi)) (za (zq zY (zq zX zd zi) (zq zX zd zi)) zg)))),fun xs S R q=>q⟩
theorem zcc (T:Txt mg) (dd:Dds K mg) (ll:Lams K mg):zdx P w K mg base:=by
 exact Df.dN dd.d_multiplied zfd 1 rfl fun f cdv A outer s H E hr=>⟨_,_,(zj (zE (i:=2) zfd.nd rfl (Or.inl rfl) (zap (zc (zF zbf (zW zD (pv 0) zh (fun _ _=>rfl)) (pv 1)) (zc (zF zbf (zW zD (pv 0) zh (fun _ _=>rfl)) (pv 1)) zf)))) (zt (zM (zap (zc (zJ (zfa rfl hr.units) (by rfl) T.n_min zhb (zc (pv 2) zf)) (zc (zJ (zii rfl) (by rfl) T.n_max ziC (zc (pv 2) zf)) zf)))))),(zv (zB (zaq (za (zq zcd (zq zX zd zi) zd) (za (zq zcd (zq zX zd zi) zd) zg))) zk) (zN (zaq (za (zam zhE (za zd zg)) (za (zam zou (za zd zg)) zg))))),fun xs S R q=>q⟩
theorem zd7 (T:Txt mg) (dd:Dds K mg) (ll:Lams K mg):zfl P w K mg base:=by
 exact Df.dN dd.d_span_of zkF 0 rfl fun f cdv A outer s H E hr=>⟨_,_,(zt (zM (zap (zc (zW zD (pv 0) zh (fun _ _=>rfl)) (zc (zW zD (pv 0) zh (fun _ _=>rfl)) zf))))),(zN (zaq (za (zq zX zd zi) (za (zq zX zd zi) zg)))),fun xs S R q=>q⟩
theorem zaI (T:Txt mg) (dd:Dds K mg) (ll:Lams K mg) (ziJ:zi5 P w K mg base) (zcc:zdx P w K mg base) (zd7:zfl P w K mg base):zb3 P w K mg base:=by
 exact Df.dN dd.d_reach_of_terms zaU 3 rfl fun f cdv A outer s H E hr=>⟨_,_,(zj (zE (i:=2) zaU.nd rfl (Or.inl rfl) (zap (zc zh (zc zh zf)))) (zj (zbU PassesOwn.never rfl (zaX (pv 1)) (zc3 (n:=2) rfl (zQ (zA (i:=3) zaU.nd rfl (Or.inl rfl)) (zQ (zA (i:=4) zaU.nd rfl (Or.inl rfl)) zbH))) (zt (zE (i:=2) zaU.nd rfl (Or.inl rfl) (zw ziJ hr (by decide) (zc (pv 2) (zc (zw zcc hr (by decide) (zc (zw zd7 hr (by decide) (zc (zW zD (pv 0) (pv 3) (fun _ _=>rfl)) zf)) (zc (pv 4) zf))) zf)))))) (zt (zM (pv 2))))),(zv (zB (zaq (za zi (za zi zg))) zk) (zv (zcL (zaY zd) (zda (zP zk (zP zk zbJ))) (zB (zL (za zd (za (zL (za (zL (za (zq zX zd zd) zg)) (za zd zg))) zg))) zk)) (zN zd))),fun xs S R q=>q⟩
theorem zbP (T:Txt mg) (dd:Dds K mg) (ll:Lams K mg):zdb P w K mg base:=by
 exact Df.dN dd.d_quotient_up zgE 0 rfl fun f cdv A outer s H E hr=>⟨_,_,(zt (zM (zfV zee (zF zhd (zfV zee (pv 0)) (pv 1))))),(zN (zgk zmJ (zq zkO (zgk zmJ zd) zd))),fun xs S R q=>q⟩
theorem zan (T:Txt mg) (dd:Dds K mg) (ll:Lams K mg) (zaI:zb3 P w K mg base) (zcQ:zei P w K mg base) (zbP:zdb P w K mg base):zby P w K mg base:=by
 exact Df.dN dd.d_first_no_greater zad 5 rfl fun f cdv A outer s H E hr=>⟨_,_,(zj (zbn (zU zi8 (zW zD (zw zaI hr (by decide) (zc (pv 0) (zc (pv 1) zf))) zh (fun _ _=>rfl)) (pv 2) (nomark _)) (zt (zM zew)) zZ) (zj (zE (i:=3) zad.nd rfl (Or.inl rfl) (zas zh4 (by rfl) T.n_list zmn (zc (zw zcQ hr (by decide) (zc (pv 0) zf)) zf))) (zj (zE (i:=4) zad.nd rfl (Or.inl rfl) (pv 2)) (zj (zbU PassesOwn.never rfl (znz rfl T.n_enumerate (zc (pv 1) zf)) (zc3 (n:=2) rfl (zQ (zA (i:=5) zad.nd rfl (Or.inl rfl)) (zQ (zA (i:=6) zad.nd rfl (Or.inl rfl)) zbH))) (zj (zbn (zU zih (zW zD (pv 6) zh (fun _ _=>rfl)) zh (nomark _)) (zj (zE (i:=7) zad.nd rfl (Or.inl rfl) (zW zD (zw zaI hr (by decide) (zc (pv 0) (zc (zbl zeG (pv 1) (zbC (zF zK (pv 5) zh)) zcp) zf))) zh (fun _ _=>rfl))) (zt (zgq (zJ (zfZ rfl) (by rfl) T.n_max ziC (zc (zW zD (pv 3) (zW zD (pv 6) zh (fun _ _=>rfl)) (fun _ _=>rfl)) (zc (zw zbP hr (by decide) (zc (zF zcY (pv 4) (pv 7)) (zc (zW zD (pv 6) zh (fun _ _=>rfl)) zf))) zf))) (zkk (pv 3) (zW zD (pv 6) zh (fun _ _=>rfl)) zfK)))) zZ) (zt (zE (i:=4) zad.nd rfl (Or.inl rfl) (zF zcY (pv 4) (zF zbf (zW zD (pv 6) zh (fun _ _=>rfl)) (zW zD (pv 3) (zW zD (pv 6) zh (fun _ _=>rfl)) (fun _ _=>rfl)))))))) (zt (zM (zas zV (by rfl) T.n_tuple za2 (zc (pv 3) zf)))))))),(zv (zbI (zep (zq zdv (zq zX (zL (za zd (za zd zg))) zi) zd)) (zN zn8) zaa) (zv (zB (zam zmv (za (zL (za zd zg)) zg)) zk) (zv (zB zd zk) (zv (zcL (znw (za zd zg)) (zda (zP zk (zP zk zbJ))) (zv (zbI (zep (zq zdv (zq zX zd zi) zi)) (zv (zB (zq zX (zL (za zd (za (zfH zeD zd (zct (zq zY zd zi)) zcu) zg))) zi) zk) (zB (zam znf (za (zq zX zd (zq zX zd zi)) (za (zL (za (zq zeM zd zd) (za (zq zX zd zi) zg))) zg))) (zjZ zd (zq zX zd zi)))) zaa) (zB (zq zeM zd (zq zcd (zq zX zd zi) (zq zX zd (zq zX zd zi)))) zk))) (zN (zam za9 (za zd zg))))))),fun xs S R q=>q⟩
theorem zdj (T:Txt mg) (dd:Dds K mg) (ll:Lams K mg):zeV P w K mg base:=by
 exact Df.dN dd.d_opposite zji 0 rfl fun f cdv A outer s H E hr=>⟨_,_,(zt (zM (zas zV (by rfl) T.n_tuple za2 (zc (zbd (fun _ _ h=>h) rfl (zT (L:=0) rfl rfl rfl rfl (N:=["part","times"]) (caps:=[none,none]) (by show zaQ ["terms"] (zn s_opposite).names _ _ _ = true; decide +kernel)) (zaX (pv 0)) (fun _ _ _ _=>(zc3 (n:=2) rfl (zQ (zA (i:=0) (by show List.Nodup (["part","times"]:List Str); decide) rfl (Or.inl rfl)) (zQ (zA (i:=1) (by show List.Nodup (["part","times"]:List Str); decide) rfl (Or.inl rfl)) zbH)))) (fun _ _ _ _=>zaG) (fun _ _ _ _=>(zap (zc (pv 0) (zc (zfV zee (pv 1)) zf))))) zf)))),(zN (zam za9 (za (za3 (zaY zd) (zda (zP zk (zP zk zbJ))) zaH (zaq (za zd (za (zgk zmJ zd) zg)))) zg))),fun xs S R q=>q⟩
theorem za5 (T:Txt mg) (dd:Dds K mg) (ll:Lams K mg) (zan:zby P w K mg base) (zdj:zeV P w K mg base):zb4 P w K mg base:=by
 exact Df.dN dd.d_first_breakers zaP 4 rfl fun f cdv A outer s H E hr=>⟨_,_,(zj (zE (i:=1) zaP.nd rfl (Or.inl rfl) (zaZ zf)) (zj (zbU PassesOwn.never rfl (zaX (zW zD (pv 0) zh (fun _ _=>rfl))) (zc3 (n:=3) rfl (zQ (zA (i:=2) zaP.nd rfl (Or.inl rfl)) (zQ (zA (i:=3) zaP.nd rfl (Or.inl rfl)) (zQ (zA (i:=4) zaP.nd rfl (Or.inl rfl)) zbH)))) (zj (zcm (zfG PySem.F.plainAttrs_list PySem.F.slot_list_append PySem.F.type_list_append zbQ (pv 1) (zc (zw zan hr (by decide) (zc (zW zD (pv 0) zh (fun _ _=>rfl)) (zc (pv 2) (zc (zF zcY (pv 3) zh) zf)))) zf))) (zt (zcm (zfG PySem.F.plainAttrs_list PySem.F.slot_list_append PySem.F.type_list_append zbQ (pv 1) (zc (zw zan hr (by decide) (zc (zW zD (pv 0) zh (fun _ _=>rfl)) (zc (zw zdj hr (by decide) (zc (pv 2) zf)) (zc (zF zcY (zfV zee (pv 4)) zh) zf)))) zf)))))) (zt (zM (pv 1))))),(zv (zB (zcs zg) zk) (zv (zcL (zaY (zq zX zd zi)) (zda (zP zk (zP zk (zP zk zbJ)))) (zv (zco (zgB zci zd (za (zL (za (zq zX zd zi) (za zd (za (zq zeM zd zi) zg)))) zg))) (zco (zgB zci zd (za (zL (za (zq zX zd zi) (za (zL (za zd zg)) (za (zq zeM (zgk zmJ zd) zi) zg)))) zg))))) (zN zd))),fun xs S R q=>q⟩
theorem zdo (T:Txt mg) (dd:Dds K mg) (ll:Lams K mg):zeK P w K mg base:=by
 exact Df.dN dd.d_worth_of zi4 0 rfl fun f cdv A outer s H E hr=>⟨_,_,(zt (zM (zJ (zh6 rfl) (by rfl) T.n_sum zn4 (zc (zbd (fun _ _ h=>h) rfl (zT rfl rfl rfl rfl (N:=["part","times","one"]) (caps:=[none,none,some 1]) (by show zaQ ["gap","one"] (zn s_worth_of).names _ _ _ = true; decide +kernel)) (zaX (zW zD (pv 0) zh (fun _ _=>rfl))) (fun _ _ _ _=>(zc3 (n:=2) rfl (zQ (zA (i:=0) (by show List.Nodup (["part","times","one"]:List Str); decide) rfl (Or.inl rfl)) (zQ (zA (i:=1) (by show List.Nodup (["part","times","one"]:List Str); decide) rfl (Or.inl rfl)) zbH)))) (fun _ _ _ _=>zaG) (fun _ _ _ _=>(zF zbf (pv 1) (zW zD (pv 2) (pv 0) (fun _ _=>rfl))))) zf)))),(zN (zam zow (za (za3 (zaY (zq zX zd zi)) (zda (zP zk (zP zk zbJ))) zaH (zq zcd zd (zq zX zd zd))) zg))),fun xs S R q=>q⟩
theorem zgi (T:Txt mg) (dd:Dds K mg) (ll:Lams K mg) (zdo:zeK P w K mg base):zhx P w K mg base:=by
 exact Df.dN dd.d_keeps zny 0 rfl fun f cdv A outer s H E hr=>⟨_,_,(zt (zM (zjU zn2 zn2 (zW zD (pv 0) zh (fun _ _=>rfl)) (zw zdo hr (by decide) (zc (pv 0) (zc (pv 1) zf))) (zW zD (pv 0) zh (fun _ _=>rfl))))),(zN (zjQ zdv zdv (zq zX zd zi) (zL (za zd (za zd zg))) (zq zX zd zi))),fun xs S R q=>q⟩
theorem zcS (T:Txt mg) (dd:Dds K mg) (ll:Lams K mg) (zgi:zhx P w K mg base):zd0 P w K mg base:=by
 exact Df.dN dd.d_kept_gaps zh3 0 rfl fun f cdv A outer s H E hr=>⟨_,_,(zt (zM (zbd (fun _ _ h=>h) rfl (zT rfl rfl rfl rfl (N:=["gap","one"]) (caps:=[none,some 1]) (by show zaQ ["gaps","one"] (zn s_kept_gaps).names _ _ _ = true; decide +kernel)) (zaX (pv 0)) (fun _ _ _ _=>(zA (i:=0) (by show List.Nodup (["gap","one"]:List Str); decide) rfl (Or.inl rfl))) (fun _ _ _ _=>zaG) (fun _ _ _ _=>(zw zgi hr (by decide) (zc (pv 0) (zc (pv 1) zf))))))),(zN (ze8 (zaY zd) zk zaH (zL (za zd (za zd zg))))),fun xs S R q=>q⟩
theorem zca (T:Txt mg) (dd:Dds K mg) (ll:Lams K mg) (za5:zb4 P w K mg base) (zcS:zd0 P w K mg base):zen P w K mg base:=by
 exact Df.dN dd.d_counter zfn 2 rfl fun f cdv A outer s H E hr=>⟨_,_,(zj (zd6 (i:=1) (fun _ _ h=>h) rfl (zT (L:=0) rfl rfl rfl rfl (N:=["one"]) (caps:=[none]) (by show zaQ ["job","found","one"] (zn s_counter).names _ _ _ = true; decide +kernel)) zfn.nd rfl rfl (zaX (zw za5 hr (by decide) (zc (pv 0) zf))) (fun _ _ _ _=>(zA (i:=0) (by show List.Nodup (["one"]:List Str); decide) rfl (Or.inl rfl))) (fun _ _ _ _=>(ziZ (zU zhp (pv 0) zew (nomark _)))) (fun _ _ _ _=>(pv 0))) (zj (zbn (zg6 (zc4 (pv 1) (fun _=>rfl))) (zt (zM zew)) zZ) (zj (zE (i:=2) zfn.nd rfl (Or.inl rfl) (zJ (zfa rfl hr.units) (by rfl) T.n_min zhb (zc (pv 1) zf))) (zt (zM (zap (zc (pv 2) (zc (zfG PySem.F.plainAttrs_list PySem.F.slot_list_index PySem.F.type_list_index (zlr hr.units) (zw zcS hr (by decide) (zc (zW zD (pv 0) zh (fun _ _=>rfl)) (zc (pv 2) zf))) (zc zeX zf)) zf)))))))),(zv (zB (za3 (zaY (zL (za zd zg))) zk (zep (zjx zd)) zd) zk) (zv (zbI (ziv (zfy zd)) (zN zn8) zaa) (zv (zB (zam zhE (za zd zg)) zk) (zN (zaq (za zd (za (zqC zml (zL (za (zq zX zd zi) (za zd zg))) (za zfp zg)) zg))))))),fun xs S R q=>q⟩
theorem zat (T:Txt mg) (dd:Dds K mg) (ll:Lams K mg):zb7 P w K mg base:=by
 exact Df.dN dd.d_narrowed_by zeE 1 rfl fun f cdv A outer s H E hr=>⟨_,_,(zj (zd6 (i:=3) (fun _ _ h=>h) rfl (zT (L:=0) rfl rfl rfl rfl (N:=["of_part","number"]) (caps:=[none,none]) (by show zaQ ["drawing","offers","choice","chosen"] (zn s_narrowed_by).names _ _ _ = true; decide +kernel)) zeE.nd rfl rfl (zhr rfl T.n_zip (zc (pv 1) (zc (pv 2) zf))) (fun _ _ _ _=>(zc3 (n:=2) rfl (zQ (zA (i:=0) (by show List.Nodup (["of_part","number"]:List Str); decide) rfl (Or.inl rfl)) (zQ (zA (i:=1) (by show List.Nodup (["of_part","number"]:List Str); decide) rfl (Or.inl rfl)) zbH)))) (fun _ _ _ _=>zaG) (fun _ _ _ _=>(zW zD (pv 0) (pv 1) (fun _ _=>rfl)))) (zt (zM (zas zV (by rfl) T.n_tuple za2 (zc (zbd (fun _ _ h=>h) rfl (zT (L:=0) rfl rfl rfl rfl (N:=["part","offer"]) (caps:=[none,none]) (by show zaQ ["drawing","offers","choice","chosen"] (zn s_narrowed_by).names _ _ _ = true; decide +kernel)) (zhr rfl T.n_zip (zc (pv 0) (zc (pv 3) zf))) (fun _ _ _ _=>(zc3 (n:=2) rfl (zQ (zA (i:=0) (by show List.Nodup (["part","offer"]:List Str); decide) rfl (Or.inl rfl)) (zQ (zA (i:=1) (by show List.Nodup (["part","offer"]:List Str); decide) rfl (Or.inl rfl)) zbH)))) (fun _ _ _ _=>zaG) (fun _ _ _ _=>(zap (zc (zW zD (pv 0) zh (fun _ _=>rfl)) (zc (zW zD (pv 1) zh (fun _ _=>rfl)) (zc (zW zD (pv 1) zh (fun _ _=>rfl)) zf)))))) zf))))),(zv (zB (za3 (zhj (za zd (za zd zg))) (zda (zP zk (zP zk zbJ))) zaH (zq zX zd zd)) zk) (zN (zam za9 (za (za3 (zhj (za zd (za zd zg))) (zda (zP zk (zP zk zbJ))) zaH (zaq (za (zq zX zd zi) (za (zq zX zd zi) (za (zq zX zd zi) zg))))) zg)))),fun xs S R q=>q⟩
theorem zg2 (T:Txt mg) (dd:Dds K mg) (ll:Lams K mg) (zca:zen P w K mg base) (zat:zb7 P w K mg base):zju P w K mg base:=by
 exact Df.dN dd.d_safe zpn 0 rfl fun f cdv A outer s H E hr=>⟨_,_,(zt (zM (zcP zgt (zw zca hr (by decide) (zc (zap (zc (zw zat hr (by decide) (zc (zW zD (pv 0) zh (fun _ _=>rfl)) (zc (pv 1) (zc (pv 2) zf)))) (zc (zW zD (pv 0) zh (fun _ _=>rfl)) zf))) zf)) zew (nomark _)))),(zN (zit (zL (za (zaq (za (zL (za (zq zX zd zi) (za zd (za zd zg)))) (za (zq zX zd zi) zg))) zg)))),fun xs S R q=>q⟩
theorem zay (T:Txt mg) (dd:Dds K mg) (ll:Lams K mg):zcI P w K mg base:=by
 exact Df.dN dd.d_price_of zjc 0 rfl fun f cdv A outer s H E hr=>⟨_,_,(zt (zM (zJ (zh6 rfl) (by rfl) T.n_sum zn4 (zc (zbd (fun _ _ h=>h) rfl (zT (L:=0) rfl rfl rfl rfl (N:=["of_part","number"]) (caps:=[none,none]) (by show zaQ ["offers","choice"] (zn s_price_of).names _ _ _ = true; decide +kernel)) (zhr rfl T.n_zip (zc (pv 0) (zc (pv 1) zf))) (fun _ _ _ _=>(zc3 (n:=2) rfl (zQ (zA (i:=0) (by show List.Nodup (["of_part","number"]:List Str); decide) rfl (Or.inl rfl)) (zQ (zA (i:=1) (by show List.Nodup (["of_part","number"]:List Str); decide) rfl (Or.inl rfl)) zbH)))) (fun _ _ _ _=>zaG) (fun _ _ _ _=>(zW zD (zW zD (pv 0) (pv 1) (fun _ _=>rfl)) zh (fun _ _=>rfl)))) zf)))),(zN (zam zow (za (za3 (zhj (za zd (za zd zg))) (zda (zP zk (zP zk zbJ))) zaH (zq zX (zq zX zd zd) zi)) zg))),fun xs S R q=>q⟩
theorem zcF (T:Txt mg) (dd:Dds K mg) (ll:Lams K mg) (zaO:zbE P w K mg base) (zbi:zdG P w K mg base) (zbM:zde P w K mg base) (zg2:zju P w K mg base) (zay:zcI P w K mg base):zeS P w K mg base:=by
 obtain ⟨c,P',hc,ht⟩:=ll.l_cheapest
 exact zrV dd.d_cheapest hc zfT 1 rfl fun f A outer s H E hr=>⟨_,_,(zj (zcm (zw zaO hr (by decide) (zc (zw zbi hr (by decide) (zc (pv 1) zf)) zf))) (zj (zd6 (i:=2) (fun _ _ h=>h) rfl (zT rfl rfl rfl rfl (N:=["choice","job","offers"]) (caps:=[none,some 0,some 1]) (by show zaQ ["job","offers","found"] (zn s_cheapest).names _ _ _ = true; decide +kernel)) zfT.nd rfl rfl (zaX (zw zbM hr (by decide) (zc (zw zbi hr (by decide) (zc (pv 1) zf)) zf))) (fun _ _ _ _=>(zA (i:=0) (by show List.Nodup (["choice","job","offers"]:List Str); decide) rfl (Or.inl rfl))) (fun _ _ _ _=>(ziZ (zc4 (zw zg2 hr (by decide) (zc (pv 1) (zc (pv 2) (zc (pv 0) zf)))) (fun _=>rfl)))) (fun _ _ _ _=>(pv 0))) (zt (zM (zmP (k:=6) (x:="choice") (caps:=["offers"]) (ks:=[1]) ht rfl rfl rfl rfl rfl rfl (by show ziR ["job","offers","found"] (zn s_cheapest).names _ _ _ _ = true; decide +kernel) rfl (fun _ _ _ _ _=>rfl) hr rfl T.n_min (pv 2) (fun cl f c' s H hr=>(zw zay hr (by decide) (zc (pv 1) (zc (pv 0) zf))))))))),(zv (zco (zL (za (zL (za zd zg)) zg))) (zv (zB (za3 (zaY (zL (za (zL (za zd zg)) zg))) zk (zfy (zL (za zd (za zd (za zd zg))))) zd) zk) (zN (zlt zd (zL (za zd (za zd zg))))))),fun xs S R q=>q⟩
theorem zax (T:Txt mg) (dd:Dds K mg) (ll:Lams K mg) (zr:zaC P w K mg base):zbF P w K mg base:=by
 exact Df.dN dd.d_law_names_of zab 6 rfl fun f cdv A outer s H E hr=>⟨_,_,(zj (zE (i:=1) zab.nd rfl (Or.inr rfl) zeF) (zj (zE (i:=2) zab.nd rfl (Or.inl rfl) (zw zr hr (by decide) (zc (pv 0) (zc zh zf)))) (zj (zE (i:=3) zab.nd rfl (Or.inr rfl) (zw zr hr (by decide) (zc (pv 0) (zc zh zf)))) (zj (zd6 (i:=4) (fun _ _ h=>h) rfl (zT rfl rfl rfl rfl (N:=["k","letters","first"]) (caps:=[none,some 1,some 3]) (by show zaQ ["pen","letters","way","first","names","word","at"] (zn s_law_names_of).names _ _ _ = true; decide +kernel)) zab.nd rfl rfl (zaR rfl T.n_range (zc zh zf)) (fun _ _ _ _=>(zA (i:=0) (by show List.Nodup (["k","letters","first"]:List Str); decide) rfl (Or.inl rfl))) (fun _ _ _ _=>zaG) (fun _ _ _ _=>(zF zbf (zW zD (pv 1) (zF zfw (zF zK (pv 2) (zF zbf zh (pv 0))) zh) (fun _ _=>rfl)) (zF zK zh (zF zfw (zF zK (pv 2) (zF zbf zh (pv 0))) zh))))) (zj (zbn (zU (zce hr.units) (pv 2) zh (nomark _)) (zj (zE (i:=5) zab.nd rfl (Or.inr rfl) (zfG PySem.F.plainAttrs_str PySem.F.slot_str_join PySem.F.type_str_join zqj zeF (zc (zbd (fun _ _ h=>h) rfl (zT rfl rfl rfl rfl (N:=["k","letters","first"]) (caps:=[none,some 1,some 3]) (by show zaQ ["pen","letters","way","first","names","word","at"] (zn s_law_names_of).names _ _ _ = true; decide +kernel)) (zaR rfl T.n_range (zc zh zf)) (fun _ _ _ _=>(zA (i:=0) (by show List.Nodup (["k","letters","first"]:List Str); decide) rfl (Or.inl rfl))) (fun _ _ _ _=>zaG) (fun _ _ _ _=>(zW zD (pv 1) (zF zfw (zF zK (pv 2) (zF zbf zh (pv 0))) zh) (fun _ _=>rfl)))) zf))) (zt (zd6 (i:=4) (fun _ _ h=>h) rfl (zT rfl rfl rfl rfl (N:=["k","word"]) (caps:=[none,some 5]) (by show zaQ ["pen","letters","way","first","names","word","at"] (zn s_law_names_of).names _ _ _ = true; decide +kernel)) zab.nd rfl rfl (zaR rfl T.n_range (zc zh zf)) (fun _ _ _ _=>(zA (i:=0) (by show List.Nodup (["k","word"]:List Str); decide) rfl (Or.inl rfl))) (fun _ _ _ _=>zaG) (fun _ _ _ _=>(zbl zeG (pv 1) zcp (zbC (zF zK (pv 0) zh))))))) zZ) (zj (zbn (zU (zce hr.units) (pv 2) zh (nomark _)) (zt (zE (i:=4) zab.nd rfl (Or.inl rfl) (zaZ (zc zeF (zc zeF (zc zeF (zc zeF (zc zeF (zc zeF (zc zeF (zc zeF zf))))))))))) zZ) (zj (zE (i:=6) zab.nd rfl (Or.inl rfl) (zw zr hr (by decide) (zc (pv 0) (zc zh zf)))) (zj (zE (i:=4) zab.nd rfl (Or.inl rfl) (zF zlk (zbl zeG (pv 4) (zbC (pv 6)) zcp) (zbl zeG (pv 4) zcp (zbC (pv 6))))) (zj (zbn (zU (zce hr.units) (zw zr hr (by decide) (zc (pv 0) (zc zh zf))) zh (nomark _)) (zt (zcm (zri PySem.F.plainAttrs_list PySem.F.slot_list_reverse PySem.F.type_list_reverse zkU (pv 4)))) zZ) (zt (zM (pv 4)))))))))))),(zv (zB zez zk) (zv (zB (zC (i:=0) (za zd (za zi zg))) zk) (zv (zB (zC (i:=0) (za zd (za zi zg))) zk) (zv (zB (ze8 (zbS (za zi zg)) zk zaH (zq zcd (zq zX zd (zq zhN (zq zY zd (zq zcd zi zd)) zi)) (zq zY zi (zq zhN (zq zY zd (zq zcd zi zd)) zi)))) zk) (zv (zbI (zep (zq zch zd zi)) (zv (zB (zrl znE zez (za (za3 (zbS (za zi zg)) zk zaH (zq zX zd (zq zhN (zq zY zd (zq zcd zi zd)) zi))) zg)) zk) (zB (ze8 (zbS (za zi zg)) zk zaH (zfH zeD zd zcu (zct (zq zY zd zi)))) zk)) zaa) (zv (zbI (zep (zq zch zd zi)) (zB (zcs (za zez (za zez (za zez (za zez (za zez (za zez (za zez (za zez zg))))))))) zk) zaa) (zv (zB (zC (i:=0) (za zd (za zi zg))) zk) (zv (zB (zq zpe (zfH zeD zd (zct zd) zcu) (zfH zeD zd zcu (zct zd))) zk) (zv (zbI (zep (zq zch (zC (i:=0) (za zd (za zi zg))) zi)) (zco (zrb zkr zd)) zaa) (zN zd)))))))))),fun xs S R q=>q⟩
theorem zak (T:Txt mg) (dd:Dds K mg) (ll:Lams K mg) (zr:zaC P w K mg base):zbt P w K mg base:=by
 exact Df.dN dd.d_law_number_of zdU 1 rfl fun f cdv A outer s H E hr=>⟨_,_,(zj (zE (i:=1) zdU.nd rfl (Or.inl rfl) (zw zr hr (by decide) (zc (pv 0) (zc zh zf)))) (zj (zbn (zU zih (pv 1) zh (nomark _)) (zt (zM (zF zcY (zw zr hr (by decide) (zc (pv 0) (zc zh zf))) zh))) zZ) (zj (zbn (zU zih (pv 1) zh (nomark _)) (zt (zM (zF zcY (zw zr hr (by decide) (zc (pv 0) (zc zh zf))) zh))) zZ) (zt (zM (zF zbf (zF zcY (zw zr hr (by decide) (zc (pv 0) (zc (zF zbf zh (zF zgU zh zh)) zf))) (zF zgU zh zh)) (zF zgU zh zh))))))),(zv (zB (zC (i:=0) (za zd (za zi zg))) zk) (zv (zbI (zep (zq zdv zd zi)) (zN (zq zeM (zC (i:=0) (za zd (za zi zg))) zi)) zaa) (zv (zbI (zep (zq zdv zd zi)) (zN (zq zeM (zC (i:=0) (za zd (za zi zg))) zi)) zaa) (zN (zq zcd (zq zeM (zC (i:=0) (za zd (za (zq zcd zi (zq zhN zi zi)) zg))) (zq zhN zi zi)) (zq zhN zi zi)))))),fun xs S R q=>q⟩
theorem zf3 (T:Txt mg) (dd:Dds K mg) (ll:Lams K mg) (zax:zbF P w K mg base) (zr:zaC P w K mg base) (zak:zbt P w K mg base):zgZ P w K mg base:=by
 exact Df.dN dd.d_law_few zbW 5 rfl fun f cdv A outer s H E hr=>⟨_,_,(zj (zE (i:=2) zbW.nd rfl (Or.inl rfl) (zw zax hr (by decide) (zc (pv 0) zf))) (zj (zd6 (i:=3) (fun _ _ h=>h) rfl (zT rfl rfl rfl rfl (N:=["k","pen"]) (caps:=[none,some 0]) (by show zaQ ["pen","most","names","wides","drawing","k","low"] (zn s_law_few).names _ _ _ = true; decide +kernel)) zbW.nd rfl rfl (zaR rfl T.n_range (zc (zF zK zh (zw zr hr (by decide) (zc (pv 0) (zc (pv 1) zf)))) zf)) (fun _ _ _ _=>(zA (i:=0) (by show List.Nodup (["k","pen"]:List Str); decide) rfl (Or.inl rfl))) (fun _ _ _ _=>zaG) (fun _ _ _ _=>(zF zK zh (zw zr hr (by decide) (zc (pv 1) (zc zh zf)))))) (zj (zbn (zU (zce hr.units) (zw zr hr (by decide) (zc (pv 0) (zc zh zf))) zh (nomark _)) (zt (zE (i:=3) zbW.nd rfl (Or.inl rfl) (zW zD (zaZ (zc (zF zbf (zaZ (zc zh zf)) zh) (zc (zaZ (zc zh (zc zh zf))) (zc (zaZ (zc zh zf)) (zc (zF zbf (zaZ (zc zh zf)) zh) zf))))) (zw zr hr (by decide) (zc (pv 0) (zc zh zf))) (fun _ _=>rfl)))) zZ) (zj (zE (i:=4) zbW.nd rfl (Or.inl rfl) (zaZ zf)) (zj (zbU PassesOwn.never rfl (zaR rfl T.n_range (zc (zJ zaf (by rfl) T.n_len zbr (zc (pv 3) zf)) zf)) (zA (i:=5) zbW.nd rfl (Or.inl rfl)) (zj (zE (i:=6) zbW.nd rfl (Or.inl rfl) (zw zak hr (by decide) (zc (pv 0) zf))) (zt (zcm (zfG PySem.F.plainAttrs_list PySem.F.slot_list_append PySem.F.type_list_append zbQ (pv 4) (zc (zap (zc (zW zD (pv 2) (pv 5) (fun _ _=>rfl)) (zc (pv 6) (zc (zF zcY (zF zK (pv 6) (zW zD (pv 3) (pv 5) (fun _ _=>rfl))) zh) zf)))) zf)))))) (zt (zM (zas zV (by rfl) T.n_tuple za2 (zc (pv 4) zf))))))))),(zv (zB (zC (i:=0) (za zd zg)) zk) (zv (zB (za3 (zbS (za (zq zY zi (zC (i:=0) (za zd (za zd zg)))) zg)) zk zaH (zq zY zi (zC (i:=0) (za zd (za zi zg))))) zk) (zv (zbI (zep (zq zch (zC (i:=0) (za zd (za zi zg))) zi)) (zB (zq zX (zc5 (za (zq zcd (zc5 (za zi zg)) zi) (za (zc5 (za zi (za zi zg))) (za (zc5 (za zi zg)) (za (zq zcd (zc5 (za zi zg)) zi) zg))))) (zC (i:=0) (za zd (za zi zg)))) zk) zaa) (zv (zB (zcs zg) zk) (zv (zcL (zbS (za (zam zaS (za zd zg)) zg)) zk (zv (zB (zC (i:=0) (za zd zg)) zk) (zco (zgB zci zd (za (zaq (za (zq zX zd zd) (za zd (za (zq zeM (zq zY zd (zq zX zd zd)) zi) zg)))) zg))))) (zN (zam za9 (za zd zg)))))))),fun xs S R q=>q⟩
theorem zdl (T:Txt mg) (dd:Dds K mg) (ll:Lams K mg) (zak:zbt P w K mg base) (zr:zaC P w K mg base):zeQ P w K mg base:=by
 exact Df.dN dd.d_law_span zdC 2 rfl fun f cdv A outer s H E hr=>⟨_,_,(zj (zE (i:=1) zdC.nd rfl (Or.inl rfl) (zw zak hr (by decide) (zc (pv 0) zf))) (zj (zE (i:=2) zdC.nd rfl (Or.inl rfl) (zw zr hr (by decide) (zc (pv 0) (zc zh zf)))) (zj (zbn (zU (zce hr.units) (zw zr hr (by decide) (zc (pv 0) (zc zh zf))) zh (nomark _)) (zt (zE (i:=2) zdC.nd rfl (Or.inl rfl) (zw zr hr (by decide) (zc (pv 0) (zc (zF zgU zh zh) zf))))) zZ) (zt (zM (zap (zc (pv 1) (zc (zF zK (pv 1) (pv 2)) zf)))))))),(zv (zB (zC (i:=0) (za zd zg)) zk) (zv (zB (zC (i:=0) (za zd (za zi zg))) zk) (zv (zbI (zep (zq zch (zC (i:=0) (za zd (za zi zg))) zi)) (zB (zC (i:=0) (za zd (za (zq zhN zi zi) zg))) zk) zaa) (zN (zaq (za zd (za (zq zY zd zd) zg))))))),fun xs S R q=>q⟩
theorem zbw (T:Txt mg) (dd:Dds K mg) (ll:Lams K mg) (zax:zbF P w K mg base) (zr:zaC P w K mg base) (zdl:zeQ P w K mg base):zdi P w K mg base:=by
 exact Df.dN dd.d_law_drawing_of zbg 3 rfl fun f cdv A outer s H E hr=>⟨_,_,(zj (zE (i:=2) zbg.nd rfl (Or.inl rfl) (zw zax hr (by decide) (zc (pv 0) zf))) (zj (zE (i:=3) zbg.nd rfl (Or.inl rfl) (zaZ zf)) (zj (zbU PassesOwn.never rfl (zaR rfl T.n_range (zc (zF zK zh (zw zr hr (by decide) (zc (pv 0) (zc (pv 1) zf)))) zf)) (zA (i:=4) zbg.nd rfl (Or.inl rfl)) (zt (zcm (zfG PySem.F.plainAttrs_list PySem.F.slot_list_append PySem.F.type_list_append zbQ (pv 3) (zc (zF zK (zap (zc (zW zD (pv 2) (pv 4) (fun _ _=>rfl)) zf)) (zw zdl hr (by decide) (zc (pv 0) zf))) zf))))) (zt (zM (zas zV (by rfl) T.n_tuple za2 (zc (pv 3) zf))))))),(zv (zB (zC (i:=0) (za zd zg)) zk) (zv (zB (zcs zg) zk) (zv (zcL (zbS (za (zq zY zi (zC (i:=0) (za zd (za zd zg)))) zg)) zk (zco (zgB zci zd (za (zq zY (zaq (za (zq zX zd zd) zg)) (zC (i:=0) (za zd zg))) zg)))) (zN (zam za9 (za zd zg)))))),fun xs S R q=>q⟩
theorem zds (T:Txt mg) (dd:Dds K mg) (ll:Lams K mg):zeH P w K mg base:=by
 exact Df.dN dd.d_is_whole zjf 0 rfl fun f cdv A outer s H E hr=>⟨_,_,(zt (zM (zkg (zJ zhn (by rfl) T.n_isinstance zdy (zc (pv 0) (zc (ziU rfl T.n_int zo2 (v:=.ty "int") rfl) zf))) (zj2 (zqI (zJ zhn (by rfl) T.n_isinstance zdy (zc (pv 0) (zc (ziU rfl T.n_bool zo3 (v:=.ty "bool") rfl) zf)))))))),(zN (zj5 (zam zmA (za zd (za zsn zg))) (zrH (zam zmA (za zd (za zsn zg)))))),fun xs S R q=>q⟩
theorem zbs (T:Txt mg) (dd:Dds K mg) (ll:Lams K mg) (zds:zeH P w K mg base):zcR P w K mg base:=by
 exact Df.dN dd.d_is_beginning zfY 0 rfl fun f cdv A outer s H E hr=>⟨_,_,(zj (zbn (PW.pt (znC (zg6 (zc4 (zJ zhn (by rfl) T.n_isinstance zdy (zc (pv 1) (zc (ziU rfl T.n_tuple za2 (v:=.ty "tuple") rfl) zf))) (fun _=>rfl))) (zj0 (zU zi8 (zJ zaf (by rfl) T.n_len zbr (zc (pv 1) zf)) (zJ zaf (by rfl) T.n_len zbr (zc (pv 0) zf)) (nomark _))))) (zt (zM zeX)) zZ) (zt (zM (zJ (ziI rfl) (by rfl) T.n_all zor (zc (zbd (fun _ _ h=>h) rfl (zT (L:=0) rfl rfl rfl rfl (N:=["number","size"]) (caps:=[none,none]) (by show zaQ ["sizes","thing"] (zn s_is_beginning).names _ _ _ = true; decide +kernel)) (zhr rfl T.n_zip (zc (pv 1) (zc (pv 0) zf))) (fun _ _ _ _=>(zc3 (n:=2) rfl (zQ (zA (i:=0) (by show List.Nodup (["number","size"]:List Str); decide) rfl (Or.inl rfl)) (zQ (zA (i:=1) (by show List.Nodup (["number","size"]:List Str); decide) rfl (Or.inl rfl)) zbH)))) (fun _ _ _ _=>zaG) (fun _ _ _ _=>(zkg (zw zds hr (by decide) (zc (pv 0) zf)) (zj2 (zjU zn2 zih zh (pv 0) (pv 1)))))) zf))))),(zv (zbI (zq8 (ziv (zfy (zam zmA (za zd (za zsn zg))))) (zep (zq zdv (zam zaS (za zd zg)) (zam zaS (za zd zg))))) (zN zfp) zaa) (zN (zam zol (za (za3 (zhj (za zd (za zd zg))) (zda (zP zk (zP zk zbJ))) zaH (zj5 (zL (za zd zg)) (zjQ zdv zdv zi zd zd))) zg)))),fun xs S R q=>q⟩
theorem zcT (T:Txt mg) (dd:Dds K mg) (ll:Lams K mg) (zbs:zcR P w K mg base) (zbi:zdG P w K mg base):zdY P w K mg base:=by
 exact Df.dN dd.d_is_choice zif 0 rfl fun f cdv A outer s H E hr=>⟨_,_,(zt (zM (zkg (zw zbs hr (by decide) (zc (zw zbi hr (by decide) (zc (pv 0) zf)) (zc (pv 1) zf))) (zj2 (zcP (zce hr.units) (zJ zaf (by rfl) T.n_len zbr (zc (pv 1) zf)) (zJ zaf (by rfl) T.n_len zbr (zc (pv 0) zf)) (nomark _)))))),(zN (zj5 (zL (za (zL (za zd zg)) (za zd zg))) (zq zch (zam zaS (za zd zg)) (zam zaS (za zd zg))))),fun xs S R q=>q⟩
theorem zbq (T:Txt mg) (dd:Dds K mg) (ll:Lams K mg):zcK P w K mg base:=by
 exact Df.dN dd.d_law_narrower zcU 2 rfl fun f cdv A outer s H E hr=>⟨_,_,(zj (zE (i:=2) zcU.nd rfl (Or.inl rfl) (zaZ zf)) (zj (zbU PassesOwn.never rfl (zaR rfl T.n_range (zc (zJ zaf (by rfl) T.n_len zbr (zc (pv 0) zf)) zf)) (zA (i:=3) zcU.nd rfl (Or.inl rfl)) (zt (zbn (zU zih (zF zK (zW zD (pv 1) (pv 3) (fun _ _=>rfl)) zh) (zJ zaf (by rfl) T.n_len zbr (zc (zW zD (pv 0) (pv 3) (fun _ _=>rfl)) zf)) (nomark _)) (zt (zcm (zfG PySem.F.plainAttrs_list PySem.F.slot_list_append PySem.F.type_list_append zbQ (pv 2) (zc (zF zK (zF zK (zbl zeG (pv 1) zcp (zbC (pv 3))) (zap (zc (zF zK (zW zD (pv 1) (pv 3) (fun _ _=>rfl)) zh) zf))) (zbl zeG (pv 1) (zbC (zF zK (pv 3) zh)) zcp)) zf)))) zZ))) (zt (zM (pv 2))))),(zv (zB (zcs zg) zk) (zv (zcL (zbS (za (zam zaS (za zd zg)) zg)) zk (zbI (zep (zq zdv (zq zY (zq zX zd zd) zi) (zam zaS (za (zq zX zd zd) zg)))) (zco (zgB zci zd (za (zq zY (zq zY (zfH zeD zd zcu (zct zd)) (zaq (za (zq zY (zq zX zd zd) zi) zg))) (zfH zeD zd (zct (zq zY zd zi)) zcu)) zg))) zaa)) (zN zd))),fun xs S R q=>q⟩
theorem zcq (T:Txt mg) (dd:Dds K mg) (ll:Lams K mg) (zbq:zcK P w K mg base) (zcT:zdY P w K mg base) (zca:zen P w K mg base) (zat:zb7 P w K mg base) (zay:zcI P w K mg base):zdp P w K mg base:=by
 exact Df.dN dd.d_law_best_right zaV 3 rfl fun f cdv A outer s H E hr=>⟨_,_,(zj (zE (i:=4) zaV.nd rfl (Or.inr rfl) zmZ) (zj (zbU PassesOwn.never rfl (zaX (pv 2)) (zA (i:=5) zaV.nd rfl (Or.inl rfl)) (zt (zpW (zsK hr) (pv 4) (pv 5) zeX rfl))) (zj (zbU PassesOwn.never rfl (zaX (pv 2)) (zA (i:=5) zaV.nd rfl (Or.inl rfl)) (zt (zbn (zg6 (zc4 (zJ (ziI rfl) (by rfl) T.n_all zor (zc (zbd (fun _ _ h=>h) rfl (zT rfl rfl rfl rfl (N:=["other","table"]) (caps:=[none,some 4]) (by show zaQ ["job","offers","good","best","table","choice","last"] (zn s_law_best_right).names _ _ _ = true; decide +kernel)) (zaX (zw zbq hr (by decide) (zc (pv 1) (zc (pv 5) zf)))) (fun _ _ _ _=>(zA (i:=0) (by show List.Nodup (["other","table"]:List Str); decide) rfl (Or.inl rfl))) (fun _ _ _ _=>zaG) (fun _ _ _ _=>(zcP (zqv hr.units) (pv 0) (pv 1) (by rfl)))) zf)) (fun _=>rfl))) (zt (zM zeX)) zZ))) (zj (zE (i:=6) zaV.nd rfl (Or.inl rfl) (zas zV (by rfl) T.n_tuple za2 (zc (zbd (fun _ _ h=>h) rfl (zT rfl rfl rfl rfl (N:=["one"]) (caps:=[none]) (by show zaQ ["job","offers","good","best","table","choice","last"] (zn s_law_best_right).names _ _ _ = true; decide +kernel)) (zaX (pv 1)) (fun _ _ _ _=>(zA (i:=0) (by show List.Nodup (["one"]:List Str); decide) rfl (Or.inl rfl))) (fun _ _ _ _=>zaG) (fun _ _ _ _=>(zF zcY (zJ zaf (by rfl) T.n_len zbr (zc (pv 0) zf)) zh))) zf))) (zj (zbn (PW.pt (znC (zU (zoi hr.units) (zcP zgt (pv 3) zew (nomark _)) (zcP (ziQ hr.units) (pv 6) (pv 4) (by rfl)) (nomark _)) (zj0 (zU (zoi hr.units) (zcP zgt (pv 3) zew (nomark _)) (zcP (zce hr.units) (pv 2) (zaZ zf) (nomark _)) (nomark _))))) (zt (zM zeX)) zZ) (zj (zbn (zU zgt (pv 3) zew (nomark _)) (zt (zM zeX)) zZ) (zj (zbn (PW.pt (znC (zU zpu (zw zcT hr (by decide) (zc (pv 1) (zc (pv 3) zf))) zeX (nomark _)) (zj0 (zU (ziQ hr.units) (pv 3) (pv 4) (by rfl))))) (zt (zM zeX)) zZ) (zj (zbn (zU zhp (zw zca hr (by decide) (zc (zap (zc (zw zat hr (by decide) (zc (zW zD (pv 0) zh (fun _ _=>rfl)) (zc (pv 1) (zc (pv 3) zf)))) (zc (zW zD (pv 0) zh (fun _ _=>rfl)) zf))) zf)) zew (nomark _)) (zt (zM zeX)) zZ) (zt (zM (zcP (zce hr.units) (zJ (zfa rfl hr.units) (by rfl) T.n_min zhb (zc (zbd (fun _ _ h=>h) rfl (zT rfl rfl rfl rfl (N:=["choice","offers"]) (caps:=[none,some 1]) (by show zaQ ["job","offers","good","best","table","choice","last"] (zn s_law_best_right).names _ _ _ = true; decide +kernel)) (zaX (pv 2)) (fun _ _ _ _=>(zA (i:=0) (by show List.Nodup (["choice","offers"]:List Str); decide) rfl (Or.inl rfl))) (fun _ _ _ _=>zaG) (fun _ _ _ _=>(zw zay hr (by decide) (zc (pv 1) (zc (pv 0) zf))))) zf)) (zw zay hr (by decide) (zc (pv 1) (zc (pv 3) zf))) (nomark _)))))))))))),(zpm (zpf (zpH (zhZ (zoO (fun M=>zjA (zaY zd)) zk (zqM (fun M=>(zdK zd)) (fun M=>(zdK zfp)))) (zhZ (zoO (fun M=>zjA (zaY zd)) zk (zqd (fun M=>(zqH (zqz (zsC zol (zpP (zno (zjA (zaY (zL (za zd (za zd zg))))) zk (zjj zaH) (zlZ zlx (zdK zd) (zdK zd))) (zpg zg)))))) (zdZ (zN zfp)) (zdZ zaa))) (zhZ (zdZ (zB (zam za9 (za (za3 (zaY zd) zk zaH (zq zeM (zam zaS (za zd zg)) zi)) zg)) zk)) (zhZ (zqd (fun M=>(zqS (zsR (zsx zoI (zdK (zit zd)) (zlZ zlx (zdK zd) (zdK zd)))) (zjj (zep (zq zoI (zit zd) (zq zch zd (zc5 zg))))))) (zdZ (zN zfp)) (zdZ zaa)) (zhZ (zdZ (zbI (zep (zit zd)) (zN zfp) zaa)) (zqd (fun M=>(zqS (zjj (zep (zq zpK (zL (za zd (za zd zg))) zfp))) (zsR (zlZ zlx (zdK zd) (zdK zd))))) (zdZ (zN zfp)) (zdZ zaa))))))))) (zv (zbI (zep (zjx (zL (za (zaq (za (zL (za (zq zX zd zi) (za zd (za zd zg)))) (za (zq zX zd zi) zg))) zg)))) (zN zfp) zaa) (zN (zq zch (zam zhE (za (za3 (zaY zd) zk zaH (zL (za zd (za zd zg)))) zg)) (zL (za zd (za zd zg))))))),fun xs S R q=>q⟩
theorem zdA (T:Txt mg) (dd:Dds K mg) (ll:Lams K mg):zeB P w K mg base:=by
 exact Df.dN dd.d_law_choices za8 4 rfl fun f cdv A outer s H E hr=>⟨_,_,(zj (zE (i:=1) za8.nd rfl (Or.inl rfl) (zaZ (zc (zap zf) zf))) (zj (zbU PassesOwn.never rfl (zaX (pv 0)) (zA (i:=2) za8.nd rfl (Or.inl rfl)) (zj (zE (i:=3) za8.nd rfl (Or.inl rfl) (zaZ zf)) (zj (zbU PassesOwn.never rfl (zaX (pv 1)) (zA (i:=4) za8.nd rfl (Or.inr rfl)) (zt (zcm (zfG PySem.F.plainAttrs_list PySem.F.slot_list_extend PySem.F.type_list_extend ziB (pv 3) (zc (zbd (fun _ _ h=>h) rfl (zT rfl rfl rfl rfl (N:=["number","ahead"]) (caps:=[none,some 4]) (by show zaQ ["offers","found","some","longer","ahead"] (zn s_law_choices).names _ _ _ = true; decide +kernel)) (zaR rfl T.n_range (zc (zJ zaf (by rfl) T.n_len zbr (zc (pv 2) zf)) zf)) (fun _ _ _ _=>(zA (i:=0) (by show List.Nodup (["number","ahead"]:List Str); decide) rfl (Or.inl rfl))) (fun _ _ _ _=>zaG) (fun _ _ _ _=>(zF zK (pv 1) (zap (zc (pv 0) zf))))) zf))))) (zt (zE (i:=1) za8.nd rfl (Or.inl rfl) (pv 3)))))) (zt (zM (pv 1))))),(zv (zB (zc5 (za (zaq zg) zg)) zk) (zv (zcL (zaY zd) zk (zqN (zv (zrX (zv (zB (zcs zg) zk) (zcL (zaY zd) zk (zco (zgB ziw zd (za (za3 (zbS (za (zam zaS (za zd zg)) zg)) zk zaH (zq zY zd (zaq (za zd zg)))) zg)))))) (zB zd zk)))) (zN zd))),fun xs S R q=>q⟩
theorem zbD (T:Txt mg) (dd:Dds K mg) (ll:Lams K mg) (zcF:zeS P w K mg base) (zay:zcI P w K mg base):zdR P w K mg base:=by
 exact Df.dN dd.d_law_no_dearer zdT 1 rfl fun f cdv A outer s H E hr=>⟨_,_,(zj (zE (i:=5) zdT.nd rfl (Or.inl rfl) (zw zcF hr (by decide) (zc (pv 2) (zc (pv 3) zf)))) (zj (zbn (zU zgt (pv 4) zew (nomark _)) (zt (zM zeX)) zZ) (zt (zM (zkg (zcP zhp (pv 5) zew (nomark _)) (zj2 (zcP zn2 (zw zay hr (by decide) (zc (pv 3) (zc (pv 5) zf))) (zw zay hr (by decide) (zc (pv 1) (zc (pv 4) zf))) (nomark _)))))))),(zv (zB (zL (za zd (za zd zg))) zk) (zv (zbI (zep (zit zd)) (zN zfp) zaa) (zN (zj5 (zjx zd) (zq zdv (zL (za zd (za zd zg))) (zL (za zd (za zd zg)))))))),fun xs S R q=>q⟩
theorem zeJ (T:Txt mg) (dd:Dds K mg) (ll:Lams K mg) (zr:zaC P w K mg base):zfD P w K mg base:=by
 exact Df.dN dd.d_law_wider zcj 4 rfl fun f cdv A outer s H E hr=>⟨_,_,(zj (zE (i:=2) zcj.nd rfl (Or.inl rfl) (zw zr hr (by decide) (zc (pv 1) (zc (zJ zaf (by rfl) T.n_len zbr (zc (pv 0) zf)) zf)))) (zj (zgq (zW zD (zW zD (pv 0) (pv 2) (fun _ _=>rfl)) (zfV zee zh) (fun _ _=>rfl)) (zc3 (n:=3) rfl (zQ (zA (i:=3) zcj.nd rfl (Or.inl rfl)) (zQ (zA (i:=4) zcj.nd rfl (Or.inl rfl)) (zQ (zA (i:=5) zcj.nd rfl (Or.inl rfl)) zbH))))) (zj (zbn (PW.pt (znC (zU (zce hr.units) (zJ zaf (by rfl) T.n_len zbr (zc (zW zD (pv 0) (pv 2) (fun _ _=>rfl)) zf)) zh (nomark _)) (zj0 (zU (zce hr.units) (pv 3) (pv 4) (nomark _))))) (zt (zM (pv 0))) zZ) (zt (zM (zF zK (zF zK (zbl zeG (pv 0) zcp (zbC (pv 2))) (zap (zc (zF zK (zW zD (pv 0) (pv 2) (fun _ _=>rfl)) (zap (zc (zap (zc (zF zK (pv 3) zh) (zc (pv 4) (zc (zF zK (pv 5) zh) zf)))) zf))) zf))) (zbl zeG (pv 0) (zbC (zF zK (pv 2) zh)) zcp))))))),(zv (zB (zC (i:=0) (za zd (za (zam zaS (za zd zg)) zg))) zk) (zv (zB (zq zX (zq zX zd zd) (zgk zmJ zi)) (zda (zP zk (zP zk (zP zk zbJ))))) (zv (zbI (zq8 (zep (zq zch (zam zaS (za (zq zX zd zd) zg)) zi)) (zep (zq zch zd zd))) (zN zd) zaa) (zN (zq zY (zq zY (zfH zeD zd zcu (zct zd)) (zaq (za (zq zY (zq zX zd zd) (zaq (za (zaq (za (zq zY zd zi) (za zd (za (zq zY zd zi) zg)))) zg))) zg))) (zfH zeD zd (zct (zq zY zd zi)) zcu)))))),fun xs S R q=>q⟩
theorem ok_law {f:Addr} {fd:FuncData} (F:Fun K "law" "law" s_law f fd) (T:Txt mg) (dd:Dds K mg) (ll:Lams K mg):FnOk P w K mg base CX0 11 f fd ["script"] (sp1 (zsB K)):=by
 have zdB:=zdB (P:=P) (w:=w) (base:=base) T dd
 have zd3:zfb P w K mg base:=zd3 T dd ll 
 have zcG:zeU P w K mg base:=zcG T dd ll 
 have zr:zaC P w K mg base:=zr T dd ll zcG
 have zcJ:zdQ P w K mg base:=zcJ T dd ll zr
 have zbk:zdd P w K mg base:=zbk T dd ll 
 have zcf:zdF P w K mg base:=zcf T dd ll zr zbk
 have zdJ:zeA P w K mg base:=zdJ T dd ll zr zcf
 have za7:zbV P w K mg base:=za7 T dd ll 
 have zaO:zbE P w K mg base:=zaO T dd ll za7
 have zbi:zdG P w K mg base:=zbi T dd ll 
 have zbR:zdg P w K mg base:=zbR T dd ll 
 have zbM:zde P w K mg base:=zbM T dd ll zbR
 have zcQ:zei P w K mg base:=zcQ T dd ll 
 have ziJ:zi5 P w K mg base:=ziJ T dd ll 
 have zcc:zdx P w K mg base:=zcc T dd ll 
 have zd7:zfl P w K mg base:=zd7 T dd ll 
 have zaI:zb3 P w K mg base:=zaI T dd ll ziJ zcc zd7
 have zbP:zdb P w K mg base:=zbP T dd ll 
 have zan:zby P w K mg base:=zan T dd ll zaI zcQ zbP
 have zdj:zeV P w K mg base:=zdj T dd ll 
 have za5:zb4 P w K mg base:=za5 T dd ll zan zdj
 have zdo:zeK P w K mg base:=zdo T dd ll 
 have zgi:zhx P w K mg base:=zgi T dd ll zdo
 have zcS:zd0 P w K mg base:=zcS T dd ll zgi
 have zca:zen P w K mg base:=zca T dd ll za5 zcS
 have zat:zb7 P w K mg base:=zat T dd ll 
 have zg2:zju P w K mg base:=zg2 T dd ll zca zat
 have zay:zcI P w K mg base:=zay T dd ll 
 have zcF:zeS P w K mg base:=zcF T dd ll zaO zbi zbM zg2 zay
 have zax:zbF P w K mg base:=zax T dd ll zr
 have zak:zbt P w K mg base:=zak T dd ll zr
 have zf3:zgZ P w K mg base:=zf3 T dd ll zax zr zak
 have zdl:zeQ P w K mg base:=zdl T dd ll zak zr
 have zbw:zdi P w K mg base:=zbw T dd ll zax zr zdl
 have zds:zeH P w K mg base:=zds T dd ll 
 have zbs:zcR P w K mg base:=zbs T dd ll zds
 have zcT:zdY P w K mg base:=zcT T dd ll zbs zbi
 have zbq:zcK P w K mg base:=zbq T dd ll 
 have zcq:zdp P w K mg base:=zcq T dd ll zbq zcT zca zat zay
 have zdA:zeB P w K mg base:=zdA T dd ll 
 have zbD:zdR P w K mg base:=zbD T dd ll zcF zay
 have zeJ:zfD P w K mg base:=zeJ T dd ll zr
 refine F.ok1 zcX (fun v=>[some v,none,none,none,none,none,none,none,none,none]) (fun _=>rfl) fun cdv A outer s H v Q E hr h=>?_
 obtain ⟨a,ns,rfl,hS,hlen,q⟩:=h
 refine ⟨_,(zj (zbU PassesOwn.never rfl (zpL (zF zlk (zaZ (zc (zqT zdB hr (by decide) (pv 0) zh) zf)) (zbl zli (pv 0) (zbC zh) (zbC zh)))) (zA (i:=1) zcX.nd rfl (Or.inl rfl)) (zj (zE (i:=2) zcX.nd rfl (Or.inr rfl) (zw zd3 hr (by decide) (zc (pv 1) zf))) (zj (zE (i:=3) zcX.nd rfl (Or.inl rfl) (znm (zU (zce hr.units) (zw zr hr (by decide) (zc (pv 2) (zc zh zf))) zh (nomark _)) (zw zf3 hr (by decide) (zc (pv 2) (zc zh zf))) (zw zbw hr (by decide) (zc (pv 2) (zc zh zf))))) (zj (zE (i:=3) zcX.nd rfl (Or.inl rfl) (zbl zlb (pv 3) zcp (zbC zh))) (zj (zbn (zU (zce hr.units) (zw zr hr (by decide) (zc (pv 2) (zc zh zf))) zh (nomark _)) (zt (zE (i:=3) zcX.nd rfl (Or.inl rfl) (zw zbw hr (by decide) (zc (pv 2) (zc zh zf))))) zZ) (zj (zE (i:=4) zcX.nd rfl (Or.inr rfl) (zw zcJ hr (by decide) (zc (pv 2) (zc (pv 3) zf)))) (zj (zbn (zU zi8 (zJ zaf (by rfl) T.n_len zbr (zc (pv 3) zf)) zh (nomark _)) (zt (zE (i:=4) zcX.nd rfl (Or.inr rfl) (zas zV (by rfl) T.n_tuple za2 (zc (zbd (fun _ _ h=>h) rfl (zT rfl rfl rfl rfl (N:=["one"]) (caps:=[none]) (by show zaQ ["script","cell","pen","drawing","offers","gaps","some","job","good","best"] (zn s_law).names _ _ _ = true; decide +kernel)) (zaX (pv 4)) (fun _ _ _ _=>(zA (i:=0) (by show List.Nodup (["one"]:List Str); decide) rfl (Or.inl rfl))) (fun _ _ _ _=>zaG) (fun _ _ _ _=>(zbl (znD (K:=K) rfl) (pv 0) zcp (zbC zh)))) zf)))) zZ) (zj (zE (i:=5) zcX.nd rfl (Or.inl rfl) (zw zdJ hr (by decide) (zc (pv 2) (zc (pv 3) (zc zh zf))))) (zj (zbn (zU zi8 (zw zr hr (by decide) (zc (pv 2) (zc zh zf))) zh (nomark _)) (zj (zE (i:=6) zcX.nd rfl (Or.inr rfl) (zw zat hr (by decide) (zc (pv 3) (zc (pv 4) (zc (zas zV (by rfl) T.n_tuple za2 (zc (zbd (fun _ _ h=>h) rfl (zT rfl rfl rfl rfl (N:=["one","pen"]) (caps:=[none,some 2]) (by show zaQ ["script","cell","pen","drawing","offers","gaps","some","job","good","best"] (zn s_law).names _ _ _ = true; decide +kernel)) (zaX (pv 4)) (fun _ _ _ _=>(zA (i:=0) (by show List.Nodup (["one","pen"]:List Str); decide) rfl (Or.inl rfl))) (fun _ _ _ _=>zaG) (fun _ _ _ _=>(zw zr hr (by decide) (zc (pv 1) (zc (zJ (zmg (K:=K) rfl) (by rfl) T.n_len zbr (zc (pv 0) zf)) zf))))) zf)) zf))))) (zt (zE (i:=5) zcX.nd rfl (Or.inl rfl) (zas zV (by rfl) T.n_tuple za2 (zc (zbd (fun _ _ h=>h) rfl (zT rfl rfl rfl rfl (N:=["gap","some"]) (caps:=[none,some 6]) (by show zaQ ["script","cell","pen","drawing","offers","gaps","some","job","good","best"] (zn s_law).names _ _ _ = true; decide +kernel)) (zaX (pv 5)) (fun _ _ _ _=>(zA (i:=0) (by show List.Nodup (["gap","some"]:List Str); decide) rfl (Or.inl rfl))) (fun _ _ _ _=>zaG) (fun _ _ _ _=>(zF (zpt (K:=K) rfl) (zap (zc (zW (zlD (K:=K) rfl) (pv 0) zh (fun _ _=>rfl)) zf)) (zw zbk hr (by decide) (zc (pv 1) (zc (zW (zlD (K:=K) rfl) (pv 0) zh (fun _ _=>rfl)) zf)))))) zf))))) zZ) (zj (zE (i:=7) zcX.nd rfl (Or.inr rfl) (zap (zc (pv 3) (zc (pv 5) zf)))) (zj (zd6 (i:=8) (fun _ _ h=>h) rfl (zT rfl rfl rfl rfl (N:=["choice","job","offers"]) (caps:=[none,some 7,some 4]) (by show zaQ ["script","cell","pen","drawing","offers","gaps","some","job","good","best"] (zn s_law).names _ _ _ = true; decide +kernel)) zcX.nd rfl rfl (zaX (zw zdA hr (by decide) (zc (pv 4) zf))) (fun _ _ _ _=>(zA (i:=0) (by show List.Nodup (["choice","job","offers"]:List Str); decide) rfl (Or.inl rfl))) (fun _ _ _ _=>(ziZ (zlu (K:=K) (zw zg2 hr (by decide) (zc (pv 1) (zc (pv 2) (zc (pv 0) zf)))) (fun _=>rfl) rfl))) (fun _ _ _ _=>(pv 0))) (zj (zE (i:=9) zcX.nd rfl (Or.inl rfl) (zw zcF hr (by decide) (zc (pv 7) (zc (pv 4) zf)))) (zj (zbn (zg6 (zc4 (zw zcq hr (by decide) (zc (pv 7) (zc (pv 4) (zc (pv 8) (zc (pv 9) zf))))) (fun _=>rfl))) (zt (zM zeX)) zZ) (zj (zbn (PW.pt (zj6 (zU zi8 (zJ zaf (by rfl) T.n_len zbr (zc (pv 5) zf)) zh (nomark _)) (zhu (zg6 (zc4 (zw zbD hr (by decide) (zc (pv 7) (zc (pv 4) (zc (zap (zc (pv 3) (zc (zbl zeG (pv 5) (zbC zh) zcp) zf))) (zc (pv 4) (zc (pv 9) zf)))))) (fun _=>rfl)))))) (zt (zM zeX)) zZ) (zt (zbn (PW.pt (zj6 (zU zih (zJ zaf (by rfl) T.n_len zbr (zc (pv 3) zf)) zh (nomark _)) (zhu (zg6 (zc4 (zw zbD hr (by decide) (zc (pv 7) (zc (pv 4) (zc (pv 7) (zc (zw zeJ hr (by decide) (zc (pv 4) (zc (pv 2) zf))) (zc (pv 9) zf)))))) (fun _=>rfl)))))) (zt (zM zeX)) zZ)))))))))))))))) (zt (zM zeX))),?_⟩
 exact zp9 (m:=9) (db:=zpJ) (zv (zB (zL (za zd zg)) zk) (zv (zB (zsv (zep (zq zch (zC (i:=0) (za zd (za zi zg))) zi)) (zC (i:=0) (za zd (za zi zg))) (zC (i:=0) (za zd (za zi zg)))) zk) (zv (zB (zfH zmO zd zcu (zct zi)) zk) (zv (zbI (zep (zq zch (zC (i:=0) (za zd (za zi zg))) zi)) (zB (zC (i:=0) (za zd (za zi zg))) zk) zaa) (zv (zB (zC (i:=0) (za zd (za zd zg))) zk) (zv (zbI (zep (zq zdv (zam zaS (za zd zg)) zi)) (zB (zam za9 (za (za3 (zaY zd) zk zaH (zfH zmO zd zcu (zct zi))) zg)) zk) zaa) (zv (zB (zC (i:=0) (za zd (za zd (za zi zg)))) zk) (zv (zbI (zep (zq zdv (zC (i:=0) (za zd (za zi zg))) zi)) (zv (zB (zL (za zd (za zd (za (zam za9 (za (za3 (zaY zd) zk zaH (zC (i:=0) (za zd (za (zam zaS (za zd zg)) zg)))) zg)) zg)))) zk) (zB (zam za9 (za (za3 (zaY zd) zk zaH (zq zY (zaq (za (zq zX zd zi) zg)) (zL (za zd (za (zq zX zd zi) zg))))) zg)) zk)) zaa) (zv (zB (zaq (za zd (za zd zg))) zk) (zv (zB (za3 (zaY (zL (za zd zg))) zk (zfy (zL (za zd (za zd (za zd zg))))) zd) zk) (zv (zB (zL (za zd (za zd zg))) zk) (zv (zbI (ziv (zfy (zL (za zd (za zd (za zd (za zd zg))))))) (zN zfp) zaa) (zv (zbI (zjH (zep (zq zdv (zam zaS (za zd zg)) zi)) (ziv (zfy (zL (za zd (za zd (za (zaq (za zd (za (zfH zeD zd (zct zi) zcu) zg))) (za zd (za zd zg))))))))) (zN zfp) zaa) (zbI (zjH (zep (zq zdv (zam zaS (za zd zg)) zi)) (ziv (zfy (zL (za zd (za zd (za zd (za (zC (i:=1) (za zd (za zd zg))) (za zd zg))))))))) (zN zfp) zaa)))))))))))))) rfl rfl hS hlen (fun n=>ziV a n) (by decide) fun _ H2 _=>q H2
end
end My
theorem zfe:L2.tabsG = [((177,175),L2.lamKey (("cheapest" ++ ".<locals>.") ++ "<lambda>") ⟨90,26,0,0⟩)]:=rfl
namespace PySem.W.Fast
def tw4939690908619093105:Unit:=()
def tw2189292274443032875:Unit:=()
def tw1136292008298985236:Unit:=()
def tw17717151663949115558:Unit:=()
def tw4193213866647240188:Unit:=()
def tw16387172084346140743:Unit:=()
def tw8899296803275803297:Unit:=()
def tw7338316020675949673:Unit:=()
def tw8664939534453971439:Unit:=()
def tw18397776577960800422:Unit:=()
def tw5716756815947086056:Unit:=()
def tw16741805916629535353:Unit:=()
def tw17922226842427306993:Unit:=()
def tw5157325223117534612:Unit:=()
def tw1228783669296584454:Unit:=()
def tw18180367264163008213:Unit:=()
def tw2233102558867801004:Unit:=()
def tw6576500916662799712:Unit:=()
def tw7293991067601534351:Unit:=()
def tw12109055907093731146:Unit:=()
def tw10865248706945825290:Unit:=()
def tw15963549148131108457:Unit:=()
def tw1856288791123305013:Unit:=()
def tw7288735077348529799:Unit:=()
def tw12180874096906118475:Unit:=()
def tw9222629028707256059:Unit:=()
def tw13290291946718114795:Unit:=()
def tw14656135070333657319:Unit:=()
def tw9181380810251881960:Unit:=()
def tw398598358459125378:Unit:=()
def tw4327287554193140156:Unit:=()
def tw10743851699654173728:Unit:=()
def tw17712921514091040141:Unit:=()
def tw15954411664682228881:Unit:=()
def tw12361593884612849672:Unit:=()
def tw1955803834513700103:Unit:=()
def tw13593747211766674584:Unit:=()
def tw6724644184874644515:Unit:=()
def tw6953992919588438711:Unit:=()
def tw9814616819814958911:Unit:=()
def tw15201293127222692781:Unit:=()
def tw4269469149361128371:Unit:=()
def tw3628912426642759168:Unit:=()
def tw1871109842226537156:Unit:=()
def tw9594311576104928577:Unit:=()
def tw3512726683921318151:Unit:=()
def tw4327645642991843764:Unit:=()
def tw12292964208619813270:Unit:=()
def tw10256691016747901620:Unit:=()
def tw168667386918406685:Unit:=()
def tw13852517394056929582:Unit:=()
def tw17915910561214701310:Unit:=()
def tw6071245408585767560:Unit:=()
def tw4014395575877132271:Unit:=()
def tw7806042905429759470:Unit:=()
def tw2700465313473477231:Unit:=()
def tw17205786983826093844:Unit:=()
def tw16562347953320852377:Unit:=()
def tw13483393170239988473:Unit:=()
def tw10462364594939181739:Unit:=()
def tw17404343829528776067:Unit:=()
def tw4382093244368644036:Unit:=()
def tw16505689965342630163:Unit:=()
def tw16405856280548724152:Unit:=()
def tw13297896885425955682:Unit:=()
def tw17254950681053453281:Unit:=()
def tw4959566873773853622:Unit:=()
def tw12655902342206762561:Unit:=()
def tw14384057783406236748:Unit:=()
def tw14465586933325533289:Unit:=()
def tw7159206815196810548:Unit:=()
def tw12671801276798412618:Unit:=()
def tw3317380153052542764:Unit:=()
def tw4969538764599178759:Unit:=()
def tw15903602363071515329:Unit:=()
def tw5320808158976251494:Unit:=()
def tw15827146479826026180:Unit:=()
def tw13674523203394077225:Unit:=()
def tw2101843537047000962:Unit:=()
def tw9570132106355849279:Unit:=()
def tw7083239035949210880:Unit:=()
def tw18324740818722372280:Unit:=()
def tw3387252962354363823:Unit:=()
def tw11061892595312553051:Unit:=()
def tw10902444368283438535:Unit:=()
def tw8545908378647514172:Unit:=()
def tw415199841000538153:Unit:=()
def tw15607251313032354409:Unit:=()
def tw11404611792983731420:Unit:=()
def tw18384213585122923447:Unit:=()
def tw688355173825897576:Unit:=()
def tw3630553509138288523:Unit:=()
def tw4715987786605169903:Unit:=()
def tw8621575888636552066:Unit:=()
def tw14447543848688330957:Unit:=()
def tw13404753881102836640:Unit:=()
def tw17378068563007727094:Unit:=()
def tw6751627184289178307:Unit:=()
def tw16742250187702026735:Unit:=()
def tw8558702293095717043:Unit:=()
def tw10650128824158385261:Unit:=()
def tw10767975379527449206:Unit:=()
def tw6056830761355257041:Unit:=()
def tw8026427721929225387:Unit:=()
def tw9462758353251698925:Unit:=()
def tw4192533765742834350:Unit:=()
def tw10291780740360044440:Unit:=()
def tw1838199022829537368:Unit:=()
def tw10154241994499598395:Unit:=()
def tw1238481581242295675:Unit:=()
def tw13995278248397645301:Unit:=()
def tw872856352709416102:Unit:=()
def tw8747264283136376701:Unit:=()
def tw14484530708788015815:Unit:=()
def tw11360609345712567518:Unit:=()
def tw2154502857953070134:Unit:=()
def tw15038397139579619571:Unit:=()
def tw6549102726408412280:Unit:=()
def tw3554681102652034556:Unit:=()
def tw8262219718035741911:Unit:=()
def tw15555816665241395390:Unit:=()
def tw12029899798762581335:Unit:=()
def tw6479595450859938827:Unit:=()
def tw1884307254073386566:Unit:=()
def tw9971550652344872680:Unit:=()
def tw17231555599318436110:Unit:=()
end PySem.W.Fast
open PySem PySem.W PyProof.Rows L2
set_option maxRecDepth 100000 in
set_option maxHeartbeats 0 in
theorem PySem.Challenge.cw_gaugewright_k41_whole_narrower_is_safer_holds : PySem.Challenge.rw_gaugewright_k41_whole_narrower_is_safer.Holds := by
 w_on; o_law; k_head; (case hw=>w_witness2)
 k_fill
 refine L2.walk_law (l := PySem.Challenge.rw_gaugewright_k41_whole_narrower_is_safer) (k := 11) rfl rfl ⟨rfl, by decide, by decide⟩ (fun w h Y => PySem.W.km_in_of Y) ?TT ?F
 case TT =>
  intro w h Y
  have KX:=PySem.W.km_in_of Y
  have t8:=PySem.W.km_tabs_of Y
  refine ⟨?nd,?hd,?em,?of⟩
  case nd=>rw [zfe]; exact List.nodup_cons.mpr ⟨by simp,List.nodup_nil⟩
  case hd=>rw [zfe]; exact List.forall_mem_cons.mpr ⟨PySem.W.codeHd_of_K (c:=177) (P:=175) KX (by kernel_rfl),fun _ h=>nomatch h⟩
  case em=>rw [zfe]; exact List.forall_mem_cons.mpr ⟨t8 175 (by k_mem),fun _ h=>nomatch h⟩
  case of=>rw [zfe]; exact List.forall_mem_cons.mpr ⟨(by kernel_rfl),fun _ h=>nomatch h⟩
 case F =>
  intro w mg fa h KX G hmg
  have d_law_cell_at:Dd (L2.KOf KX) mg "_law_cell_at" My.s_law_cell_at ["script","k"]:=by
   dsimp only [L2.KOf]
   refine' Dd.mk' KX G ?a ?l ?c ?k ?b
   (case a=>k_is); (case l=>k_is); (case c=>k_is); (case k=>k_is); (case b=>intro _ _ _ _ _ _ us hl; obtain ⟨_,_,rfl⟩:=L2.len2 hl; rfl)
  have d_law_pen_of:Dd (L2.KOf KX) mg "_law_pen_of" My.s_law_pen_of ["cell"]:=by
   dsimp only [L2.KOf]
   refine' Dd.mk' KX G ?a ?l ?c ?k ?b
   (case a=>k_is); (case l=>k_is); (case c=>k_is); (case k=>k_is); (case b=>intro _ _ _ _ _ _ us hl; obtain ⟨_,rfl⟩:=L2.len1 hl; rfl)
  have d_law_next:Dd (L2.KOf KX) mg "_law_next" My.s_law_next ["seed"]:=by
   dsimp only [L2.KOf]
   refine' Dd.mk' KX G ?a ?l ?c ?k ?b
   (case a=>k_is); (case l=>k_is); (case c=>k_is); (case k=>k_is); (case b=>intro _ _ _ _ _ _ us hl; obtain ⟨_,rfl⟩:=L2.len1 hl; rfl)
  have d_law_draw:Dd (L2.KOf KX) mg "_law_draw" My.s_law_draw ["pen","many"]:=by
   dsimp only [L2.KOf]
   refine' Dd.mk' KX G ?a ?l ?c ?k ?b
   (case a=>k_is); (case l=>k_is); (case c=>k_is); (case k=>k_is); (case b=>intro _ _ _ _ _ _ us hl; obtain ⟨_,_,rfl⟩:=L2.len2 hl; rfl)
  have d_law_offers_of:Dd (L2.KOf KX) mg "_law_offers_of" My.s_law_offers_of ["pen","drawing"]:=by
   dsimp only [L2.KOf]
   refine' Dd.mk' KX G ?a ?l ?c ?k ?b
   (case a=>k_is); (case l=>k_is); (case c=>k_is); (case k=>k_is); (case b=>intro _ _ _ _ _ _ us hl; obtain ⟨_,_,rfl⟩:=L2.len2 hl; rfl)
  have d_law_ends_of:Dd (L2.KOf KX) mg "_law_ends_of" My.s_law_ends_of ["drawing","terms"]:=by
   dsimp only [L2.KOf]
   refine' Dd.mk' KX G ?a ?l ?c ?k ?b
   (case a=>k_is); (case l=>k_is); (case c=>k_is); (case k=>k_is); (case b=>intro _ _ _ _ _ _ us hl; obtain ⟨_,_,rfl⟩:=L2.len2 hl; rfl)
  have d_law_gap_of:Dd (L2.KOf KX) mg "_law_gap_of" My.s_law_gap_of ["pen","drawing"]:=by
   dsimp only [L2.KOf]
   refine' Dd.mk' KX G ?a ?l ?c ?k ?b
   (case a=>k_is); (case l=>k_is); (case c=>k_is); (case k=>k_is); (case b=>intro _ _ _ _ _ _ us hl; obtain ⟨_,_,rfl⟩:=L2.len2 hl; rfl)
  have d_law_gaps_of:Dd (L2.KOf KX) mg "_law_gaps_of" My.s_law_gaps_of ["pen","drawing","most"]:=by
   dsimp only [L2.KOf]
   refine' Dd.mk' KX G ?a ?l ?c ?k ?b
   (case a=>k_is); (case l=>k_is); (case c=>k_is); (case k=>k_is); (case b=>intro _ _ _ _ _ _ us hl; obtain ⟨_,_,_,rfl⟩:=L2.len3 hl; rfl)
  have d_choices_behind:Dd (L2.KOf KX) mg "choices_behind" My.s_choices_behind ["sizes","beginning"]:=by
   dsimp only [L2.KOf]
   refine' Dd.mk' KX G ?a ?l ?c ?k ?b
   (case a=>k_is); (case l=>k_is); (case c=>k_is); (case k=>k_is); (case b=>intro _ _ _ _ _ _ us hl; obtain ⟨_,_,rfl⟩:=L2.len2 hl; rfl)
  have d_refuse_too_many:Dd (L2.KOf KX) mg "refuse_too_many" My.s_refuse_too_many ["sizes"]:=by
   dsimp only [L2.KOf]
   refine' Dd.mk' KX G ?a ?l ?c ?k ?b
   (case a=>k_is); (case l=>k_is); (case c=>k_is); (case k=>k_is); (case b=>intro _ _ _ _ _ _ us hl; obtain ⟨_,rfl⟩:=L2.len1 hl; rfl)
  have d_sizes_of:Dd (L2.KOf KX) mg "sizes_of" My.s_sizes_of ["offers"]:=by
   dsimp only [L2.KOf]
   refine' Dd.mk' KX G ?a ?l ?c ?k ?b
   (case a=>k_is); (case l=>k_is); (case c=>k_is); (case k=>k_is); (case b=>intro _ _ _ _ _ _ us hl; obtain ⟨_,rfl⟩:=L2.len1 hl; rfl)
  have d_each_longer:Dd (L2.KOf KX) mg "each_longer" My.s_each_longer ["beginnings","numbers"]:=by
   dsimp only [L2.KOf]
   refine' Dd.mk' KX G ?a ?l ?c ?k ?b
   (case a=>k_is); (case l=>k_is); (case c=>k_is); (case k=>k_is); (case b=>intro _ _ _ _ _ _ us hl; obtain ⟨_,_,rfl⟩:=L2.len2 hl; rfl)
  have d_all_choices:Dd (L2.KOf KX) mg "all_choices" My.s_all_choices ["sizes"]:=by
   dsimp only [L2.KOf]
   refine' Dd.mk' KX G ?a ?l ?c ?k ?b
   (case a=>k_is); (case l=>k_is); (case c=>k_is); (case k=>k_is); (case b=>intro _ _ _ _ _ _ us hl; obtain ⟨_,rfl⟩:=L2.len1 hl; rfl)
  have d_first_set:Dd (L2.KOf KX) mg "first_set" My.s_first_set ["drawing"]:=by
   dsimp only [L2.KOf]
   refine' Dd.mk' KX G ?a ?l ?c ?k ?b
   (case a=>k_is); (case l=>k_is); (case c=>k_is); (case k=>k_is); (case b=>intro _ _ _ _ _ _ us hl; obtain ⟨_,rfl⟩:=L2.len1 hl; rfl)
  have d_plus:Dd (L2.KOf KX) mg "plus" My.s_plus ["one","other"]:=by
   dsimp only [L2.KOf]
   refine' Dd.mk' KX G ?a ?l ?c ?k ?b
   (case a=>k_is); (case l=>k_is); (case c=>k_is); (case k=>k_is); (case b=>intro _ _ _ _ _ _ us hl; obtain ⟨_,_,rfl⟩:=L2.len2 hl; rfl)
  have d_multiplied:Dd (L2.KOf KX) mg "multiplied" My.s_multiplied ["one","by"]:=by
   dsimp only [L2.KOf]
   refine' Dd.mk' KX G ?a ?l ?c ?k ?b
   (case a=>k_is); (case l=>k_is); (case c=>k_is); (case k=>k_is); (case b=>intro _ _ _ _ _ _ us hl; obtain ⟨_,_,rfl⟩:=L2.len2 hl; rfl)
  have d_span_of:Dd (L2.KOf KX) mg "span_of" My.s_span_of ["part"]:=by
   dsimp only [L2.KOf]
   refine' Dd.mk' KX G ?a ?l ?c ?k ?b
   (case a=>k_is); (case l=>k_is); (case c=>k_is); (case k=>k_is); (case b=>intro _ _ _ _ _ _ us hl; obtain ⟨_,rfl⟩:=L2.len1 hl; rfl)
  have d_reach_of_terms:Dd (L2.KOf KX) mg "reach_of_terms" My.s_reach_of_terms ["drawing","terms"]:=by
   dsimp only [L2.KOf]
   refine' Dd.mk' KX G ?a ?l ?c ?k ?b
   (case a=>k_is); (case l=>k_is); (case c=>k_is); (case k=>k_is); (case b=>intro _ _ _ _ _ _ us hl; obtain ⟨_,_,rfl⟩:=L2.len2 hl; rfl)
  have d_quotient_up:Dd (L2.KOf KX) mg "quotient_up" My.s_quotient_up ["number","by"]:=by
   dsimp only [L2.KOf]
   refine' Dd.mk' KX G ?a ?l ?c ?k ?b
   (case a=>k_is); (case l=>k_is); (case c=>k_is); (case k=>k_is); (case b=>intro _ _ _ _ _ _ us hl; obtain ⟨_,_,rfl⟩:=L2.len2 hl; rfl)
  have d_first_no_greater:Dd (L2.KOf KX) mg "first_no_greater" My.s_first_no_greater ["drawing","terms","most"]:=by
   dsimp only [L2.KOf]
   refine' Dd.mk' KX G ?a ?l ?c ?k ?b
   (case a=>k_is); (case l=>k_is); (case c=>k_is); (case k=>k_is); (case b=>intro _ _ _ _ _ _ us hl; obtain ⟨_,_,_,rfl⟩:=L2.len3 hl; rfl)
  have d_opposite:Dd (L2.KOf KX) mg "opposite" My.s_opposite ["terms"]:=by
   dsimp only [L2.KOf]
   refine' Dd.mk' KX G ?a ?l ?c ?k ?b
   (case a=>k_is); (case l=>k_is); (case c=>k_is); (case k=>k_is); (case b=>intro _ _ _ _ _ _ us hl; obtain ⟨_,rfl⟩:=L2.len1 hl; rfl)
  have d_first_breakers:Dd (L2.KOf KX) mg "first_breakers" My.s_first_breakers ["job"]:=by
   dsimp only [L2.KOf]
   refine' Dd.mk' KX G ?a ?l ?c ?k ?b
   (case a=>k_is); (case l=>k_is); (case c=>k_is); (case k=>k_is); (case b=>intro _ _ _ _ _ _ us hl; obtain ⟨_,rfl⟩:=L2.len1 hl; rfl)
  have d_worth_of:Dd (L2.KOf KX) mg "worth_of" My.s_worth_of ["gap","one"]:=by
   dsimp only [L2.KOf]
   refine' Dd.mk' KX G ?a ?l ?c ?k ?b
   (case a=>k_is); (case l=>k_is); (case c=>k_is); (case k=>k_is); (case b=>intro _ _ _ _ _ _ us hl; obtain ⟨_,_,rfl⟩:=L2.len2 hl; rfl)
  have d_keeps:Dd (L2.KOf KX) mg "keeps" My.s_keeps ["gap","one"]:=by
   dsimp only [L2.KOf]
   refine' Dd.mk' KX G ?a ?l ?c ?k ?b
   (case a=>k_is); (case l=>k_is); (case c=>k_is); (case k=>k_is); (case b=>intro _ _ _ _ _ _ us hl; obtain ⟨_,_,rfl⟩:=L2.len2 hl; rfl)
  have d_kept_gaps:Dd (L2.KOf KX) mg "kept_gaps" My.s_kept_gaps ["gaps","one"]:=by
   dsimp only [L2.KOf]
   refine' Dd.mk' KX G ?a ?l ?c ?k ?b
   (case a=>k_is); (case l=>k_is); (case c=>k_is); (case k=>k_is); (case b=>intro _ _ _ _ _ _ us hl; obtain ⟨_,_,rfl⟩:=L2.len2 hl; rfl)
  have d_counter:Dd (L2.KOf KX) mg "counter" My.s_counter ["job"]:=by
   dsimp only [L2.KOf]
   refine' Dd.mk' KX G ?a ?l ?c ?k ?b
   (case a=>k_is); (case l=>k_is); (case c=>k_is); (case k=>k_is); (case b=>intro _ _ _ _ _ _ us hl; obtain ⟨_,rfl⟩:=L2.len1 hl; rfl)
  have d_narrowed_by:Dd (L2.KOf KX) mg "narrowed_by" My.s_narrowed_by ["drawing","offers","choice"]:=by
   dsimp only [L2.KOf]
   refine' Dd.mk' KX G ?a ?l ?c ?k ?b
   (case a=>k_is); (case l=>k_is); (case c=>k_is); (case k=>k_is); (case b=>intro _ _ _ _ _ _ us hl; obtain ⟨_,_,_,rfl⟩:=L2.len3 hl; rfl)
  have d_safe:Dd (L2.KOf KX) mg "safe" My.s_safe ["job","offers","choice"]:=by
   dsimp only [L2.KOf]
   refine' Dd.mk' KX G ?a ?l ?c ?k ?b
   (case a=>k_is); (case l=>k_is); (case c=>k_is); (case k=>k_is); (case b=>intro _ _ _ _ _ _ us hl; obtain ⟨_,_,_,rfl⟩:=L2.len3 hl; rfl)
  have d_price_of:Dd (L2.KOf KX) mg "price_of" My.s_price_of ["offers","choice"]:=by
   dsimp only [L2.KOf]
   refine' Dd.mk' KX G ?a ?l ?c ?k ?b
   (case a=>k_is); (case l=>k_is); (case c=>k_is); (case k=>k_is); (case b=>intro _ _ _ _ _ _ us hl; obtain ⟨_,_,rfl⟩:=L2.len2 hl; rfl)
  have d_cheapest:Dd (L2.KOf KX) mg "cheapest" My.s_cheapest ["job","offers"]:=by
   dsimp only [L2.KOf]
   refine' Dd.mk' KX G ?a ?l ?c ?k ?b
   (case a=>k_is); (case l=>k_is); (case c=>k_is); (case k=>k_is); (case b=>intro _ _ _ _ _ _ us hl; obtain ⟨_,_,rfl⟩:=L2.len2 hl; rfl)
  have d_law_names_of:Dd (L2.KOf KX) mg "_law_names_of" My.s_law_names_of ["pen"]:=by
   dsimp only [L2.KOf]
   refine' Dd.mk' KX G ?a ?l ?c ?k ?b
   (case a=>k_is); (case l=>k_is); (case c=>k_is); (case k=>k_is); (case b=>intro _ _ _ _ _ _ us hl; obtain ⟨_,rfl⟩:=L2.len1 hl; rfl)
  have d_law_number_of:Dd (L2.KOf KX) mg "_law_number_of" My.s_law_number_of ["pen"]:=by
   dsimp only [L2.KOf]
   refine' Dd.mk' KX G ?a ?l ?c ?k ?b
   (case a=>k_is); (case l=>k_is); (case c=>k_is); (case k=>k_is); (case b=>intro _ _ _ _ _ _ us hl; obtain ⟨_,rfl⟩:=L2.len1 hl; rfl)
  have d_law_few:Dd (L2.KOf KX) mg "_law_few" My.s_law_few ["pen","most"]:=by
   dsimp only [L2.KOf]
   refine' Dd.mk' KX G ?a ?l ?c ?k ?b
   (case a=>k_is); (case l=>k_is); (case c=>k_is); (case k=>k_is); (case b=>intro _ _ _ _ _ _ us hl; obtain ⟨_,_,rfl⟩:=L2.len2 hl; rfl)
  have d_law_span:Dd (L2.KOf KX) mg "_law_span" My.s_law_span ["pen"]:=by
   dsimp only [L2.KOf]
   refine' Dd.mk' KX G ?a ?l ?c ?k ?b
   (case a=>k_is); (case l=>k_is); (case c=>k_is); (case k=>k_is); (case b=>intro _ _ _ _ _ _ us hl; obtain ⟨_,rfl⟩:=L2.len1 hl; rfl)
  have d_law_drawing_of:Dd (L2.KOf KX) mg "_law_drawing_of" My.s_law_drawing_of ["pen","most"]:=by
   dsimp only [L2.KOf]
   refine' Dd.mk' KX G ?a ?l ?c ?k ?b
   (case a=>k_is); (case l=>k_is); (case c=>k_is); (case k=>k_is); (case b=>intro _ _ _ _ _ _ us hl; obtain ⟨_,_,rfl⟩:=L2.len2 hl; rfl)
  have d_is_whole:Dd (L2.KOf KX) mg "is_whole" My.s_is_whole ["thing"]:=by
   dsimp only [L2.KOf]
   refine' Dd.mk' KX G ?a ?l ?c ?k ?b
   (case a=>k_is); (case l=>k_is); (case c=>k_is); (case k=>k_is); (case b=>intro _ _ _ _ _ _ us hl; obtain ⟨_,rfl⟩:=L2.len1 hl; rfl)
  have d_is_beginning:Dd (L2.KOf KX) mg "is_beginning" My.s_is_beginning ["sizes","thing"]:=by
   dsimp only [L2.KOf]
   refine' Dd.mk' KX G ?a ?l ?c ?k ?b
   (case a=>k_is); (case l=>k_is); (case c=>k_is); (case k=>k_is); (case b=>intro _ _ _ _ _ _ us hl; obtain ⟨_,_,rfl⟩:=L2.len2 hl; rfl)
  have d_is_choice:Dd (L2.KOf KX) mg "is_choice" My.s_is_choice ["offers","thing"]:=by
   dsimp only [L2.KOf]
   refine' Dd.mk' KX G ?a ?l ?c ?k ?b
   (case a=>k_is); (case l=>k_is); (case c=>k_is); (case k=>k_is); (case b=>intro _ _ _ _ _ _ us hl; obtain ⟨_,_,rfl⟩:=L2.len2 hl; rfl)
  have d_law_narrower:Dd (L2.KOf KX) mg "_law_narrower" My.s_law_narrower ["offers","choice"]:=by
   dsimp only [L2.KOf]
   refine' Dd.mk' KX G ?a ?l ?c ?k ?b
   (case a=>k_is); (case l=>k_is); (case c=>k_is); (case k=>k_is); (case b=>intro _ _ _ _ _ _ us hl; obtain ⟨_,_,rfl⟩:=L2.len2 hl; rfl)
  have d_law_best_right:Dd (L2.KOf KX) mg "_law_best_right" My.s_law_best_right ["job","offers","good","best"]:=by
   dsimp only [L2.KOf]
   refine' Dd.mk' KX G ?a ?l ?c ?k ?b
   (case a=>k_is); (case l=>k_is); (case c=>k_is); (case k=>k_is); (case b=>intro _ _ _ _ _ _ us hl; obtain ⟨_,_,_,_,rfl⟩:=L2.len4 hl; rfl)
  have d_law_choices:Dd (L2.KOf KX) mg "_law_choices" My.s_law_choices ["offers"]:=by
   dsimp only [L2.KOf]
   refine' Dd.mk' KX G ?a ?l ?c ?k ?b
   (case a=>k_is); (case l=>k_is); (case c=>k_is); (case k=>k_is); (case b=>intro _ _ _ _ _ _ us hl; obtain ⟨_,rfl⟩:=L2.len1 hl; rfl)
  have d_law_no_dearer:Dd (L2.KOf KX) mg "_law_no_dearer" My.s_law_no_dearer ["job","offers","other","more","best"]:=by
   dsimp only [L2.KOf]
   refine' Dd.mk' KX G ?a ?l ?c ?k ?b
   (case a=>k_is); (case l=>k_is); (case c=>k_is); (case k=>k_is); (case b=>intro _ _ _ _ _ _ us hl; obtain ⟨_,_,_,_,_,rfl⟩:=L2.len5 hl; rfl)
  have d_law_wider:Dd (L2.KOf KX) mg "_law_wider" My.s_law_wider ["offers","pen"]:=by
   dsimp only [L2.KOf]
   refine' Dd.mk' KX G ?a ?l ?c ?k ?b
   (case a=>k_is); (case l=>k_is); (case c=>k_is); (case k=>k_is); (case b=>intro _ _ _ _ _ _ us hl; obtain ⟨_,_,rfl⟩:=L2.len2 hl; rfl)
  have d_law:Dd (L2.KOf KX) mg "law" My.s_law ["script"]:=by
   dsimp only [L2.KOf]
   refine' Dd.mk' KX G ?a ?l ?c ?k ?b
   (case a=>k_is); (case l=>k_is); (case c=>k_is); (case k=>k_is); (case b=>intro _ _ _ _ _ _ us hl; obtain ⟨_,rfl⟩:=L2.len1 hl; rfl)
  have g13:∃ t,mg "MOST_CHOICES" = some (.int 300 t):=by
   apply Exists.intro
   apply PySem.W.mg_of KX G
   k_is
  have T:My.Txt mg:=by
   refine' ⟨PySem.W.mg_none_of KX G ?z0,PySem.W.mg_none_of KX G ?z1,PySem.W.mg_none_of KX G ?z2,PySem.W.mg_none_of KX G ?z3,PySem.W.mg_none_of KX G ?z4,PySem.W.mg_none_of KX G ?z5,PySem.W.mg_none_of KX G ?z6,PySem.W.mg_none_of KX G ?z7,PySem.W.mg_none_of KX G ?z8,PySem.W.mg_none_of KX G ?z9,PySem.W.mg_none_of KX G ?z10,PySem.W.mg_none_of KX G ?z11,PySem.W.mg_none_of KX G ?z12,g13⟩
   (case z0=>k_is); (case z1=>k_is); (case z2=>k_is); (case z3=>k_is); (case z4=>k_is); (case z5=>k_is); (case z6=>k_is); (case z7=>k_is); (case z8=>k_is); (case z9=>k_is); (case z10=>k_is); (case z11=>k_is); (case z12=>k_is)
  have dd:My.Dds (L2.KOf KX) mg:=⟨d_law_cell_at,d_law_pen_of,d_law_next,d_law_draw,d_law_offers_of,d_law_ends_of,d_law_gap_of,d_law_gaps_of,d_choices_behind,d_refuse_too_many,d_sizes_of,d_each_longer,d_all_choices,d_first_set,d_plus,d_multiplied,d_span_of,d_reach_of_terms,d_quotient_up,d_first_no_greater,d_opposite,d_first_breakers,d_worth_of,d_keeps,d_kept_gaps,d_counter,d_narrowed_by,d_safe,d_price_of,d_cheapest,d_law_names_of,d_law_number_of,d_law_few,d_law_span,d_law_drawing_of,d_is_whole,d_is_beginning,d_is_choice,d_law_narrower,d_law_best_right,d_law_choices,d_law_no_dearer,d_law_wider⟩
  obtain ⟨f,fd,F,hm,_⟩:=d_law.ex
  have e0:=hmg.symm.trans hm
  cases e0
  have ll:My.Lams (L2.KOf KX) mg:=⟨⟨177,175,L2.CodeAt.of (P:=175) KX G (by dsimp only [L2.KOf]; kernel_rfl),by rw [zfe]; exact List.mem_cons_self⟩⟩
  exact ⟨fd,F.bind1 fun _ _ _ _ _ _ _=>rfl,fun base _ _=>My.ok_law F T dd ll⟩
#print axioms PySem.Challenge.cw_gaugewright_k41_whole_narrower_is_safer_holds
end