import PyProof.Rows.All
import Wide.All
import OpenK.AllK
import Wide.FinOn
import Lean
import PyProof.EqAt
import PyProof.EqKinds
import PyProof.TupleCall
import KE.KTupSum
import KE.KSortTup
import PyProof.SetKind
import PyProof.SetRoads
import PyProof.SetNew
import PyProof.DictKinds
import PyProof.NsDelKeeps
import PyProof.StrWalks
import KE.KEqDict
import KE.KDictList
import PyProof.AttrMissSeq
import PyProof.WalksMore
import KE.KDictOf
import PyProof.Rows.Range3
import KE.KItemsList
import PyProof.FactsAll.dict_3
import KE.KMinKey
import PyProof.Rows.CallKwBuiltin
import PyProof.TupleOfSeq
import PySem.Challenge.RW_gaugewright_k68_bars_held
set_option Elab.async false
set_option linter.all false
set_option maxRecDepth 100000
set_option maxHeartbeats 8000000
noncomputable section
namespace L2
open PySem PySem.Spec PyProof.Rows
section
abbrev Key:=Sum Int Str
def zkc:Key->Value->Bool
 | .inl k,v=>Value.isInt k v
 | .inr x,v=>Value.isStrOf x v
def zs9 (w:World):Key->Int
 | .inl k=>hashInt k
 | .inr x=>hashStr w x
theorem zbf:∀ {k:Key} {v:Value},zkc k v = true->(∃ i t,k = Sum.inl i/\v = Value.int i t)\/(∃ x t,k = Sum.inr x/\v = Value.str x t)
 | .inl i,v,h=>by
  obtain ⟨t,e⟩:=Value.isInt_shape (k:=i) (v:=v) h
  exact .inl ⟨i,t,rfl,e⟩
 | .inr x,v,h=>by
  obtain ⟨t,e⟩:=Value.isStrOf_shape (x:=x) (v:=v) h
  exact .inr ⟨x,t,rfl,e⟩
theorem zlj (i:Int) (t:Tok):zkc (.inl i) (.int i t) = true:=by simp [zkc,Value.isInt]
theorem zlw (x:Str) (t:Tok):zkc (.inr x) (.str x t) = true:=by simp [zkc,Value.isStrOf]
theorem zry (a b:Int):decide ((Sum.inl a:Key) = Sum.inl b) = (a == b):=by
 by_cases e:a = b
 ·subst e; simp
 ·have h:¬ (Sum.inl a:Key) = Sum.inl b:=fun q=>e (Sum.inl.inj q)
  rw [decide_eq_false h]
  exact (beq_eq_false_iff_ne.mpr e).symm
theorem zq4 (a b:Str):decide ((Sum.inr a:Key) = Sum.inr b) = decide (a = b):=by
 by_cases e:a = b
 ·subst e; simp
 ·have h:¬ (Sum.inr a:Key) = Sum.inr b:=fun q=>e (Sum.inr.inj q)
  rw [decide_eq_false h,decide_eq_false e]
theorem zrc (a:Int) (b:Str):decide ((Sum.inl a:Key) = Sum.inr b) = false:=decide_eq_false (fun q=>nomatch q)
theorem zru (a:Str) (b:Int):decide ((Sum.inr a:Key) = Sum.inl b) = false:=decide_eq_false (fun q=>nomatch q)
def zcn (prog:Program) (w:World):PySem.KeyKind prog w Key where
 is:=zkc
 hash:=zs9 w
 inj:=fun v a b ha hb=>by
  rcases zbf ha with ⟨i,t,rfl,rfl⟩ | ⟨x,t,rfl,rfl⟩
  ·rcases zbf hb with ⟨j,u,rfl,e⟩ | ⟨y,u,rfl,e⟩
   ·injection e with e1 _; rw [e1]
   ·exact nomatch e
  ·rcases zbf hb with ⟨j,u,rfl,e⟩ | ⟨y,u,rfl,e⟩
   ·exact nomatch e
   ·injection e with e1 _; rw [e1]
 byValue:=fun k v h=>by
  rcases zbf h with ⟨i,t,rfl,rfl⟩ | ⟨x,t,rfl,rfl⟩ <;> rfl
 pyHash:=fun hv h=>by
  rcases zbf hv with ⟨i,t,rfl,rfl⟩ | ⟨x,t,rfl,rfl⟩
  ·exact wpAny_pyHash_int h
  ·exact wpAny_pyHash_str h
 eqBool:=fun hu hv h=>by
  rcases zbf hu with ⟨i,t,rfl,rfl⟩ | ⟨x,t,rfl,rfl⟩
  ·rcases zbf hv with ⟨j,u,rfl,rfl⟩ | ⟨y,u,rfl,rfl⟩
   ·rw [zry] at h; exact wpAny_eqBool_int h
   ·rw [zrc] at h; exact SeqAt.EqAt.int_str i t y u _ _ _ _ h
  ·rcases zbf hv with ⟨j,u,rfl,rfl⟩ | ⟨y,u,rfl,rfl⟩
   ·rw [zru] at h; exact SeqAt.EqAt.str_int x t j u _ _ _ _ h
   ·rw [zq4] at h; exact wpAny_eqBool_str h
 «strs»:=fun k x t v h=>by
  rcases zbf h with ⟨i,u,rfl,e⟩ | ⟨y,u,rfl,e⟩
  ·exact nomatch e
  ·injection e with e1 _
   subst e1
   cases v <;> rfl
theorem zjg (prog:Program) (w:World) (i:Int) (t:Tok):(zcn prog w).is (.inl i) (.int i t) = true:=zlj i t
theorem zjd (prog:Program) (w:World) (x:Str) (t:Tok):(zcn prog w).is (.inr x) (.str x t) = true:=zlw x t
end
section
inductive V where
 | non | bl (b:Bool) | int (i:Int) | str (x:Str) | byt (b:Array UInt8) | flt (b:UInt64) | ref (a:Addr) | ty (n:String)
 deriving DecidableEq
def RelV:V->Value->Prop
 | .non,u=>u = Value.none
 | .bl b,u=>u = Value.bool b
 | .int i,u=>∃ t,u = Value.int i t
 | .str x,u=>∃ t,u = Value.str x t
 | .byt b,u=>∃ t,u = Value.bytes b t
 | .flt b,u=>∃ t,u = Value.float b t
 | .ref a,u=>u = Value.ref a
 | .ty n,u=>u = Value.type n
abbrev Vals:List V->List Value->Prop:=Paired RelV
theorem Vals.length {xs:List V} {us:List Value} (r:Vals xs us):xs.length = us.length:=Paired.length r
theorem Vals.get:∀ {xs:List V} {us:List Value} {i:Nat} {x:V},Vals xs us->xs[i]? = some x->∃ u,us[i]? = some u/\RelV x u
 | _,_,_,_,.nil,e=>by simp at e
 | _,_,0,_,.cons r _,e=>by simp at e; subst e; exact ⟨_,rfl,r⟩
 | _,_,i + 1,x,.cons _ t,e=>by
  obtain ⟨u,h1,h2⟩:=Vals.get (i:=i) (x:=x) t (by simpa using e)
  exact ⟨u,by simpa using h1,h2⟩
theorem Vals.set {x:V} {u:Value} (r:RelV x u):∀ {xs:List V} {us:List Value} (i:Nat),Vals xs us->Vals (xs.set i x) (us.set i u)
 | _,_,_,.nil=>.nil
 | _,_,0,.cons _ t=>.cons r t
 | _,_,i + 1,.cons q t=>.cons q (Vals.set r i t)
theorem Vals.append:∀ {xs ys:List V} {us ws:List Value},Vals xs us->Vals ys ws->Vals (xs ++ ys) (us ++ ws)
 | _,_,_,_,.nil,s=>s
 | _,_,_,_,.cons r t,s=>.cons r (Vals.append t s)
theorem Vals.take:∀ {xs:List V} {us:List Value} (n:Nat),Vals xs us->Vals (xs.take n) (us.take n)
 | _,_,0,_=>.nil
 | _,_,_ + 1,.nil=>.nil
 | _,_,n + 1,.cons r t=>.cons r (Vals.take n t)
theorem Vals.drop:∀ {xs:List V} {us:List Value} (n:Nat),Vals xs us->Vals (xs.drop n) (us.drop n)
 | _,_,0,r=>r
 | _,_,_ + 1,.nil=>.nil
 | _,_,n + 1,.cons _ t=>Vals.drop n t
def RelO:Option V->Option Value->Prop
 | some v,some u=>RelV v u
 | none,none=>True
 | _,_=>False
def KV {κ:Type}:List (κ × V)->List (κ × Value)->Prop:=Paired fun (p:κ × V) (q:κ × Value)=>p.1 = q.1/\RelV p.2 q.2
def kV:Key->V
 | .inl i=>.int i
 | .inr x=>.str x
inductive HO where
 | lst (xs:List V)
 | tup (xs:List V)
 | dK (kvs:List (Key × V)) | dT (kvs:List (List Key × V))
 | set (S:Int->Bool) (n:Nat)
 | ins (C dx:Addr) (fs:List (Str × V))
 | own (x:Addr)
 | xd (fs:List (Str × V))
 | met (f x:Addr)
 | rng (lo hi:Int)
 | frz (o:Obj) (u:HO)
 | tbl (ps:Array Value)
 | ext (φ:Heap->Prop)
abbrev Hp:=Addr->Option HO
def upd (H:Hp) (a:Addr) (o:HO):Hp:=fun b=>if b = a then some o else H b
theorem zaW {H:Hp} {a:Addr} {o:HO}:upd H a o a = some o:=by unfold upd; rw [if_pos rfl]
theorem zae {H:Hp} {a b:Addr} {o:HO} (h:b ≠ a):upd H a o b = H b:=by unfold upd; rw [if_neg h]
theorem zo4 {H:Hp} {a:Addr} {o u:HO}:upd (upd H a o) a u = upd H a u:=by
 funext b; unfold upd; split <;> rfl
theorem zr5 {H:Hp} {a b:Addr} {o u:HO} (h:H a = some o) (h':H b = some u) (d:o ≠ u):a ≠ b:=by
 intro e; subst e; rw [h] at h'; exact d (Option.some.inj h')
theorem zan {H:Hp} {a b:Addr} {o:HO} (h:H a = some o) (h':H b = none):a ≠ b:=by
 intro e; subst e; rw [h] at h'; cases h'
def TblOk (H:Hp) (ps qs:Array Value):Prop:=qs = #[]\/∃ (l c:Value) (q:Str) (t:Tok) (k:Addr) (oc:Obj) (vs:Array Value) (t':Tok),ps = #[l,c,.str q t]/\qs = #[l,c,.ref k]/\H k = some (.frz oc (.own 0))/\oc.data = .fields vs/\vs[1]? = some (.str q t')
theorem TblOk.stay {H H':Hp} {ps qs:Array Value} (x:TblOk H ps qs) (hf:∀ b o u,H b = some (.frz o u)->H' b = some (.frz o u)):TblOk H' ps qs:=by
 rcases x with x | ⟨l,c,q,t,k,oc,vs,t',e1,e2,e3,r⟩
 ·exact .inl x
 ·exact .inr ⟨l,c,q,t,k,oc,vs,t',e1,e2,hf _ _ _ e3,r⟩
section
variable (P:Program) (w:World)
def ObjOk (H:Hp) (h:Heap) (a:Addr):HO->Prop
 | .lst xs=>xs.length <= sizeLine/\∃ (its:List Value) (n:Nat),Vals xs its/\h.get? a = some { cls:=.type "list",data:=.seq its.toArray n }
 | .tup xs=>(xs.length <= sizeLine/\∃ o:Obj,h.get? a = some o/\o.dict = none)/\∃ its:List Value,Vals xs its/\IsTup h a its.toArray
 | .dK kvs=>kvs.length <= sizeLine/\(a == sysModules) = false/\∃ vs,KV kvs vs/\h.DictOf (zcn P w) a vs
 | .dT kvs=>kvs.length <= sizeLine/\(a == sysModules) = false/\∃ xs:List (List Key × Addr × Value),
   Paired (fun (p:List Key × V) (q:List Key × Addr × Value)=>p.1 = q.1/\H q.2.1 = some (.tup (p.1.map kV))/\RelV p.2 q.2.2) kvs xs /\
   ∃ o es ep,h.get? a = some o/\o.ExactDict/\o.data = .dict es ep/\es.toList = xs.map (entryOfKey (tupleKind (zcn P w)))/\(xs.map (·.1)).Nodup
 | .set S n=>h.SetOf (intKind P w) a S n
 | .ins C dx fs=>H dx = some (.own a)/\fs.length <= 1000/\dx ≠ a/\h.get? a = some (PySem.W.instObj C dx) /\
   ∃ mA,h.Ns1 dx mA/\(∀ f,RelO (fs.lookup f) (mA f))/\PySem.Within mA (fs.map (·.1))
 | .own _=>∃ o,h.get? a = some o
 | .xd fs=>∃ mA,h.Ns1 a mA/\∀ f,RelO (fs.lookup f) (mA f)
 | .rng lo hi=>∃ t u v,h.get? a = some { cls:=.type "range",data:=.fields #[.int lo t,.int hi u,.int 1 v] }
 | .frz o u=>h.get? a = some o/\ObjOk H h a u
 | .tbl ps=>∃ qs:Array Value,h.get? a = some { cls:=.none,data:=.fields qs }/\TblOk H ps qs
 | .met f x=>h.get? a = some (PySem.W.methodObj (.ref f) (.ref x))
 | .ext φ=>φ h/\(∃ o,h.get? a = some o)/\∀ h1 h2:Heap,φ h1->(∀ o,h1.get? a = some o->h2.get? a = some o)->φ h2
def HOk (H:Hp) (h:Heap):Prop:=∀ a o,H a = some o->ObjOk P w H h a o
end
section
variable {P:Program} {w:World} {H H':Hp} {h h':Heap} {a:Addr} {o:HO}
theorem ObjOk.lt (x:ObjOk P w H h a o):a < h.objs.size:=by
 cases o with
 | lst xs=>obtain ⟨_,_,_,_,e⟩:=x; exact Heap.lt_size e
 | tup xs=>obtain ⟨_,_,_,p⟩:=x; exact p.lt
 | dK kvs=>obtain ⟨_,_,_,_,o,_,_,e,_⟩:=x; exact Heap.lt_size e
 | dT kvs=>obtain ⟨_,_,_,_,o,_,_,e,_⟩:=x; exact Heap.lt_size e
 | set S n=>obtain ⟨o,_,_,_,e,_⟩:=x; exact Heap.lt_size e
 | ins C dx fs=>obtain ⟨_,_,_,e,_⟩:=x; exact Heap.lt_size e
 | own y=>obtain ⟨_,e⟩:=x; exact Heap.lt_size e
 | xd fs=>obtain ⟨_,⟨_,_,_,e,_⟩,_⟩:=x; exact Heap.lt_size e
 | rng lo hi=>obtain ⟨_,_,_,e⟩:=x; exact Heap.lt_size e
 | frz ob u=>obtain ⟨e,_⟩:=x; exact Heap.lt_size e
 | tbl ps=>obtain ⟨_,e,_⟩:=x; exact Heap.lt_size e
 | met f y=>exact Heap.lt_size (show h.get? a = some _ from x)
 | ext φ=>obtain ⟨_,⟨_,e⟩,_⟩:=x; exact Heap.lt_size e
theorem Paired.mapP {α β:Type} {F G:α->β->Prop}:∀ {l₁:List α} {l₂:List β},Paired F l₁ l₂->(∀ a b,F a b->G a b)->Paired G l₁ l₂
 | _,_,.nil,_=>.nil
 | _,_,.cons r t,f=>.cons (f _ _ r) (Paired.mapP t f)
theorem ObjOk.stay (x:ObjOk P w H h a o) (k:∀ b u,(b = a\/H b = some (.own a))->h.get? b = some u->h'.get? b = some u)
  (ho:∀ b,H b = some (.own a)->H' b = some (.own a)) (ht:∀ b xs,H b = some (.tup xs)->H' b = some (.tup xs))
  (hf:∀ b o u,H b = some (.frz o u)->H' b = some (.frz o u):=by first | exact fun _ _ _ q=>q | (intro b o u q; rw [zae (zan q (by assumption))]; exact q)):ObjOk P w H' h' a o:=by
 induction o with
 | lst xs=>obtain ⟨z,its,n,r,e⟩:=x; exact ⟨z,its,n,r,k _ _ (.inl rfl) e⟩
 | tup xs=>obtain ⟨⟨z,o2,e2,d2⟩,its,r,ob,e,c⟩:=x; exact ⟨⟨z,o2,k _ _ (.inl rfl) e2,d2⟩,its,r,ob,k _ _ (.inl rfl) e,c⟩
 | dK kvs=>obtain ⟨z,y,vs,r,ob,es,ep,e,c⟩:=x; exact ⟨z,y,vs,r,ob,es,ep,k _ _ (.inl rfl) e,c⟩
 | dT kvs =>
  obtain ⟨z,y,xs,r,ob,es,ep,e,c⟩:=x
  exact ⟨z,y,xs,Paired.mapP r fun p q z=>⟨z.1,ht _ _ z.2.1,z.2.2⟩,ob,es,ep,k _ _ (.inl rfl) e,c⟩
 | set S n=>obtain ⟨ob,es,ep,t,e,c⟩:=x; exact ⟨ob,es,ep,t,k _ _ (.inl rfl) e,c⟩
 | ins C dx fs =>
  obtain ⟨d,z,ne,e,mA,⟨od,es,ep,e2,c⟩,r⟩:=x
  exact ⟨ho _ d,z,ne,k _ _ (.inl rfl) e,mA,⟨od,es,ep,k _ _ (.inr d) e2,c⟩,r⟩
 | own y=>obtain ⟨ob,e⟩:=x; exact ⟨ob,k _ _ (.inl rfl) e⟩
 | xd fs=>obtain ⟨mA,⟨od,es,ep,e,c⟩,r⟩:=x; exact ⟨mA,⟨od,es,ep,k _ _ (.inl rfl) e,c⟩,r⟩
 | rng lo hi=>obtain ⟨t,u,v,e⟩:=x; exact ⟨t,u,v,k _ _ (.inl rfl) e⟩
 | frz ob u ih=>obtain ⟨e,q⟩:=x; exact ⟨k _ _ (.inl rfl) e,ih q⟩
 | tbl ps =>
  obtain ⟨qs,e,q⟩:=x
  exact ⟨qs,k a _ (.inl rfl) e,q.stay hf⟩
 | met f y =>
  have e:h.get? a = some (PySem.W.methodObj (.ref f) (.ref y)):=x
  show h'.get? a = some (PySem.W.methodObj (.ref f) (.ref y))
  exact k a _ (.inl rfl) e
 | ext φ=>obtain ⟨p,⟨o,e⟩,st⟩:=x; exact ⟨st _ _ p fun o q=>k _ _ (.inl rfl) q,⟨o,k _ _ (.inl rfl) e⟩,st⟩
theorem HOk.lt (x:HOk P w H h) (e:H a = some o):a < h.objs.size:=(x a o e).lt
theorem HOk.fresh (x:HOk P w H h) (e:h.objs.size <= a):H a = none:=by
 cases q:H a with
 | none=>rfl
 | some u=>exact absurd (Nat.lt_of_lt_of_le (x.lt q) e) (Nat.lt_irrefl _)
theorem HOk.kept (x:HOk P w H h) (k:∀ b u,h.get? b = some u->h'.get? b = some u):HOk P w H h':=fun a o e =>
 (x a o e).stay (fun b u _ q=>k b u q) (fun _ q=>q) fun _ _ q=>q
theorem HOk.laid (x:HOk P w H h) (k:∀ b u,h.get? b = some u->h'.get? b = some u) (hp:h.objs.size <= a) (new:ObjOk P w (upd H a o) h' a o):HOk P w (upd H a o) h':=fun b u e=>by
 have hn:=x.fresh hp
 by_cases hb:b = a
 ·subst hb; rw [zaW] at e; cases e; exact new
 ·rw [zae hb] at e
  exact (x b u e).stay (fun c v _ q=>k c v q) (fun c q=>by rw [zae (zan q hn)]; exact q) fun c xs q=>by rw [zae (zan q hn)]; exact q
end
def Rd (H:Hp) (a:Addr) (u:HO):Prop:=H a = some u\/∃ o,H a = some (.frz o u)
theorem Rd.ok {P:Program} {w:World} {H:Hp} {h:Heap} {a:Addr} {u:HO} (r:Rd H a u) (x:HOk P w H h):ObjOk P w H h a u:=by
 rcases r with r | ⟨o,r⟩
 ·exact x a u r
 ·obtain ⟨_,q⟩:=x a _ r
  exact q
def Mut:Option HO->Prop
 | some (.lst _)=>True
 | some (.dK _)=>True
 | some (.dT _)=>True
 | some (.set _ _)=>True
 | some (.ins _ _ _)=>True
 | some (.ext _)=>True
 | _=>False
section
variable {P:Program} {w:World} {H:Hp} {h h':Heap} {x e:Addr} {o':HO}
theorem HOk.write (ok:HOk P w H h) (mu:Mut (H x)) (he:e = x\/H e = some (.own x)) (k:∀ b u,b ≠ e->h.get? b = some u->h'.get? b = some u) (heo:∃ u,h'.get? e = some u)
  (new:ObjOk P w (upd H x o') h' x o'):HOk P w (upd H x o') h':=fun b u q=>by
 have nown:∀ c y,H c = some (.own y)->c ≠ x:=fun c y r z=>by subst z; rw [r] at mu; exact mu
 have ntup:∀ c xs,H c = some (.tup xs)->c ≠ x:=fun c xs r z=>by subst z; rw [r] at mu; exact mu
 have nfrz:∀ c o u,H c = some (.frz o u)->c ≠ x:=fun c o u r z=>by subst z; rw [r] at mu; exact mu
 by_cases hb:b = x
 ·subst hb; rw [zaW] at q; cases q; exact new
 ·rw [zae hb] at q
  by_cases hbe:b = e
  ·have q':H b = some (.own x):=by
    rcases he with z | z
    ·exact absurd (hbe.trans z) hb
    ·rw [hbe]; exact z
   rw [q] at q'; cases q'
   obtain ⟨v,hv⟩:=heo
   exact ⟨v,by rw [hbe]; exact hv⟩
  ·refine (ok b u q).stay (fun c v hc r=>k c v ?_ r) (fun c r=>by rw [zae (nown c b r)]; exact r) (fun c xs r=>by rw [zae (ntup c xs r)]; exact r) fun c o u r=>by rw [zae (nfrz c o u r)]; exact r
   rcases hc with rfl | hc
   ·exact hbe
   ·rintro rfl
    rcases he with z | z
    ·exact nown c b hc z
    ·rw [hc] at z; cases z; exact hb rfl
end
structure Un (fs ex:List Addr) (H H':Hp) (h h':Heap):Prop where
 keep:∀ b o,h.get? b = some o->H b = none->b ∉ fs->b ∉ ex->h'.get? b = some o
 slot:∀ b o,h.get? b = some o->H b = none->b ∈ fs->b ∉ ex->∃ sl,h'.get? b = some { o with slots:=sl }
 free:∀ b o,h.get? b = some o->H b = none->b ∉ ex->H' b = none
 there:∀ b o,h.get? b = some o->b ∉ ex->∃ o',h'.get? b = some o'
 tups:∀ b xs,H b = some (.tup xs)->H' b = some (.tup xs)
 frzs:∀ b o u,H b = some (.frz o u)->H' b = some (.frz o u)
 tbls:∀ b ps,H b = some (.tbl ps)->∃ more,H' b = some (.tbl (ps ++ more))
section
variable {fs fs' ex ex':List Addr} {H H1 H2:Hp} {h h1 h2 h':Heap} {a x e:Addr} {o:HO}
theorem Un.any (u:Un fs ex H H1 h h1) {b:Addr} {ob:Obj} (q:h.get? b = some ob) (n:H b = none) (hx:b ∉ ex):∃ sl,h1.get? b = some { ob with slots:=sl }:=by
 by_cases hb:b ∈ fs
 ·exact u.slot b ob q n hb hx
 ·exact ⟨ob.slots,u.keep b ob q n hb hx⟩
theorem Un.trans (a:Un fs ex H H1 h h1) (b:Un fs ex H1 H2 h1 h2):Un fs ex H H2 h h2 where
 keep:=fun c ob q n hc hx=>b.keep c ob (a.keep c ob q n hc hx) (a.free c ob q n hx) hc hx
 slot:=fun c ob q n hc hx=>by
  obtain ⟨sl,e1⟩:=a.slot c ob q n hc hx
  obtain ⟨sl',e2⟩:=b.slot c _ e1 (a.free c ob q n hx) hc hx
  exact ⟨sl',e2⟩
 free:=fun c ob q n hx=>by
  obtain ⟨o',e1⟩:=a.there c ob q hx
  exact b.free c o' e1 (a.free c ob q n hx) hx
 there:=fun c ob q hx=>by
  obtain ⟨o',e1⟩:=a.there c ob q hx
  exact b.there c o' e1 hx
 tups:=fun c xs q=>b.tups c xs (a.tups c xs q)
 frzs:=fun c ob xs q=>b.frzs c ob xs (a.frzs c ob xs q)
 tbls:=fun c ps q=>by
  obtain ⟨m1,e1⟩:=a.tbls c ps q
  obtain ⟨m2,e2⟩:=b.tbls c _ e1
  exact ⟨m1 ++ m2,by rw [e2,Array.append_assoc]⟩
theorem Un.kept (k:∀ b u,h.get? b = some u->h'.get? b = some u):Un fs ex H H h h' :=
 ⟨fun b ob q _ _ _=>k b ob q,fun b ob q _ _ _=>⟨ob.slots,k b ob q⟩,fun _ _ _ n _=>n,fun b ob q _=>⟨ob,k b ob q⟩,fun _ _ q=>q,fun _ _ _ q=>q,fun _ ps q=>⟨#[],by rw [q]; simp⟩⟩
theorem Un.refl:Un fs ex H H h h:=Un.kept fun _ _ q=>q
theorem Un.laid (k:∀ b u,h.get? b = some u->h'.get? b = some u) (hp:h.objs.size <= a) (hn:H a = none):Un fs ex H (upd H a o) h h' where
 keep:=fun b u q _ _ _=>k b u q
 slot:=fun b u q _ _ _=>⟨u.slots,k b u q⟩
 free:=fun b u q n _=>by rw [zae (Nat.ne_of_lt (Nat.lt_of_lt_of_le (Heap.lt_size q) hp))]; exact n
 there:=fun b u q _=>⟨u,k b u q⟩
 tups:=fun b xs q=>by rw [zae (zan q hn)]; exact q
 frzs:=fun b u xs q=>by rw [zae (zan q hn)]; exact q
 tbls:=fun b ps q=>⟨#[],by rw [zae (zan q hn),q]; simp⟩
theorem Un.write (mu:Mut (H x)) (he:e = x\/H e = some (.own x)) (k:∀ b u,b ≠ e->h.get? b = some u->h'.get? b = some u) (heo:∃ u,h'.get? e = some u):Un fs ex H (upd H x o) h h':=by
 have hx:∀ b,H b = none->b ≠ x:=fun b n z=>by subst z; rw [n] at mu; exact mu
 have hb:∀ b,H b = none->b ≠ e:=fun b n z=>by
  subst z
  rcases he with r | r
  ·exact hx b n r
  ·rw [n] at r; cases r
 have hm:∀ b u,H b = some u->¬ Mut (some u)->b ≠ x:=fun b u q nm z=>by subst z; rw [q] at mu; exact nm mu
 refine ⟨fun b u q n _ _=>k b u (hb b n) q,fun b u q n _ _=>⟨u.slots,k b u (hb b n) q⟩,fun b u q n _=>by rw [zae (hx b n)]; exact n,fun b u q _=>?_,
  fun b xs q=>by rw [zae (hm b _ q fun z=>z)]; exact q,fun b u xs q=>by rw [zae (hm b _ q fun z=>z)]; exact q,fun b ps q=>⟨#[],by rw [zae (hm b _ q fun z=>z),q]; simp⟩⟩
 by_cases hbe:b = e
 ·subst hbe; exact heo
 ·exact ⟨u,k b u hbe q⟩
theorem Un.mono (u:Un fs ex H H1 h h1) (hs:∀ b ∈ fs,b ∈ fs') (hx:∀ b ∈ ex,b ∈ ex'):Un fs' ex' H H1 h h1 :=
 ⟨fun b ob q n hb he=>u.keep b ob q n (fun z=>hb (hs b z)) fun z=>he (hx b z),fun _ _ q n _ he=>u.any q n fun z=>he (hx _ z),fun b ob q n he=>u.free b ob q n fun z=>he (hx b z),fun b ob q he=>u.there b ob q fun z=>he (hx b z),u.tups,u.frzs,u.tbls⟩
end
def trk (h:Heap) (H:Hp):List Addr:=(List.range h.objs.size).filter fun a=>(H a).isSome
def znl (h:Heap) (H:Hp):Heap:=PySem.W.hideAll h (trk h H)
theorem zlL (h:Heap) (H:Hp):(znl h H).objs.size = h.objs.size:=PySem.W.hideAll_size _ _
theorem znq {h:Heap} {H:Hp} {b:Addr} {o:Obj} (e:h.get? b = some o) (n:H b = none):(znl h H).get? b = some o :=
 PySem.W.hideAll_get _ e fun hm=>by
  have q:(H b).isSome = true:=(List.mem_filter.mp hm).2
  rw [n] at q; simp at q
theorem zoU {h:Heap} {H:Hp} {b:Addr} {o:Obj} (e:(znl h H).get? b = some o):h.get? b = some o/\H b = none:=by
 have e':h.get? b = some o:=PySem.W.of_hideAll (trk h H) e
 refine ⟨e',?_⟩
 cases q:H b with
 | none=>rfl
 | some x =>
  have hm:b ∈ trk h H:=List.mem_filter.mpr ⟨List.mem_range.mpr (Heap.lt_size e'),by simp [q]⟩
  have z:(znl h H).get? b = none:=PySem.W.hideAll_none (trk h H) hm
  rw [z] at e; cases e
def zoB (g h:Heap) (L:Addr):List (Addr × Obj):=(List.range h.objs.size).filterMap fun a=>if a = L\/(g.get? a).isSome = true then none else (h.get? a).map fun o=>(a,o)
def rest (g h:Heap) (L d:Addr):List (Addr × Obj):=(zoB g h L).filter fun p=>decide (p.1 ≠ d)
end
section
structure Mod (K:W.Frag) (mg:Str->Option Value) (base:Heap):Prop where
 kin:K.In base
 glob:base.Ns mainGlobals mg
 blt:∃ mb,base.Ns builtinsNs mb/\∀ x:Str,x ≠ "__name__"->mb x = bootBuiltins x
 nolimit:base.NoLimit
structure Cx where
 prog:Program
 w:World
 K:W.Frag
 mg:Str->Option Value
 base:Heap
 A:Around
 N:List Str
 s₀:Shared
 H₀:Hp
 env:Env
 outer:List Env
 stack:List Env
 ex:List Addr
 fn:Str->Bool
 calm:Bool
 pn:List (Addr × Obj)
 xe:Value->Shared->Prop
def frs (l:List Env):List Addr:=l.filterMap (·.frame)
abbrev Cx.fs (X:Cx):List Addr:=frs X.outer
def Vis (sc:Scope) (x:Str):Prop:=sc.names.lookup x = some .local\/sc.names.lookup x = some .cell\/sc.names.lookup x = some .free
def Loc (sc:Scope) (x:Str):Prop:=sc.names.lookup x = some .local\/sc.names.lookup x = some .cell
def Look (env:Env) (h:Heap) (m:Str->Option Value) (x:Str) (u:Value):Prop :=
 (env.kindOf x = some .local/\m x = some u)\/((env.kindOf x = some .cell\/env.kindOf x = some .free)/\∃ c,env.cells.lookup x = some c/\h.IsCell c (some u))
structure Cx.Ok (X:Cx):Prop where
 mod:Mod X.K X.mg X.base
 kind:X.env.scope.kind = .function
 glob:X.env.globals = mainGlobals
 blt:X.env.builtins = builtinsNs
 above:X.s₀.heap.objs.size <= X.env.locals
 inj:∀ x y c,X.env.cells.lookup x = some c->X.env.cells.lookup y = some c->x = y
 has:∀ x,(X.env.kindOf x = some .cell\/X.env.kindOf x = some .free)->∃ c,X.env.cells.lookup x = some c
 cab:∀ x c,X.fn x = true->X.env.cells.lookup x = some c->X.s₀.heap.objs.size <= c
 hd:X.calm = true->X.A.handled = none
 frames:X.A.frames = some X.stack
 stk:X.stack = X.outer\/(X.stack = X.env :: X.outer/\X.env.frame = some X.env.locals)
 exf:∀ b ∈ X.ex,b ≠ X.env.locals/\∀ x c,X.env.cells.lookup x = some c->c ≠ b
 bs:∀ b o,X.base.get? b = some o->X.s₀.heap.get? b = some o/\X.H₀ b = none
 bsz:X.base.objs.size <= X.s₀.heap.objs.size
 noex:∀ b o,X.base.get? b = some o->b ∉ X.ex
 exfs:∀ b ∈ X.ex,b ∉ X.fs
 funs:X.s₀.heap.FunFrames X.base X.outer
 frf:∀ b ∈ X.fs,X.H₀ b = none
structure Inv (X:Cx) (zo:List (Addr × Obj)) (σ:List (Option V)) (H:Hp) (s:Shared):Prop where
 ok:X.Ok
 os:s.os = X.s₀.os
 bare:AllBare s.gens
 base:Un X.fs X.ex X.H₀ H X.s₀.heap s.heap
 loc:∃ m,s.heap.Ns X.env.locals m/\∀ (i:Nat) (x:Str) (v:V),X.N[i]? = some x->σ[i]? = some (some v)->Vis X.env.scope x->∃ u,RelV v u/\Look X.env s.heap m x u
 cell:∀ x c,X.env.cells.lookup x = some c->∃ v,s.heap.IsCell c v
 free:H X.env.locals = none
 freeC:∀ x c,X.env.cells.lookup x = some c->H c = none
 pin:∀ p ∈ X.pn ++ zo,s.heap.get? p.1 = some p.2/\H p.1 = none/\p.1 ≠ X.env.locals/\p.1 ∉ X.fs/\∀ v,p.2.data ≠ .cell v
 hok:HOk X.prog X.w H s.heap
 len:σ.length = X.N.length
section
variable {X:Cx} {zo:List (Addr × Obj)} {σ:List (Option V)} {H H':Hp} {s:Shared} {h':Heap}
theorem Cx.Ok.nofr (ok:X.Ok) {b:Addr} {o:Obj} (e:X.base.get? b = some o):b ∉ X.fs:=fun hb=>by
 have:=(ok.funs.mem hb).1
 rw [e] at this; cases this
theorem Inv.bs (I:Inv X zo σ H s):∀ b o,X.base.get? b = some o->s.heap.get? b = some o/\H b = none:=fun b o e =>
 ⟨I.base.keep b o (I.ok.bs b o e).1 (I.ok.bs b o e).2 (I.ok.nofr e) (I.ok.noex b o e),I.base.free b o (I.ok.bs b o e).1 (I.ok.bs b o e).2 (I.ok.noex b o e)⟩
theorem Inv.bk (I:Inv X zo σ H s):∀ b o,X.base.get? b = some o->s.heap.get? b = some o:=fun b o e=>(I.bs b o e).1
theorem Inv.mod (I:Inv X zo σ H s):Mod X.K X.mg X.base:=I.ok.mod
theorem Inv.kIn (I:Inv X zo σ H s):X.K.In s.heap:=I.ok.mod.kin.keeps I.bk
theorem Inv.lt (I:Inv X zo σ H s):X.env.locals < s.heap.objs.size:=let ⟨_,hn,_⟩:=I.loc; hn.lt
theorem Inv.sz (I:Inv X zo σ H s):X.s₀.heap.objs.size <= s.heap.objs.size:=Nat.le_trans I.ok.above (Nat.le_of_lt I.lt)
theorem Inv.nofs (I:Inv X zo σ H s) {a:Addr} (h:s.heap.objs.size <= a):a ∉ X.fs:=fun hb=>by
 obtain ⟨_,o,ho,_⟩:=I.ok.funs.mem hb
 exact absurd (Nat.lt_of_lt_of_le (Heap.lt_size ho) (Nat.le_trans I.sz h)) (Nat.lt_irrefl _)
theorem Inv.cne (I:Inv X zo σ H s):∀ x c,X.env.cells.lookup x = some c->c ≠ X.env.locals:=fun x c e z=>by
 obtain ⟨v,o,ho,hd⟩:=I.cell x c e
 obtain ⟨m,⟨o',es,ep,ho',hd',_⟩,_⟩:=I.loc
 rw [z,ho'] at ho; cases ho; rw [hd'] at hd; cases hd
theorem Inv.funs (I:Inv X zo σ H s):s.heap.FunFrames X.base X.outer:=by
 have all:∀ (l:List Env),(∀ b ∈ frs l,b ∈ X.fs)->X.s₀.heap.FunFrames X.base l->s.heap.FunFrames X.base l:=by
  intro l
  induction l with
  | nil=>intro _ _; trivial
  | cons env r ih =>
   intro hs hl
   obtain ⟨hk,⟨L,o,hf,hn,ho,hd⟩,hr⟩:=hl
   have hL:L ∈ X.fs:=hs L (by unfold frs; rw [List.filterMap_cons,hf]; exact List.mem_cons_self)
   obtain ⟨sl,e⟩:=I.base.slot L o ho (I.ok.frf L hL) hL fun z=>I.ok.exfs L z hL
   exact ⟨hk,⟨L,_,hf,hn,e,hd⟩,ih (fun b hb=>hs b (by unfold frs; rw [List.filterMap_cons,hf]; exact List.mem_cons_of_mem _ hb)) hr⟩
 exact all X.outer (fun _ hb=>hb) I.ok.funs
theorem Inv.stack (I:Inv X zo σ H s):s.heap.FunFrames X.base X.stack:=by
 rcases I.ok.stk with e | ⟨e,hf⟩
 ·rw [e]; exact I.funs
 ·rw [e]
  obtain ⟨m,hn,_⟩:=I.loc
  refine .cons (by rw [I.ok.kind]; decide) hf hn ?_ I.funs
  exact Heap.get?_none_of_le (Nat.le_trans I.ok.bsz I.ok.above)
theorem Inv.stkSub (I:Inv X zo σ H s):∀ b ∈ frs X.stack,b ∈ X.env.locals :: X.fs:=fun b hb=>by
 rcases I.ok.stk with e | ⟨e,hf⟩
 ·rw [e] at hb; exact List.mem_cons_of_mem _ hb
 ·rw [e] at hb
  unfold frs at hb
  rw [List.filterMap_cons,hf] at hb
  exact hb
theorem Inv.stkFree (I:Inv X zo σ H s):∀ b ∈ frs X.stack,H b = none:=fun b hb=>by
 rcases List.mem_cons.mp (I.stkSub b hb) with e | hb
 ·rw [e]; exact I.free
 ·obtain ⟨_,o,ho,_⟩:=I.ok.funs.mem hb
  exact I.base.free b o ho (I.ok.frf b hb) fun z=>I.ok.exfs b z hb
theorem Inv.step {g':Array GenState} {t':Nat} {d':Drawn} {ch:List Addr} (I:Inv X zo σ H s)
  (hch:∀ b ∈ ch,(b ∈ X.ex\/X.s₀.heap.objs.size <= b)/\b ≠ X.env.locals/\(∀ x c,X.env.cells.lookup x = some c->c ≠ b)/\∀ p ∈ X.pn ++ zo,p.1 ≠ b)
  (keep:∀ b o,b ≠ X.env.locals->b ∉ X.fs->b ∉ ch->s.heap.get? b = some o->H b = none->h'.get? b = some o)
  (slot:∀ b o,b ≠ X.env.locals->b ∈ X.fs->b ∉ ch->s.heap.get? b = some o->H b = none->∃ sl,h'.get? b = some { o with slots:=sl }) (free:∀ b o,b ∉ ch->s.heap.get? b = some o->H b = none->H' b = none)
  (there:∀ b o,b ∉ ch->s.heap.get? b = some o->∃ o',h'.get? b = some o')
  (tups:∀ b xs,H b = some (.tup xs)->H' b = some (.tup xs)) (frzs:∀ b o u,H b = some (.frz o u)->H' b = some (.frz o u)) (tbls:∀ b ps,H b = some (.tbl ps)->∃ more,H' b = some (.tbl (ps ++ more)))
  (ns:∀ m,s.heap.Ns X.env.locals m->h'.Ns X.env.locals m) (hok:HOk X.prog X.w H' h') (hg:AllBare g') :
  Inv X zo σ H' { s with heap:=h',gens:=g',drawn:=d',toks:=t' }:=by
 have neL:∀ b o,X.s₀.heap.get? b = some o->b ≠ X.env.locals:=fun b o e=>Nat.ne_of_lt (Nat.lt_of_lt_of_le (Heap.lt_size e) I.ok.above)
 have neC:∀ b o,X.s₀.heap.get? b = some o->b ∉ X.ex->b ∉ ch:=fun b o e hx hb=>by
  rcases (hch b hb).1 with z | z
  ·exact hx z
  ·exact absurd (Nat.lt_of_lt_of_le (Heap.lt_size e) z) (Nat.lt_irrefl _)
 have cellK:∀ x c,X.env.cells.lookup x = some c->∀ v,s.heap.IsCell c v->h'.IsCell c v:=fun x c e v ⟨o,ho,hd⟩=>by
  have nch:c ∉ ch:=fun z=>(hch c z).2.2.1 x c e rfl
  by_cases hc:c ∈ X.fs
  ·obtain ⟨sl,q⟩:=slot c o (I.cne x c e) hc nch ho (I.freeC x c e)
   exact ⟨_,q,hd⟩
  ·exact ⟨o,keep c o (I.cne x c e) hc nch ho (I.freeC x c e),hd⟩
 refine ⟨I.ok,I.os,hg,⟨fun b o e n hb hx=>?_,fun b o e n hb hx=>?_,fun b o e n hx=>?_,fun b o e hx=>?_,fun b xs e=>tups b xs (I.base.tups b xs e),fun b o xs e=>frzs b o xs (I.base.frzs b o xs e),fun b ps e=>?_⟩,?_,fun x c e=>?_,?_,fun x c e=>?_,fun p hp=>?_,hok,I.len⟩
 ·exact keep b o (neL b o e) hb (neC b o e hx) (I.base.keep b o e n hb hx) (I.base.free b o e n hx)
 ·obtain ⟨sl,e1⟩:=I.base.slot b o e n hb hx
  obtain ⟨sl',e2⟩:=slot b _ (neL b o e) hb (neC b o e hx) e1 (I.base.free b o e n hx)
  exact ⟨sl',e2⟩
 ·obtain ⟨o',e1⟩:=I.base.there b o e hx
  exact free b o' (neC b o e hx) e1 (I.base.free b o e n hx)
 ·obtain ⟨o',e1⟩:=I.base.there b o e hx
  exact there b o' (neC b o e hx) e1
 ·obtain ⟨m1,e1⟩:=I.base.tbls b ps e
  obtain ⟨m2,e2⟩:=tbls b _ e1
  exact ⟨m1 ++ m2,by rw [e2,Array.append_assoc]⟩
 ·obtain ⟨m,hn,hl⟩:=I.loc
  refine ⟨m,ns m hn,fun i x v e1 e2 e3=>?_⟩
  obtain ⟨u,r,l⟩:=hl i x v e1 e2 e3
  refine ⟨u,r,?_⟩
  rcases l with l | ⟨k,c,e,z⟩
  ·exact .inl l
  ·exact .inr ⟨k,c,e,cellK x c e _ z⟩
 ·obtain ⟨v,z⟩:=I.cell x c e
  exact ⟨v,cellK x c e v z⟩
 ·obtain ⟨m,⟨o,_,_,ho,_⟩,_⟩:=I.loc
  exact free _ o (fun z=>(hch _ z).2.1 rfl) ho I.free
 ·obtain ⟨v,o,ho,hd⟩:=I.cell x c e
  exact free c o (fun z=>(hch c z).2.2.1 x c e rfl) ho (I.freeC x c e)
 ·obtain ⟨e,n,ne,nf,d⟩:=I.pin p hp
  have nch:p.1 ∉ ch:=fun z=>(hch p.1 z).2.2.2 p hp rfl
  exact ⟨keep p.1 p.2 ne nf nch e n,free p.1 p.2 nch e n,ne,nf,d⟩
theorem Inv.un {t':Nat} (I:Inv X zo σ H s) (u:Un X.fs [] H H' s.heap h') (hok:HOk X.prog X.w H' h'):Inv X zo σ H' { s with heap:=h',toks:=t' }:=by
 obtain ⟨m,⟨o,es,ep,ho,r⟩,_⟩:=id I.loc
 obtain ⟨sl,hL⟩:=u.any ho I.free (by simp)
 exact I.step (g':=s.gens) (d':=s.drawn) (ch:=[]) (fun _ z=>nomatch z) (fun b o _ hb _ e n=>u.keep b o e n hb (by simp)) (fun b o _ hb _ e n=>u.slot b o e n hb (by simp)) (fun b o _ e n=>u.free b o e n (by simp)) (fun b o _ e=>u.there b o e (by simp)) u.tups u.frzs u.tbls (fun m' hm=>by
  obtain ⟨o',es',ep',ho',r'⟩:=hm
  rw [ho] at ho'; cases ho'
  exact ⟨_,es',ep',hL,r'⟩) hok I.bare
theorem Inv.call {g':Array GenState} {t':Nat} {d':Drawn} {ch:List Addr} (I:Inv X zo σ H s) (u:Un (frs X.stack) ch H H' s.heap h') (hok:HOk X.prog X.w H' h') (hg:AllBare g')
  (hch:∀ b ∈ ch,(b ∈ X.ex\/X.s₀.heap.objs.size <= b)/\b ≠ X.env.locals/\(∀ x c,X.env.cells.lookup x = some c->c ≠ b)/\∀ p ∈ X.pn ++ zo,p.1 ≠ b) :
  Inv X zo σ H' { s with heap:=h',gens:=g',drawn:=d',toks:=t' }:=by
 obtain ⟨m,⟨o,es,ep,ho,r⟩,_⟩:=id I.loc
 obtain ⟨sl,hL⟩:=u.any ho I.free fun z=>(hch _ z).2.1 rfl
 exact I.step (ch:=ch) hch (fun b o hL hb hc e n=>u.keep b o e n (fun z=>(List.mem_cons.mp (I.stkSub b z)).elim hL hb) hc) (fun b o _ _ hc e n=>u.any e n hc) (fun b o hc e n=>u.free b o e n hc) (fun b o hc e=>u.there b o e hc) u.tups u.frzs u.tbls (fun m' hm=>by
  obtain ⟨o',es',ep',ho',r'⟩:=hm
  rw [ho] at ho'; cases ho'
  exact ⟨_,es',ep',hL,r'⟩) hok hg
theorem Inv.turned {t':Nat} {it:Addr} (I:Inv X zo σ H s) (k:∀ b o,b ≠ it->s.heap.get? b = some o->h'.get? b = some o) (hn:H it = none) (hL:it ≠ X.env.locals)
  (h1:it ∈ X.ex\/X.s₀.heap.objs.size <= it) (h2:∀ x c,X.env.cells.lookup x = some c->c ≠ it) (h3:∀ p ∈ X.pn ++ zo,p.1 ≠ it):Inv X zo σ H { s with heap:=h',toks:=t' }:=by
 have nit:∀ b u,H b = some u->b ≠ it:=fun b u e z=>by rw [z,hn] at e; cases e
 refine I.step (g':=s.gens) (d':=s.drawn) (ch:=[it]) (fun b hb=>?_) (fun b o _ _ hc e _=>k b o (fun z=>hc (by simp [z])) e) (fun b o _ _ hc e _=>⟨o.slots,k b o (fun z=>hc (by simp [z])) e⟩) (fun _ _ _ _ n=>n)
  (fun b o hc e=>⟨o,k b o (fun z=>hc (by simp [z])) e⟩) (fun _ _ e=>e) (fun _ _ _ e=>e) (fun b ps e=>⟨#[],by rw [e]; simp⟩) (fun m hm=>?_) (fun b u e=>?_) I.bare
 ·have e:b = it:=by simpa using hb
  subst e
  exact ⟨h1,hL,h2,h3⟩
 ·obtain ⟨o,es,ep,ho,r⟩:=hm
  exact ⟨o,es,ep,k _ o (Ne.symm hL) ho,r⟩
 ·refine (I.hok b u e).stay (fun c v hc q=>k c v ?_ q) (fun _ q=>q) fun _ _ q=>q
  rcases hc with z | z
  ·rw [z]; exact nit b u e
  ·exact nit c _ z
theorem Inv.tok (I:Inv X zo σ H s) (t:Nat):Inv X zo σ H { s with toks:=t }:=I.un (h':=s.heap) (t':=t) Un.refl I.hok
theorem Inv.kept {t':Nat} (I:Inv X zo σ H s) (k:∀ b u,s.heap.get? b = some u->h'.get? b = some u):Inv X zo σ H { s with heap:=h',toks:=t' }:=I.un (Un.kept k) (I.hok.kept k)
theorem Inv.laid {a:Addr} {o:HO} {t':Nat} (I:Inv X zo σ H s) (k:∀ b u,s.heap.get? b = some u->h'.get? b = some u) (hp:s.heap.objs.size <= a) (new:ObjOk X.prog X.w (upd H a o) h' a o) :
  Inv X zo σ (upd H a o) { s with heap:=h',toks:=t' }:=I.un (Un.laid k hp (I.hok.fresh hp)) (I.hok.laid k hp new)
theorem Inv.write {x e:Addr} {o:HO} {t':Nat} (I:Inv X zo σ H s) (mu:Mut (H x)) (he:e = x\/H e = some (.own x)) (k:∀ b u,b ≠ e->s.heap.get? b = some u->h'.get? b = some u) (heo:∃ u,h'.get? e = some u)
  (new:ObjOk X.prog X.w (upd H x o) h' x o):Inv X zo σ (upd H x o) { s with heap:=h',toks:=t' }:=I.un (Un.write mu he k heo) (I.hok.write mu he k heo new)
theorem Inv.pins_of {pins':List (Addr × Obj)} (I:Inv X zo σ H s) (h:∀ p ∈ pins',s.heap.get? p.1 = some p.2/\H p.1 = none/\p.1 ≠ X.env.locals/\p.1 ∉ X.fs/\∀ v,p.2.data ≠ .cell v):Inv X pins' σ H s :=
 ⟨I.ok,I.os,I.bare,I.base,I.loc,I.cell,I.free,I.freeC,fun p hp=>(List.mem_append.mp hp).elim (fun z=>I.pin p (List.mem_append_left _ z)) (h p),I.hok,I.len⟩
theorem zjT {N:List Str} (hN:N.Nodup) {i j:Nat} {x:Str} (a:N[i]? = some x) (b:N[j]? = some x):i = j:=by
 obtain ⟨h1,e1⟩:=List.getElem?_eq_some_iff.mp a
 obtain ⟨h2,e2⟩:=List.getElem?_eq_some_iff.mp b
 exact (List.getElem_inj hN).mp (e1.trans e2.symm)
theorem zll {M:Model} {A:Around} {E:Value->Shared->Prop} {i:Nat} {x:Str} {v:V} {u:Value} {Q:Unit->Shared->Prop} (I:Inv X zo σ H s) (hN:X.N.Nodup) (hi:X.N[i]? = some x) (hx:Loc X.env.scope x) (r:RelV v u)
  (h:∀ s',Inv X zo (σ.set i (some v)) H s'->(∃ a,Heap.SameBut a s.heap s'.heap/\(a = X.env.locals\/X.env.cells.lookup x = some a))->Q () s') (hf:X.fn x = true\/X.env.scope.names.lookup x = some .local:=by first | exact .inl rfl | exact .inr rfl | assumption):wpAny M A (storeName X.env x u) Q E s:=by
 obtain ⟨m,hn,hl⟩:=id I.loc
 have hcls:(X.env.scope.kind == .class || (X.env.scope.kind == .module && X.env.locals != X.env.globals)) = false:=by rw [I.ok.kind]; rfl
 have hiσ:i < σ.length:=by rw [I.len]; exact (List.getElem?_eq_some_iff.mp hi).1
 have cne:=I.cne
 have tracked:∀ {a:Addr} {h':Heap},(∃ o,s.heap.get? a = some o/\H a = none)->Heap.SameBut a s.heap h'->HOk X.prog X.w H h':=fun {a h'} ha hs b ob e=>by
  obtain ⟨_,_,hfree⟩:=ha
  refine (I.hok b ob e).stay (fun c w' hc q=>(hs.2 c ?_).trans q) (fun _ q=>q) fun _ _ q=>q
  rintro rfl
  rcases hc with rfl | hc
  ·rw [hfree] at e; cases e
  ·rw [hfree] at hc; cases hc
 rcases hx with hk | hk
 ·refine wpAny_storeName_local hk hn (fun h' hn' hs=>?_) hcls
  obtain ⟨oL,_,_,hoL,_⟩:=id hn
  refine h _ ⟨I.ok,I.os,I.bare,⟨fun b o e n hb hx=>?_,fun b o e n hb hx=>?_,I.base.free,fun b o e hx=>?_,I.base.tups,I.base.frzs,I.base.tbls⟩,⟨_,hn',fun j y v' e1 e2 e3=>?_⟩,fun y c e=>?_,I.free,I.freeC,fun p hp=>?_,tracked ⟨oL,hoL,I.free⟩ hs,by simpa using I.len⟩ ⟨_,hs,.inl rfl⟩
  ·exact (hs.2 b (Nat.ne_of_lt (Nat.lt_of_lt_of_le (Heap.lt_size e) I.ok.above))).trans (I.base.keep b o e n hb hx)
  ·obtain ⟨sl,e1⟩:=I.base.slot b o e n hb hx
   exact ⟨sl,(hs.2 b (Nat.ne_of_lt (Nat.lt_of_lt_of_le (Heap.lt_size e) I.ok.above))).trans e1⟩
  ·obtain ⟨o',e1⟩:=I.base.there b o e hx
   exact ⟨o',(hs.2 b (Nat.ne_of_lt (Nat.lt_of_lt_of_le (Heap.lt_size e) I.ok.above))).trans e1⟩
  ·by_cases hj:j = i
   ·subst hj
    rw [hi] at e1; cases e1
    rw [List.getElem?_set_self hiσ] at e2
    cases e2
    exact ⟨u,r,.inl ⟨hk,by simp⟩⟩
   ·rw [List.getElem?_set_ne (Ne.symm hj)] at e2
    obtain ⟨u',r',q⟩:=hl j y v' e1 e2 e3
    refine ⟨u',r',?_⟩
    rcases q with ⟨k,e⟩ | ⟨k,c,e,z⟩
    ·refine .inl ⟨k,?_⟩
     have:y ≠ x:=fun e=>hj (zjT hN e1 (e ▸ hi))
     simp [this,e]
    ·exact .inr ⟨k,c,e,z.sameBut hs (cne y c e)⟩
  ·obtain ⟨w',z⟩:=I.cell y c e
   exact ⟨w',z.sameBut hs (cne y c e)⟩
  ·obtain ⟨e,n,ne,nf,d⟩:=I.pin p hp
   exact ⟨(hs.2 p.1 ne).trans e,n,ne,nf,d⟩
 ·have hfn:X.fn x = true:=by
   rcases hf with z | z
   ·exact z
   ·rw [z] at hk; cases hk
  obtain ⟨c,hc⟩:=I.ok.has x (.inl hk)
  obtain ⟨w',z⟩:=I.cell x c hc
  refine wpAny_storeName_cell I.ok.kind hk hc z (fun h' hc' hs=>?_)
  obtain ⟨oc,hoc,hocd⟩:=id z
  refine h { s with heap:=h' } ⟨I.ok,I.os,I.bare,⟨fun b o e n hb hx=>?_,fun b o e n hb hx=>?_,I.base.free,fun b o e hx=>?_,I.base.tups,I.base.frzs,I.base.tbls⟩,⟨m,hn.sameBut hs (Ne.symm (cne x c hc)),fun j y v' e1 e2 e3=>?_⟩,fun y c' e=>?_,I.free,I.freeC,fun p hp=>?_,tracked ⟨oc,hoc,I.freeC x c hc⟩ hs,by simpa using I.len⟩ ⟨c,hs,.inr hc⟩
  ·exact (hs.2 b (Nat.ne_of_lt (Nat.lt_of_lt_of_le (Heap.lt_size e) (I.ok.cab x c hfn hc)))).trans (I.base.keep b o e n hb hx)
  ·obtain ⟨sl,e1⟩:=I.base.slot b o e n hb hx
   exact ⟨sl,(hs.2 b (Nat.ne_of_lt (Nat.lt_of_lt_of_le (Heap.lt_size e) (I.ok.cab x c hfn hc)))).trans e1⟩
  ·obtain ⟨o',e1⟩:=I.base.there b o e hx
   exact ⟨o',(hs.2 b (Nat.ne_of_lt (Nat.lt_of_lt_of_le (Heap.lt_size e) (I.ok.cab x c hfn hc)))).trans e1⟩
  ·by_cases hj:j = i
   ·subst hj
    rw [hi] at e1; cases e1
    rw [List.getElem?_set_self hiσ] at e2
    cases e2
    exact ⟨u,r,.inr ⟨.inl hk,c,hc,hc'⟩⟩
   ·rw [List.getElem?_set_ne (Ne.symm hj)] at e2
    obtain ⟨u',r',q⟩:=hl j y v' e1 e2 e3
    refine ⟨u',r',?_⟩
    rcases q with q | ⟨k,c',e,z'⟩
    ·exact .inl q
    ·refine .inr ⟨k,c',e,z'.sameBut hs ?_⟩
     rintro rfl
     exact hj (zjT hN e1 (I.ok.inj _ _ _ e hc ▸ hi))
  ·by_cases hcc:c' = c
   ·subst hcc; exact ⟨_,hc'⟩
   ·obtain ⟨w2,z2⟩:=I.cell y c' e
    exact ⟨w2,z2.sameBut hs hcc⟩
  ·obtain ⟨e,n,ne,nf,d⟩:=I.pin p hp
   refine ⟨(hs.2 p.1 ?_).trans e,n,ne,nf,d⟩
   intro q
   rw [q,hoc] at e
   have q':oc = p.2:=Option.some.inj e
   exact d w' (by rw [<- q']; exact hocd)
theorem zht {M:Model} {A:Around} {E:Value->Shared->Prop} {i:Nat} {x:Str} {v:V} {u:Value} {Q:Unit->Shared->Prop} (I:Inv X zo σ H s) (hN:X.N.Nodup) (hi:X.N[i]? = some x) (hx:Loc X.env.scope x) (r:RelV v u)
  (h:∀ s',Inv X zo (σ.set i (some v)) H s'->Q () s') (hf:X.fn x = true\/X.env.scope.names.lookup x = some .local:=by first | exact .inl rfl | exact .inr rfl | assumption):wpAny M A (storeName X.env x u) Q E s :=
 zll I hN hi hx r (fun s' I' _=>h s' I') hf
theorem Inv.call' {s':Shared} {ch:List Addr} (I:Inv X zo σ H s) (ho:s'.os = s.os) (u:Un (frs X.stack) ch H H' s.heap s'.heap) (hok:HOk X.prog X.w H' s'.heap) (hg:AllBare s'.gens)
  (hch:∀ b ∈ ch,(b ∈ X.ex\/X.s₀.heap.objs.size <= b)/\b ≠ X.env.locals/\(∀ x c,X.env.cells.lookup x = some c->c ≠ b)/\∀ p ∈ X.pn ++ zo,p.1 ≠ b):Inv X zo σ H' s':=by
 obtain ⟨h',g',d',t',o'⟩:=s'
 have e:o' = s.os:=ho
 subst e
 exact I.call (g':=g') (t':=t') (d':=d') u hok hg hch
end
abbrev XK:=Value->Option Addr->Hp->Prop
abbrev St:=List (Option V)
abbrev VK:=V->Hp->Prop
abbrev TE:=St->Hp->VK->Prop
abbrev TT:=St->Hp->(Bool->Hp->Prop)->Prop
abbrev TA:=St->Hp->(List V->Hp->Prop)->Prop
structure Ends where
 nx:St->Hp->Prop
 rt:VK
 bk:St->Hp->Prop:=fun _ _=>False
 ct:St->Hp->Prop:=fun _ _=>False
abbrev TS:=Ends->St->Hp->Prop
def EP (X:Cx) (zo:List (Addr × Obj)) (σ:St) (Q:VK) (u:Value) (s':Shared):Prop:=∃ v H',Inv X zo σ H' s'/\RelV v u/\Q v H'
def TP (X:Cx) (zo:List (Addr × Obj)) (σ:St) (Q:Bool->Hp->Prop) (b:Bool) (s':Shared):Prop:=∃ H',Inv X zo σ H' s'/\Q b H'
def AP (X:Cx) (zo:List (Addr × Obj)) (σ:St) (Q:List V->Hp->Prop) (us:List Value) (s':Shared):Prop:=∃ vs H',Inv X zo σ H' s'/\Vals vs us/\Q vs H'
def SP (X:Cx) (zo:List (Addr × Obj)) (D:Ends) (f:Flow) (s':Shared):Prop :=
 match f with
 | .next=>∃ σ' H',Inv X zo σ' H' s'/\D.nx σ' H'
 | .brk=>∃ σ' H',Inv X zo σ' H' s'/\D.bk σ' H'
 | .cont=>∃ σ' H',Inv X zo σ' H' s'/\D.ct σ' H'
 | .ret u=>∃ v σ' H',Inv X zo σ' H' s'/\RelV v u/\D.rt v H'
def PE (X:Cx) (e:Expr) (t:TE):Prop :=
 ∀ (zo:List (Addr × Obj)) (s:Shared) (σ:St) (H:Hp) (Q:VK),Inv X zo σ H s->t σ H Q->wpAny (model X.prog X.w) X.A (eval e X.env) (EP X zo σ Q) X.xe s
def PT (X:Cx) (e:Expr) (t:TT):Prop :=
 ∀ (zo:List (Addr × Obj)) (s:Shared) (σ:St) (H:Hp) (Q:Bool->Hp->Prop),Inv X zo σ H s->t σ H Q->wpAny (model X.prog X.w) X.A (isTrue e X.env (eval e X.env)) (TP X zo σ Q) X.xe s
def PW (X:Cx) (e:Expr) (t:TT):Prop :=
 ∀ (whole:Sem Value) (zo:List (Addr × Obj)) (s:Shared) (σ:St) (H:Hp) (Q:Bool->Hp->Prop),Inv X zo σ H s->t σ H Q->wpAny (model X.prog X.w) X.A (isTrue e X.env whole) (TP X zo σ Q) X.xe s
theorem PW.pt {X:Cx} {e:Expr} {t:TT} (h:PW X e t):PT X e t:=h _
def PA (X:Cx) (es:List Expr) (t:TA):Prop :=
 ∀ (pos:Pos) (zo:List (Addr × Obj)) (s:Shared) (σ:St) (H:Hp) (Q:List V->Hp->Prop),Inv X zo σ H s->t σ H Q->wpAny (model X.prog X.w) X.A (spliced (backTo pos (starEach es X.env))) (AP X zo σ Q) X.xe s
def PS (X:Cx) (st:Stmt) (t:TS):Prop :=
 ∀ (zo:List (Addr × Obj)) (s:Shared) (σ:St) (H:Hp) (D:Ends),Inv X zo σ H s->t D σ H->wpAny (model X.prog X.w) X.A (exec st X.env) (SP X zo D) X.xe s
def PSs (X:Cx) (st:List Stmt) (t:TS):Prop :=
 ∀ (zo:List (Addr × Obj)) (s:Shared) (σ:St) (H:Hp) (D:Ends),Inv X zo σ H s->t D σ H->wpAny (model X.prog X.w) X.A (execs st X.env) (SP X zo D) X.xe s
theorem thn {α:Type} {t:Sem α} {Q Q':α->Shared->Prop} {M:Model} {A:Around} {E:Value->Shared->Prop} {s:Shared} (h:wpAny M A t Q E s) (hQ:∀ a s,Q a s->Q' a s):wpAny M A t Q' E s:=wpAny_mono h hQ fun _ _ x=>x
end
section
section
variable {X:Cx}
def zmw (i:Nat):TE:=fun σ H Q=>∃ v,σ[i]? = some (some v)/\Q v H
def tC (v:V):TE:=fun _ H Q=>Q v H
theorem zrl {i:Nat} {x:Str} {pos:Pos} (hN:X.N[i]? = some x) (hv:Vis X.env.scope x) (hd:(x == ("__debug__":Str)) = false:=by decide) (hcd:(x == ("__classdict__":Str)) = false:=by decide):PE X (.Name x pos) (zmw i):=by
 intro zo s σ H Q I h
 obtain ⟨v,e,h⟩:=h
 obtain ⟨m,hn,hl⟩:=I.loc
 obtain ⟨u,r,l⟩:=hl i x v hN e hv
 have fin:EP X zo σ Q u s:=⟨v,H,I,r,h⟩
 rcases l with ⟨hk,hm⟩ | ⟨hk,c,hc,hcell⟩
 ·exact wpAny_Name (wpAny_loadName_local I.ok.kind hk hn hm fin) hd
 ·rcases hk with hk | hk
  ·exact wpAny_Name (wpAny_loadName_cell I.ok.kind hk hc hcell fin) hd
  ·exact wpAny_Name (wpAny_loadName_free I.ok.kind hk hc hcell fin hcd) hd
theorem zh {i j pos}:PE X (.Constant (.int i) j pos) (tC (.int i)):=fun _ _ _ H _ I h=>wpAny_Constant_int ⟨.int i,H,I.tok _,⟨_,rfl⟩,h⟩
theorem zdc {b j pos}:PE X (.Constant (.bool b) j pos) (tC (.bl b)):=fun _ _ _ H _ I h=>Constant_bool ⟨.bl b,H,I,rfl,h⟩
theorem zfF {j pos}:PE X (.Constant .none j pos) (tC .non):=fun _ _ _ H _ I h=>Constant_none ⟨.non,H,I,rfl,h⟩
theorem zat {x j pos}:PE X (.Constant (.str x) j pos) (tC (.str x)):=fun _ _ _ H _ I h=>Calls.Constant_str ⟨.str x,H,I.tok _,⟨_,rfl⟩,h⟩
def Gl (X:Cx) (x:Str):Prop:=X.env.kindOf x = some .globalImplicit
theorem zo3 {E:Value->Shared->Prop} {zo:List (Addr × Obj)} {s:Shared} {σ:St} {H:Hp} {x:Str} {u:Value} {pos:Pos} {Q:Value->Shared->Prop} (I:Inv X zo σ H s) (hg:Gl X x) (hm:X.mg x = some u) (h:Q u s)
  (hd:(x == ("__debug__":Str)) = false:=by decide):wpAny (model X.prog X.w) X.A (eval (.Name x pos) X.env) Q E s :=
 Calls.Name_function_global I.ok.kind hg (Calls.loadGlobal_global (by rw [I.ok.glob]; exact I.mod.glob.keeps I.bk) hm h) hd
theorem ze9 {E:Value->Shared->Prop} {zo:List (Addr × Obj)} {s:Shared} {σ:St} {H:Hp} {x:Str} {u:Value} {pos:Pos} {Q:Value->Shared->Prop} (I:Inv X zo σ H s) (hg:Gl X x) (hm:X.mg x = none) (hv:bootBuiltins x = some u) (h:Q u s)
  (hn:x ≠ "__name__":=by decide) (hd:(x == ("__debug__":Str)) = false:=by decide):wpAny (model X.prog X.w) X.A (eval (.Name x pos) X.env) Q E s:=by
 obtain ⟨mb,h1,h2⟩:=I.mod.blt
 exact Calls.Name_function_global I.ok.kind hg (Calls.loadGlobal_builtin (by rw [I.ok.glob]; exact I.mod.glob.keeps I.bk) hm (by rw [I.ok.blt]; exact h1.keeps I.bk) ((h2 x hn).trans hv) h) hd
theorem zcy {x:Str} {v:V} {u:Value} {pos:Pos} (hg:Gl X x) (hm:X.mg x = none) (hv:bootBuiltins x = some u) (r:RelV v u) (hn:x ≠ "__name__":=by decide) (hd:(x == ("__debug__":Str)) = false:=by decide):PE X (.Name x pos) (tC v) :=
 fun _ _ _ H _ I h=>ze9 I hg hm hv ⟨v,H,I,r,h⟩ hn hd
variable {a b:Expr} {ta tb:TE} {pos:Pos}
variable {tA tB':TT} {rest:List Expr}
def tOr (t u:TT):TT:=fun σ H Q=>t σ H fun c H1=>if c = true then Q true H1 else u σ H1 Q
def zsu (t:TT):TT:=fun σ H Q=>t σ H fun c H1=>Q (!c) H1
theorem zfN (ha:PT X a tA):PW X (.BoolOp .Or [a] pos) tA:=by
 intro wh zo s σ H Q I h
 refine isTrue_or (thn (ha zo s σ H Q I h) fun c s1 e=>?_)
 cases c with
 | false=>exact isTrue_or_nil e
 | true=>exact e
theorem zfW (ha:PT X a tA) (hb:PW X (.BoolOp .Or (b :: rest) pos) tB'):PW X (.BoolOp .Or (a :: b :: rest) pos) (tOr tA tB'):=by
 intro wh zo s σ H Q I h
 refine isTrue_or (thn (ha zo s σ H _ I h) fun c s1 ⟨H1,I1,q1⟩=>?_)
 cases c with
 | true=>exact ⟨H1,I1,q1⟩
 | false=>exact hb wh zo s1 σ H1 Q I1 q1
theorem zcc (ha:PT X a tA):PT X (.UnaryOp .Not a pos) (zsu tA):=by
 intro zo s σ H Q I h
 exact isTrue_not (ha zo s σ H (fun c H1=>Q (!c) H1) I h)
def zq6 (ta tb:TE):TE:=fun σ H Q=>ta σ H fun x H1=>∃ c,x = .bl c/\if c = true then tb σ H1 Q else Q (.bl false) H1
def zsW (ta tb:TE):TE:=fun σ H Q=>ta σ H fun x H1=>∃ c,x = .bl c/\if c = true then Q (.bl true) H1 else tb σ H1 Q
def zro (ta:TE):TE:=fun σ H Q=>ta σ H fun x H1=>∃ c,x = .bl c/\Q (.bl (!c)) H1
theorem zfd {op} {t:TE} (h:PE X a t):PE X (.BoolOp op [a] pos) t:=fun zo s σ H Q I hw=>BoolOp_one (h zo s σ H Q I hw)
theorem zfM (ha:PE X a ta) (hb:PE X (.BoolOp .And (b :: rest) pos) tb):PE X (.BoolOp .And (a :: b :: rest) pos) (zq6 ta tb):=by
 intro zo s σ H Q I h
 refine BoolOp_and (thn (ha zo s σ H _ I h) fun v s1 ⟨x,H1,I1,r1,q1⟩=>?_)
 obtain ⟨c,rfl,q1⟩:=q1
 cases r1
 refine wpAny_truthy_bool ?_
 cases c with
 | true=>exact hb zo s1 σ H1 Q I1 q1
 | false=>exact ⟨.bl false,H1,I1,rfl,q1⟩
theorem zsA (ha:PE X a ta) (hb:PE X (.BoolOp .Or (b :: rest) pos) tb):PE X (.BoolOp .Or (a :: b :: rest) pos) (zsW ta tb):=by
 intro zo s σ H Q I h
 refine BoolOp_or (thn (ha zo s σ H _ I h) fun v s1 ⟨x,H1,I1,r1,q1⟩=>?_)
 obtain ⟨c,rfl,q1⟩:=q1
 cases r1
 refine wpAny_truthy_bool ?_
 cases c with
 | false=>exact hb zo s1 σ H1 Q I1 q1
 | true=>exact ⟨.bl true,H1,I1,rfl,q1⟩
theorem znH (ha:PE X a ta):PE X (.UnaryOp .Not a pos) (zro ta):=by
 intro zo s σ H Q I h
 refine UnaryOp_ (thn (ha zo s σ H _ I h) fun v s1 ⟨x,H1,I1,r1,q1⟩=>?_)
 obtain ⟨c,rfl,q1⟩:=q1
 cases r1
 exact not_of (wpAny_truthy_bool ⟨.bl (!c),H1,I1,rfl,q1⟩)
def tIf (t:TT) (ta tb:TE):TE:=fun σ H Q=>t σ H fun c H1=>if c = true then ta σ H1 Q else tb σ H1 Q
theorem znw {c:Expr} (hc:PT X c tA) (ha:PE X a ta) (hb:PE X b tb):PE X (.IfExp c a b pos) (tIf tA ta tb):=by
 intro zo s σ H Q I h
 refine wpAny_IfExp (thn (hc zo s σ H _ I h) fun d s1 ⟨H1,I1,q1⟩=>?_)
 cases d with
 | true=>exact ha zo s1 σ H1 Q I1 q1
 | false=>exact hb zo s1 σ H1 Q I1 q1
end
end
section
def SqL (K:W.Frag) (H:Hp) (a:Addr) (xs:List V):Prop :=
 Rd H a (.lst xs) \/
  ∃ (o:Obj) (its:Array Value) (n:Nat),K.lookup a = some o/\o.cls = .type "list"/\o.dict = none/\o.data = .seq its n/\its.size <= sizeLine/\Vals xs its.toList
def SqT (K:W.Frag) (H:Hp) (a:Addr) (xs:List V):Prop :=
 Rd H a (.tup xs) \/
  ∃ (o:Obj) (its:Array Value) (n:Nat),K.lookup a = some o/\o.cls = .type "tuple"/\o.data = .seq its n/\its.size <= sizeLine/\Vals xs its.toList
def zth:Value->Option V
 | .none=>some .non
 | .bool b=>some (.bl b)
 | .int i _=>some (.int i)
 | .str x _=>some (.str x)
 | .bytes b _=>some (.byt b)
 | .float b _=>some (.flt b)
 | .ref a=>some (.ref a)
 | .type n=>some (.ty n)
 | _=>none
theorem RelV.abs {x:V} {u:Value} (r:RelV x u):zth u = some x:=by
 cases x with
 | non=>cases r; rfl
 | bl _=>cases r; rfl
 | int _=>obtain ⟨t,rfl⟩:=r; rfl
 | str _=>obtain ⟨t,rfl⟩:=r; rfl
 | byt _=>obtain ⟨t,rfl⟩:=r; rfl
 | flt _=>obtain ⟨t,rfl⟩:=r; rfl
 | ref _=>cases r; rfl
 | ty _=>cases r; rfl
theorem RelV.inj {x y:V} {u:Value} (r:RelV x u) (q:RelV y u):x = y:=Option.some.inj (r.abs.symm.trans q.abs)
theorem Vals.inj:∀ {xs ys:List V} {us:List Value},Vals xs us->Vals ys us->xs = ys
 | _,_,_,.nil,.nil=>rfl
 | _,_,_,.cons r t,.cons r' t'=>by rw [r.inj r',Vals.inj t t']
section
variable {X:Cx} {zo:List (Addr × Obj)} {σ:St} {H:Hp} {s:Shared} {a:Addr} {xs ys:List V}
theorem SqL.of {K:W.Frag} (h:H a = some (.lst xs)):SqL K H a xs:=.inl (.inl h)
theorem SqT.of {K:W.Frag} (h:H a = some (.tup xs)):SqT K H a xs:=.inl (.inl h)
theorem Inv.list (I:Inv X zo σ H s) (h:SqL X.K H a xs):∃ its:List Value,Vals xs its/\PlainL s.heap a its.toArray/\xs.length <= sizeLine:=by
 rcases h with h | ⟨o,its,n,hk,hc,hd,hs,hz,r⟩
 ·obtain ⟨z,its,n,r,e⟩:=h.ok I.hok
  exact ⟨its,r,⟨_,n,e,rfl,rfl,rfl⟩,z⟩
 ·refine ⟨its.toList,r,⟨o,n,I.kIn a o hk,hc,hd,by simpa using hs⟩,?_⟩
  have e:=r.length
  simp only [Array.length_toList] at e
  omega
theorem Inv.tuple (I:Inv X zo σ H s) (h:SqT X.K H a xs):∃ its:List Value,Vals xs its/\IsTup s.heap a its.toArray/\xs.length <= sizeLine:=by
 rcases h with h | ⟨o,its,n,hk,hc,hs,hz,r⟩
 ·obtain ⟨z,its,r,p⟩:=h.ok I.hok
  exact ⟨its,r,p,z.1⟩
 ·refine ⟨its.toList,r,⟨o,I.kIn a o hk,hc,n,by simpa using hs⟩,?_⟩
  have e:=r.length
  simp only [Array.length_toList] at e
  omega
theorem Inv.list_inj (I:Inv X zo σ H s) (h:SqL X.K H a xs) (h':SqL X.K H a ys):xs = ys:=by
 obtain ⟨its,r,⟨o,n,e,_,_,d⟩,_⟩:=I.list h
 obtain ⟨its',r',⟨o',n',e',_,_,d'⟩,_⟩:=I.list h'
 rw [e] at e'; cases e'
 rw [d] at d'
 injection d' with d1 _
 have:its = its':=by simpa using congrArg Array.toList d1
 subst this
 exact r.inj r'
theorem Inv.tuple_inj (I:Inv X zo σ H s) (h:SqT X.K H a xs) (h':SqT X.K H a ys):xs = ys:=by
 obtain ⟨its,r,⟨o,e,_,n,d⟩,_⟩:=I.tuple h
 obtain ⟨its',r',⟨o',e',_,n',d'⟩,_⟩:=I.tuple h'
 rw [e] at e'; cases e'
 rw [d] at d'
 injection d' with d1 _
 have:its = its':=by simpa using congrArg Array.toList d1
 subst this
 exact r.inj r'
end
abbrev Cx.wish (X:Cx) (E:Value->Shared->Prop):Cx:={ X with xe:=E }
abbrev Cx.nox (X:Cx):Cx:=X.wish fun _ _=>False
theorem Cx.Ok.wish {X:Cx} (ok:X.Ok) (E:Value->Shared->Prop):(X.wish E).Ok :=
 ⟨ok.mod,ok.kind,ok.glob,ok.blt,ok.above,ok.inj,ok.has,ok.cab,ok.hd,ok.frames,ok.stk,ok.exf,ok.bs,ok.bsz,ok.noex,ok.exfs,ok.funs,ok.frf⟩
theorem Cx.Ok.unwish {X:Cx} {E:Value->Shared->Prop} (ok:(X.wish E).Ok):X.Ok :=
 ⟨ok.mod,ok.kind,ok.glob,ok.blt,ok.above,ok.inj,ok.has,ok.cab,ok.hd,ok.frames,ok.stk,ok.exf,ok.bs,ok.bsz,ok.noex,ok.exfs,ok.funs,ok.frf⟩
section
variable {X:Cx} {zo:List (Addr × Obj)} {σ:St} {H:Hp} {s:Shared} {E:Value->Shared->Prop}
theorem Inv.wish (I:Inv X zo σ H s) (E:Value->Shared->Prop):Inv (X.wish E) zo σ H s:=⟨I.ok.wish E,I.os,I.bare,I.base,I.loc,I.cell,I.free,I.freeC,I.pin,I.hok,I.len⟩
theorem Inv.unwish (I:Inv (X.wish E) zo σ H s):Inv X zo σ H s:=⟨I.ok.unwish,I.os,I.bare,I.base,I.loc,I.cell,I.free,I.freeC,I.pin,I.hok,I.len⟩
theorem SP.unwish {D:Ends} {f:Flow} {s':Shared} (h:SP (X.wish E) zo D f s'):SP X zo D f s':=by
 cases f with
 | next=>obtain ⟨σ',H',I,q⟩:=h; exact ⟨σ',H',I.unwish,q⟩
 | brk=>obtain ⟨σ',H',I,q⟩:=h; exact ⟨σ',H',I.unwish,q⟩
 | cont=>obtain ⟨σ',H',I,q⟩:=h; exact ⟨σ',H',I.unwish,q⟩
 | ret u=>obtain ⟨v,σ',H',I,r,q⟩:=h; exact ⟨v,σ',H',I.unwish,r,q⟩
theorem PSs.nox {st:List Stmt} {t:TS} (h:PSs X.nox st t):PSs X st t:=fun zo s σ H D I hw =>
 wpAny_mono (h zo s σ H D (I.wish _) hw) (fun _ _ q=>q.unwish) fun _ _ z=>False.elim z
end
section
variable {X:Cx} {st:Stmt} {rest:List Stmt} {t u:TS} {e:Expr} {te:TE} {pos:Pos}
def zoL:TS:=fun D σ H=>D.nx σ H
def zf1 (t u:TS):TS:=fun D σ H=>t { D with nx:=u D } σ H
theorem zZ:PSs X [] zoL:=fun _ _ σ H _ I h=>wpAny_execs_nil ⟨σ,H,I,h⟩
theorem zj (h1:PS X st t) (h2:PSs X rest u):PSs X (st :: rest) (zf1 t u):=by
 intro zo s σ H D I h
 refine wpAny_execs_cons (thn (h1 zo s σ H { D with nx:=u D } I h) fun f s1 q=>?_)
 cases f with
 | next =>
  obtain ⟨σ',H',I',q⟩:=q
  exact h2 zo s1 σ' H' D I' q
 | ret v=>exact q
 | brk=>exact q
 | cont=>exact q
theorem zr (h1:PS X st t):PSs X [st] t:=by
 intro zo s σ H D I h
 refine wpAny_execs_cons (thn (h1 zo s σ H D I h) fun f s1 q=>?_)
 cases f with
 | next=>exact wpAny_execs_nil q
 | ret v=>exact q
 | brk=>exact q
 | cont=>exact q
theorem Inv.quiet {zo:List (Addr × Obj)} {σ:St} {H:Hp} {s:Shared} (I:Inv X zo σ H s):interactive X.env = false:=by simp [interactive,I.ok.kind]
def zrg (te:TE):TS:=fun D σ H=>te σ H fun _ H1=>D.nx σ H1
theorem zcX (he:PE X e te) (hs:swapsWith e none pos.line X.env = pure false:=by rfl):PS X (.Expr e pos) (zrg te):=by
 intro zo s σ H D I h
 exact wpAny_Expr_any (thn (he zo s σ H _ I h) fun v s1 ⟨x,H1,I1,r1,q1⟩=>⟨σ,H1,I1,q1⟩) I.quiet hs
def zr6 (te:TE):TS:=fun D σ H=>te σ H D.rt
theorem zH (he:PE X e te):PS X (.Return (some e) pos) (zr6 te):=by
 intro zo s σ H D I h
 exact wpAny_Return_some (thn (he zo s σ H _ I h) fun v s1 ⟨x,H1,I1,r1,q1⟩=>⟨x,σ,H1,I1,r1,q1⟩)
def zrT (c:TT) (t u:TS):TS:=fun D σ H=>c σ H fun b H1=>if b = true then t D σ H1 else u D σ H1
theorem zbl {c:Expr} {a b:List Stmt} {tc:TT} (hc:PT X c tc) (ha:PSs X a t) (hb:PSs X b u):PS X (.If c a b pos) (zrT tc t u):=by
 intro zo s σ H D I h
 refine wpAny_If (thn (hc zo s σ H _ I h) fun d s1 ⟨H1,I1,q1⟩=>?_)
 cases d with
 | true=>exact ha zo s1 σ H1 D I1 q1
 | false=>exact hb zo s1 σ H1 D I1 q1
end
abbrev TG:=V->St->Hp->(St->Hp->Prop)->Prop
abbrev TGs:=List V->St->Hp->(St->Hp->Prop)->Prop
def PG (X:Cx) (target:Expr) (t:TG):Prop :=
 ∀ (zo:List (Addr × Obj)) (s:Shared) (σ:St) (H:Hp) (v:V) (u:Value) (Q:St->Hp->Prop),Inv X zo σ H s->RelV v u->t v σ H Q ->
  wpAny (model X.prog X.w) X.A (assign target X.env u) (fun _ s'=>∃ σ' H',Inv X zo σ' H' s'/\Q σ' H') X.xe s
def PGs (X:Cx) (ts:List Expr) (t:TGs):Prop :=
 ∀ (zo:List (Addr × Obj)) (s:Shared) (σ:St) (H:Hp) (vs:List V) (us:List Value) (Q:St->Hp->Prop),Inv X zo σ H s->Vals vs us->t vs σ H Q ->
  wpAny (model X.prog X.w) X.A (assignInOrder ((assignEach ts X.env).map (·.2)) us) (fun _ s'=>∃ σ' H',Inv X zo σ' H' s'/\Q σ' H') X.xe s
abbrev TSet:=V->V->V->Hp->(Hp->Prop)->Prop
def PSet (X:Cx) (t:TSet):Prop :=
 ∀ (zo:List (Addr × Obj)) (s:Shared) (σ:St) (H:Hp) (o i v:V) (ov iv u:Value) (Q:Hp->Prop),Inv X zo σ H s->RelV o ov->RelV i iv->RelV v u->t o i v H Q ->
  wpAny (model X.prog X.w) X.A (setItem ov iv u) (fun _ s'=>∃ H',Inv X zo σ H' s'/\Q H') X.xe s
section
variable {X:Cx} {pos:Pos}
def zi7 (i:Nat):TG:=fun v σ H Q=>Q (σ.set i (some v)) H
theorem zy {i:Nat} {x:Str} (hN:X.N.Nodup) (hi:X.N[i]? = some x) (hx:Loc X.env.scope x) (hf:X.fn x = true\/X.env.scope.names.lookup x = some .local:=by first | exact .inl rfl | exact .inr rfl | assumption):PG X (.Name x pos) (zi7 i):=by
 intro zo s σ H v u Q I r h
 exact wpAny_assign_Name (zht I hN hi hx r (fun s' I'=>⟨_,H,I',h⟩) hf)
def zsR:TGs:=fun vs σ H Q=>vs = []/\Q σ H
def zqQ (t:TG) (u:TGs):TGs:=fun vs σ H Q=>∃ v r,vs = v :: r/\t v σ H fun σ' H'=>u r σ' H' Q
theorem zb2:PGs X [] zsR:=by
 intro zo s σ H vs us Q I r h
 obtain ⟨e,h⟩:=h
 subst e
 cases r
 exact assignInOrder_nil ⟨σ,H,I,h⟩
theorem zY {e:Expr} {es:List Expr} {t:TG} {u:TGs} (h1:PG X e t) (h2:PGs X es u)
  (hs:(assignEach (e :: es) X.env).map (·.2) = assign e X.env :: (assignEach es X.env).map (·.2):=by rfl):PGs X (e :: es) (zqQ t u):=by
 intro zo s σ H vs us Q I r h
 obtain ⟨v,vr,e1,h⟩:=h
 subst e1
 cases r with
 | cons r rr =>
  rw [hs]
  refine assignInOrder_cons (thn (h1 zo s σ H _ _ _ I r h) fun _ s1 ⟨σ1,H1,I1,q1⟩=>?_)
  exact h2 zo s1 σ1 H1 _ _ Q I1 rr q1
def zs3 (K:W.Frag) (n:Nat) (t:TGs):TG:=fun v σ H Q=>∃ a xs,v = .ref a/\SqT K H a xs/\xs.length = n/\t xs σ H Q
theorem zdk {es:List Expr} {k:Nat} {t:TGs} {n:Nat} (hc:X.calm = true) (h:PGs X es t)
  (hn:(assignEach es X.env).length = n:=by rfl) (hst:(assignEach es X.env).findIdx? (·.1) = none:=by rfl):PG X (.Tuple es k pos) (zs3 X.K n t):=by
 intro zo s σ H v u Q I r hw
 obtain ⟨a,xs,e1,hq,hl,hw⟩:=hw
 subst e1
 cases r
 obtain ⟨its,rv,ht,hz⟩:=I.tuple hq
 refine assign_Tuple_tuple (I.ok.hd hc) ht (by simp [hn,<- hl,rv.length]) hst fun h' hx=>?_
 have I1:Inv X zo σ H { s with heap:=h' }:=I.kept (t':=s.toks) fun b o e=>hx b o (Nat.ne_of_lt (Heap.lt_size e)) e
 exact h zo _ σ H xs _ Q I1 (by simpa using rv) hw
def zsM (to ti:TE) (t:TSet):TG:=fun v σ H Q=>to σ H fun o H1=>ti σ H1 fun i H2=>t o i v H2 fun H3=>Q σ H3
theorem zlH {o i:Expr} {to ti:TE} {t:TSet} (ho:PE X o to) (hi:PE X i ti) (hs:PSet X t)
  (ha:∀ v,assign (.Subscript o i pos) X.env v = (do
   let ov <- holding [v] (eval o X.env)
   let iv <- holding [v,ov] (eval i X.env)
   standAt pos
   holding [v,ov,iv] (setItem ov iv v)
   release [v,ov,iv] []):=by intro _; rfl):PG X (.Subscript o i pos) (zsM to ti t):=by
 intro zo s σ H v u Q I r h
 rw [ha]
 refine wpAny_bind (wpAny_holding (thn (ho zo s σ H _ I h) fun ov s1 ⟨x,H1,I1,r1,q1⟩=>?_))
 refine wpAny_bind (wpAny_holding (thn (hi zo s1 σ H1 _ I1 q1) fun iv s2 ⟨y,H2,I2,r2,q2⟩=>?_))
 refine wpAny_bind (wpAny_standAt (wpAny_bind (wpAny_holding (thn (hs zo s2 σ H2 x y v ov iv u _ I2 r1 r2 r q2) fun _ s3 ⟨H3,I3,q3⟩=>?_))))
 exact wpAny_release ⟨σ,H3,I3,q3⟩
def zrp (te:TE) (g:TG):TS:=fun D σ H=>te σ H fun x H1=>g x σ H1 D.nx
theorem zim {tg e:Expr} {te:TE} {g:TG} (he:PE X e te) (hg:PG X tg g) (hs:swapsWithSole [tg] e pos.line X.env = pure false:=by rfl) (hw:swappedStores [tg] e X.env = pure none:=by rfl)
  (h1:(assignEach [tg] X.env).map (·.2) = [assign tg X.env]:=by rfl):PS X (.Assign [tg] e pos) (zrp te g):=by
 intro zo s σ H D I h
 refine wpAny_Assign_stores (thn (he zo s σ H _ I h) fun v s1 ⟨x,H1,I1,r1,q1⟩=>?_) hs hw
 rw [h1]
 exact thn (hg zo s1 σ H1 x v _ I1 r1 q1) fun _ s2 q=>q
theorem zG {i:Nat} {x:Str} {e:Expr} {te:TE} {pos':Pos} (hN:X.N.Nodup) (hi:X.N[i]? = some x) (hx:Loc X.env.scope x) (he:PE X e te) (hs:swapsWith e (some (.Name x pos')) pos.line X.env = pure false:=by rfl) (hf:X.fn x = true\/X.env.scope.names.lookup x = some .local:=by first | exact .inl rfl | exact .inr rfl | assumption) :
  PS X (.Assign [.Name x pos'] e pos) (zrp te (zi7 i)):=by
 intro zo s σ H D I h
 refine wpAny_Assign_Name (thn (he zo s σ H _ I h) fun v s1 ⟨y,H1,I1,r1,q1⟩=>?_) hs
 exact zht I1 hN hi hx r1 (fun s2 I2=>⟨_,H1,I2,q1⟩) hf
end
structure It where
 go:Nat->Hp->Prop
 yld:Nat->Hp->V->Hp->Prop
 stop:Nat->Hp->Prop
def FpOk (X:Cx) (zo:List (Addr × Obj)) (H:Hp) (b:Addr):Prop :=
 H b = none/\b ≠ X.env.locals/\b ∉ X.fs/\(b ∈ X.ex\/X.s₀.heap.objs.size <= b)/\(∀ x c,X.env.cells.lookup x = some c->c ≠ b)/\∀ p ∈ X.pn ++ zo,p.1 ≠ b
theorem Inv.fpOk {X:Cx} {zo:List (Addr × Obj)} {σ:St} {H H':Hp} {s:Shared} {b:Addr} (I:Inv X zo σ H s) (hb:s.heap.objs.size <= b) (hn:H' b = none):FpOk X zo H' b:=by
 refine ⟨hn,Nat.ne_of_gt (Nat.lt_of_lt_of_le I.lt hb),I.nofs hb,.inr (Nat.le_trans I.sz hb),fun x c e z=>?_,fun p hp z=>?_⟩
 ·obtain ⟨v,q⟩:=I.cell x c e
  exact absurd (Nat.lt_of_lt_of_le q.lt (by rw [z]; exact hb)) (Nat.lt_irrefl _)
 ·exact absurd (Nat.lt_of_lt_of_le (Heap.lt_size (I.pin p hp).1) (by rw [z]; exact hb)) (Nat.lt_irrefl _)
structure Turn (P:Program) (w:World) (K:W.Frag) (tg:Expr) (J:It) (fp:List Addr) (it:Addr) (tn:Nat->Heap->Prop):Prop where
 mem:it ∈ fp
 obj:∀ i h,tn i h->∀ b ∈ fp,∃ o,h.get? b = some o/\∀ v,o.data ≠ .cell v
 keep:∀ i h h',tn i h->(∀ b ∈ fp,∀ o,h.get? b = some o->h'.get? b = some o)->tn i h'
 item:∀ (X:Cx),X.prog = P->X.w = w->X.K = K->X.calm = true->∀ (i:Nat) (zo:List (Addr × Obj)) (s:Shared) (σ:St) (H:Hp) (E:Value->Shared->Prop),Inv X zo σ H s->(∀ b ∈ fp,FpOk X zo H b)->tn i s.heap->J.go i H ->
  wpAny (model P w) X.A (pyNext (.ref it)) (fun r s1=>∃ u,r = some u /\
   wpAny (model P w) X.A (letOwnedTupleGo tg (.ref it) u) (fun _ s2=>∃ x H',Inv X zo σ H' s2/\RelV x u/\J.yld i H x H'/\tn (i + 1) s2.heap/\∀ b ∈ fp,H' b = none) E s1) E s
 done:∀ (X:Cx),X.prog = P->X.w = w->X.K = K->X.calm = true->∀ (i:Nat) (zo:List (Addr × Obj)) (s:Shared) (σ:St) (H:Hp) (E:Value->Shared->Prop),Inv X zo σ H s->(∀ b ∈ fp,FpOk X zo H b)->tn i s.heap->J.stop i H ->
  wpAny (model P w) X.A (pyNext (.ref it)) (fun r s1=>r = none/\Inv X zo σ H s1) E s
 self:∀ (A:Around) (i:Nat) (s:Shared) (Q:Value->Shared->Prop) (E:Value->Shared->Prop),tn i s.heap->Q (.ref it) s->wpAny (model P w) A (pyIter (.ref it)) Q E s
abbrev TI:=St->Hp->(It->Hp->Prop)->Prop
def PIE (X:Cx) (zo:List (Addr × Obj)) (σ:St) (tg:Expr) (R:It->Hp->Prop) (itv:Value) (s2:Shared):Prop :=
 ∃ (it:Addr) (fp:List Addr) (tn:Nat->Heap->Prop) (J:It) (H':Hp),itv = .ref it/\Inv X zo σ H' s2/\Turn X.prog X.w X.K tg J fp it tn/\tn 0 s2.heap/\(∀ b ∈ fp,FpOk X zo H' b)/\R J H'
def PI (X:Cx) (tg iter:Expr) (wi:TI):Prop :=
 ∀ (zo:List (Addr × Obj)) (s:Shared) (σ:St) (H:Hp) (R:It->Hp->Prop),Inv X zo σ H s->wi σ H R ->
  wpAny (model X.prog X.w) X.A (eval iter X.env) (fun v s1=>wpAny (model X.prog X.w) X.A (pyIter v) (PIE X zo σ tg R) X.xe s1) X.xe s
theorem zmP {M:Model} {A:Around} {E:Value->Shared->Prop} {s:Shared} {tg:Expr} {it:Addr} {u:Value} {o:Obj} {n:String} {vs:Array Value} {Q:Unit->Shared->Prop} (ho:s.heap.get? it = some o) (hc:o.cls = .type n) (hd:o.data = .fields vs)
    (hn:["enumerate","zip","dict_itemiterator","dict_reverseitemiterator","odict_iterator","itertools.zip_longest","itertools.pairwise"].contains n = false) (hQ:Q () s):wpAny M A (letOwnedTupleGo tg (.ref it) u) Q E s:=by
  unfold letOwnedTupleGo
  cases tg <;> first
    | exact wpAny_pure hQ
    | (cases u <;> first
        | exact wpAny_pure hQ
        | (refine wpAny_bind (wpAny_load ho ?_)
           rw [hc,hd]
           show wpAny M A (if (["enumerate","zip","dict_itemiterator","dict_reverseitemiterator","odict_iterator","itertools.zip_longest","itertools.pairwise"].contains n && vs[0]? == some (rawInt _)) = true then _ else _) Q E s
           rw [if_neg (by intro h; rw [hn,Bool.false_and] at h; cases h)]
           exact wpAny_pure hQ))
def Itl (K:W.Frag) (a:Addr):It :=
 ⟨fun i H=>∃ xs x,SqL K H a xs/\xs[i]? = some x,fun i H x H'=>H' = H/\∀ xs,SqL K H a xs->xs[i]? = some x,fun i H=>∃ xs,SqL K H a xs/\xs.length <= i⟩
def Itt (K:W.Frag) (a:Addr):It :=
 ⟨fun i H=>∃ xs x,SqT K H a xs/\xs[i]? = some x,fun i H x H'=>H' = H/\∀ xs,SqT K H a xs->xs[i]? = some x,fun i H=>∃ xs,SqT K H a xs/\xs.length <= i⟩
def Itr (lo:Int) (n:Nat):It:=⟨fun i _=>i < n,fun i H x H'=>H' = H/\x = .int (lo + i),fun i _=>n <= i⟩
theorem ziv {P:Program} {w:World} {K:W.Frag} {tg:Expr} (a it:Addr):Turn P w K tg (Itl K a) [it] it (fun i h=>h.IsListIter it a i) where
 mem:=by simp
 obj:=fun i h st b hb=>by
  have e:b = it:=by simpa using hb
  subst e
  obtain ⟨o,e,c,d⟩:=st
  exact ⟨o,e,fun v z=>by rw [d] at z; cases z⟩
 keep:=fun i h h' st k=>st.at fun o e=>k it (by simp) o e
 item:=by
  intro X hP hw hK hc i zo s σ H E I hf st hg
  subst hP hw hK
  obtain ⟨xs,x,hq,hx⟩:=hg
  obtain ⟨its,rv,p,hz⟩:=I.list hq
  obtain ⟨u,hu,ru⟩:=rv.get hx
  obtain ⟨f0,f1,f2,f3,f4,f5⟩:=hf it (by simp)
  refine wpAny_pyNext_list_item st p.isList (x:=u) (by simpa using hu) fun h' st' sb=>?_
  have I1:Inv X zo σ H { s with heap:=h' }:=I.turned (t':=s.toks) (fun b o hb e=>(sb.2 b hb).trans e) f0 f1 f3 f4 f5
  obtain ⟨o,e,c,d⟩:=id st'
  exact ⟨u,rfl,zmP (s:={ s with heap:=h' }) e c d (by decide) ⟨x,H,I1,ru,⟨rfl,fun ys hy=>by rw [I.list_inj hy hq]; exact hx⟩,st',fun b hb=>(hf b hb).1⟩⟩
 done:=by
  intro X hP hw hK hc i zo s σ H E I hf st hg
  subst hP hw hK
  obtain ⟨xs,hq,hx⟩:=hg
  obtain ⟨its,rv,p,hz⟩:=I.list hq
  obtain ⟨f0,f1,f2,f3,f4,f5⟩:=hf it (by simp)
  have hl:=rv.length
  exact wpAny_pyNext_list_end (I.ok.hd hc) st p.isList (by simp; omega) fun h' eb=>⟨rfl,I.turned (t':=s.toks) (fun b o hb e=>eb b o hb e) f0 f1 f3 f4 f5⟩
 self:=fun _ _ _ _ _ st h=>wpAny_pyIter_listiter st h
theorem zkE {P:Program} {w:World} {K:W.Frag} {tg:Expr} (a it:Addr):Turn P w K tg (Itt K a) [it] it (fun i h=>h.IsTupleIter it a i) where
 mem:=by simp
 obj:=fun i h st b hb=>by
  have e:b = it:=by simpa using hb
  subst e
  obtain ⟨o,e,c,d⟩:=st
  exact ⟨o,e,fun v z=>by rw [d] at z; cases z⟩
 keep:=fun i h h' st k=>st.at fun o e=>k it (by simp) o e
 item:=by
  intro X hP hw hK hc i zo s σ H E I hf st hg
  subst hP hw hK
  obtain ⟨xs,x,hq,hx⟩:=hg
  obtain ⟨its,rv,p,hz⟩:=I.tuple hq
  obtain ⟨u,hu,ru⟩:=rv.get hx
  obtain ⟨f0,f1,f2,f3,f4,f5⟩:=hf it (by simp)
  refine wpAny_pyNext_tuple_item st (show s.heap.IsTuple a its.toArray from p) (x:=u) (by simpa using hu) fun h' st' sb=>?_
  have I1:Inv X zo σ H { s with heap:=h' }:=I.turned (t':=s.toks) (fun b o hb e=>(sb.2 b hb).trans e) f0 f1 f3 f4 f5
  obtain ⟨o,e,c,d⟩:=id st'
  exact ⟨u,rfl,zmP (s:={ s with heap:=h' }) e c d (by decide) ⟨x,H,I1,ru,⟨rfl,fun ys hy=>by rw [I.tuple_inj hy hq]; exact hx⟩,st',fun b hb=>(hf b hb).1⟩⟩
 done:=by
  intro X hP hw hK hc i zo s σ H E I hf st hg
  subst hP hw hK
  obtain ⟨xs,hq,hx⟩:=hg
  obtain ⟨its,rv,p,hz⟩:=I.tuple hq
  obtain ⟨f0,f1,f2,f3,f4,f5⟩:=hf it (by simp)
  have hl:=rv.length
  exact wpAny_pyNext_tuple_end (I.ok.hd hc) st (show s.heap.IsTuple a its.toArray from p) (by simp; omega) fun h' eb=>⟨rfl,I.turned (t':=s.toks) (fun b o hb e=>eb b o hb e) f0 f1 f3 f4 f5⟩
 self:=fun _ _ _ _ _ st h=>wpAny_pyIter_tupleiter st h
theorem zkL {P:Program} {w:World} {K:W.Frag} {tg:Expr} (it:Addr) (lo:Int) (n:Nat):Turn P w K tg (Itr lo n) [it] it (fun i h=>IsRangeIter h it (lo + (i:Nat) * 1) ((n:Int) - (i:Nat)) 1) where
 mem:=by simp
 obj:=fun i h st b hb=>by
  have e:b = it:=by simpa using hb
  subst e
  exact ⟨_,st,fun v z=>by
   have z':Data.fields _ = Data.cell v:=z
   cases z'⟩
 keep:=fun i h h' st k=>k it (by simp) _ st
 item:=by
  intro X hP hw hK hc i zo s σ H E I hf st hg
  subst hP hw hK
  obtain ⟨f0,f1,f2,f3,f4,f5⟩:=hf it (by simp)
  have W:=Walks.range (prog:=X.prog) (w:=X.w) (I.ok.hd hc) it lo 1 n
  refine W.item i s _ _ hg st fun v h' tk hv st' kk=>?_
  obtain ⟨t,rfl⟩:=hv
  have I1:Inv X zo σ H { s with heap:=h',toks:=tk }:=I.turned (fun b o hb e=>kk b o (by simpa using hb) e) f0 f1 f3 f4 f5
  refine ⟨_,rfl,zmP (s:={ s with heap:=h',toks:=tk }) (n:="range_iterator") st' rfl rfl (by decide) ⟨.int (lo + i),H,I1,⟨t,?_⟩,⟨rfl,rfl⟩,st',fun b hb=>(hf b hb).1⟩⟩
  rw [Int.mul_one]
 done:=by
  intro X hP hw hK hc i zo s σ H E I hf st hg
  subst hP hw hK
  obtain ⟨f0,f1,f2,f3,f4,f5⟩:=hf it (by simp)
  exact wpAny_pyNext_range_end (I.ok.hd hc) st (by have:n <= i:=hg; omega) fun h' eb=>⟨rfl,I.turned (t':=s.toks) (fun b o hb e=>eb b o hb e) f0 f1 f3 f4 f5⟩
 self:=fun _ _ _ _ _ st h=>wpAny_pyIter_rangeiter st h
end
section
section
variable {X:Cx} {tg:Expr}
def zpS (K:W.Frag) (tl:TE):TI:=fun σ H R=>tl σ H fun x H1=>∃ a,x = .ref a/\(∃ xs,SqL K H1 a xs)/\R (Itl K a) H1
theorem zpO {l:Expr} {tl:TE} (hl:PE X l tl):PI X tg l (zpS X.K tl):=by
 intro zo s σ H R I h
 refine thn (hl zo s σ H _ I h) fun v s1 ⟨x,H1,I1,r1,q1⟩=>?_
 obtain ⟨a,e,⟨xs,hq⟩,q⟩:=q1
 subst e
 cases r1
 obtain ⟨its,rv,p,hz⟩:=I1.list hq
 refine wpAny_pyIter_list p.isList ?_
 refine ⟨s1.heap.objs.size,[s1.heap.objs.size],_,_,H1,rfl,I1.kept (t':=s1.toks) fun b o e=>Heap.get?_push_of_some _ e,ziv a _,⟨_,Heap.get?_push_size _ rfl,rfl,rfl⟩,fun b hb=>?_,q⟩
 have e:b = s1.heap.objs.size:=by simpa using hb
 subst e
 exact I1.fpOk (Nat.le_refl _) (I1.hok.fresh (Nat.le_refl _))
def zpV (wi:TI) (g:TG) (tb:TS):TS:=fun D σ H=>wi σ H fun J H1=>∃ W:Nat->Nat->St->Hp->Prop,(∃ m,W 0 m σ H1)/\∀ i m σ H,W i m σ H ->
 (J.stop i H/\D.nx σ H)\/(J.go i H/\∃ N:St->Hp->Prop,(∀ σ' H',N σ' H'->∃ m',m' < m/\W (i + 1) m' σ' H')/\∀ x H',J.yld i H x H'->g x σ H' fun σ2 H2=>tb { D with nx:=N,ct:=N,bk:=D.nx } σ2 H2)
def ziV (fp:List Addr) (h:Heap):List (Addr × Obj):=fp.filterMap fun b=>(h.get? b).map fun o=>(b,o)
theorem zeD {fp:List Addr} {h:Heap} {b:Addr} {o:Obj} (hb:b ∈ fp) (e:h.get? b = some o):(b,o) ∈ ziV fp h:=List.mem_filterMap.mpr ⟨b,hb,by rw [e]; rfl⟩
theorem zlQ {fp:List Addr} {h:Heap} {p:Addr × Obj} (hp:p ∈ ziV fp h):p.1 ∈ fp/\h.get? p.1 = some p.2:=by
 obtain ⟨b,hb,e⟩:=List.mem_filterMap.mp hp
 cases q:h.get? b with
 | none=>rw [q] at e; cases e
 | some o =>
  rw [q] at e
  have e':(b,o) = p:=Option.some.inj e
  subst e'
  exact ⟨hb,q⟩
theorem Inv.pinned {zo:List (Addr × Obj)} {σ:St} {H:Hp} {s:Shared} {fp:List Addr} (I:Inv X zo σ H s) (hf:∀ b ∈ fp,FpOk X zo H b) (ho:∀ b ∈ fp,∃ o,s.heap.get? b = some o/\∀ v,o.data ≠ .cell v):Inv X (zo ++ ziV fp s.heap) σ H s :=
 I.pins_of fun p hp=>(List.mem_append.mp hp).elim (fun z=>I.pin p (List.mem_append_right _ z)) fun z=>by
  obtain ⟨hb,e⟩:=zlQ z
  obtain ⟨f0,f1,f2,_⟩:=hf p.1 hb
  obtain ⟨o,e',d⟩:=ho p.1 hb
  rw [e] at e'; cases e'
  exact ⟨e,f0,f1,f2,d⟩
theorem Inv.unpinned {zo pl:List (Addr × Obj)} {σ:St} {H:Hp} {s:Shared} (I:Inv X (zo ++ pl) σ H s):Inv X zo σ H s:=I.pins_of fun p hp=>I.pin p (List.mem_append_right _ (List.mem_append_left _ hp))
theorem zbc {iter:Expr} {body:List Stmt} {wi:TI} {g:TG} {tb:TS} {pos:Pos} (hp:PassesOwn (model X.prog X.w) X.A X.env X.xe) (hc:X.calm = true) (hi:PI X tg iter wi) (hg:PG X tg g) (hb:PSs X body tb)
  (hs:∀ x,foldedSetIterable iter X.env x = pure x:=by intro _; rfl):PS X (.For tg iter body [] pos) (zpV wi g tb):=by
 intro zo s σ H D I h
 refine wpAny_For (thn (hi zo s σ H _ I h) fun v s1 h1=>thn h1 fun itv s2 h2=>?_) hs
 obtain ⟨it,fp,tn,J,H2,e,I2,T,st2,f2,W,⟨m0,w0⟩,turn⟩:=h2
 subst e
 -- what stays true of the iterator's objects through the loop
 have stat:∀ {H':Hp},(∀ b ∈ fp,H' b = none)->∀ b ∈ fp,FpOk X zo H' b:=fun hn b hb=>⟨hn b hb,(f2 b hb).2⟩
 refine codeAny_forLoop_any (fun n s'=>∃ i σ' H',Inv X zo σ' H' s'/\tn i s'.heap/\(∀ b ∈ fp,H' b = none)/\W i n σ' H') ?_ m0 ⟨0,σ,H2,I2,st2,fun b hb=>(f2 b hb).1,w0⟩
 rintro n s3 ⟨i,σ3,H3,I3,st3,fr3,w3⟩
 rcases turn i n σ3 H3 w3 with ⟨stop,qn⟩ | ⟨go,N,hN,step⟩
 ·refine wpAny_passesOwn hp (thn (T.done X rfl rfl rfl hc i zo s3 σ3 H3 X.xe I3 (stat fr3) st3 stop) fun r s4 ⟨hr,I4⟩=>?_)
  subst hr
  exact wpAny_execs_nil ⟨σ3,H3,I4,qn⟩
 ·refine wpAny_passesOwn hp (thn (T.item X rfl rfl rfl hc i zo s3 σ3 H3 X.xe I3 (stat fr3) st3 go) fun r s4 ⟨u,hr,h4⟩=>?_)
  subst hr
  refine wpAny_passesOwn hp (thn h4 fun _ s5 ⟨x,H5,I5,r5,y5,st5,fr5⟩=>?_)
  have I5':=I5.pinned (stat fr5) (T.obj _ _ st5)
  refine wpAny_passesOwn hp (thn (hg _ s5 σ3 H5 x u _ I5' r5 (step x H5 y5)) fun _ s6 ⟨σ6,H6,I6,q6⟩=>?_)
  refine wpAny_passesOwn hp (thn (hb _ s6 σ6 H6 _ I6 q6) fun f s7 q7=>?_)
  have again:∀ {σ7:St} {H7:Hp},Inv X (zo ++ ziV fp s5.heap) σ7 H7 s7->N σ7 H7->∃ m,m < n/\∃ i σ' H',Inv X zo σ' H' s7/\tn i s7.heap/\(∀ b ∈ fp,H' b = none)/\W i m σ' H':=fun {σ7 H7} I7 n7=>by
   obtain ⟨m',hm,w7⟩:=hN σ7 H7 n7
   refine ⟨m',hm,i + 1,σ7,H7,I7.unpinned,T.keep _ _ _ st5 fun b hb o e=>(I7.pin (b,o) (List.mem_append_right _ (List.mem_append_right _ (zeD hb e)))).1,fun b hb=>?_,w7⟩
   obtain ⟨o,e,d⟩:=T.obj _ _ st5 b hb
   exact (I7.pin (b,o) (List.mem_append_right _ (List.mem_append_right _ (zeD hb e)))).2.1
  cases f with
  | next=>obtain ⟨σ7,H7,I7,n7⟩:=q7; exact again I7 n7
  | cont=>obtain ⟨σ7,H7,I7,n7⟩:=q7; exact again I7 n7
  | brk=>obtain ⟨σ7,H7,I7,q7⟩:=q7; exact ⟨σ7,H7,I7.unpinned,q7⟩
  | ret v=>obtain ⟨x7,σ7,H7,I7,r7,q7⟩:=q7; exact ⟨x7,σ7,H7,I7.unpinned,r7,q7⟩
end
theorem zmz {K:W.Frag} {a:Addr} {xs:List V} {g:TG} {tb:TS} {D:Ends} {σ:St} {H:Hp} (Pv:Nat->St->Hp->Prop) (h0:Pv 0 σ H) (hl:∀ i σ H,i <= xs.length->Pv i σ H->SqL K H a xs)
  (hs:∀ i x σ H,xs[i]? = some x->Pv i σ H->g x σ H fun σ2 H2=>tb { D with nx:=Pv (i + 1),ct:=Pv (i + 1),bk:=D.nx } σ2 H2) (hd:∀ σ H,Pv xs.length σ H->D.nx σ H) :
  ∃ W:Nat->Nat->St->Hp->Prop,(∃ m,W 0 m σ H)/\∀ i m σ H,W i m σ H ->
   ((Itl K a).stop i H/\D.nx σ H)\/((Itl K a).go i H/\∃ N:St->Hp->Prop,(∀ σ' H',N σ' H'->∃ m',m' < m/\W (i + 1) m' σ' H')/\∀ x H',(Itl K a).yld i H x H'->g x σ H' fun σ2 H2=>tb { D with nx:=N,ct:=N,bk:=D.nx } σ2 H2):=by
 refine ⟨fun i m σ H=>m = xs.length - i/\i <= xs.length/\Pv i σ H,⟨xs.length,by simp,Nat.zero_le _,h0⟩,?_⟩
 rintro i m σ H ⟨rfl,hi,p⟩
 have q:=hl i σ H hi p
 by_cases hlt:i < xs.length
 ·refine .inr ⟨⟨xs,xs[i],q,by simp [hlt]⟩,Pv (i + 1),fun σ' H' p'=>⟨xs.length - (i + 1),by omega,rfl,hlt,p'⟩,fun x H' y=>?_⟩
  obtain ⟨e,y⟩:=y
  subst e
  exact hs i x σ _ (y xs q) p
 ·have e:i = xs.length:=by omega
  subst e
  exact .inl ⟨⟨xs,q,Nat.le_refl _⟩,hd σ H p⟩
end
section
abbrev R2:=V->V->Hp->VK->Prop
def OpR (X:Cx) (f:Value->Value->Sem Value) (r:R2):Prop :=
 ∀ (zo:List (Addr × Obj)) (s:Shared) (σ:St) (H:Hp) (x y:V) (v u:Value) (Q:VK),Inv X zo σ H s->RelV x v->RelV y u->r x y H Q ->
  wpAny (model X.prog X.w) X.A (f v u) (EP X zo σ Q) X.xe s
def UnR (X:Cx) (f:Value->Sem Value) (r:V->Hp->VK->Prop):Prop :=
 ∀ (zo:List (Addr × Obj)) (s:Shared) (σ:St) (H:Hp) (x:V) (v:Value) (Q:VK),Inv X zo σ H s->RelV x v->r x H Q ->
  wpAny (model X.prog X.w) X.A (f v) (EP X zo σ Q) X.xe s
def CallR (X:Cx) (f:Value) (r:List V->Hp->VK->Prop):Prop :=
 ∀ (zo:List (Addr × Obj)) (s:Shared) (σ:St) (H:Hp) (xs:List V) (us:List Value) (Q:VK),Inv X zo σ H s->Vals xs us->r xs H Q ->
  wpAny (model X.prog X.w) X.A (call f us) (EP X zo σ Q) X.xe s
def TruR (X:Cx) (r:V->Hp->(Bool->Hp->Prop)->Prop):Prop :=
 ∀ (zo:List (Addr × Obj)) (s:Shared) (σ:St) (H:Hp) (x:V) (v:Value) (Q:Bool->Hp->Prop),Inv X zo σ H s->RelV x v->r x H Q ->
  wpAny (model X.prog X.w) X.A (truthy v) (TP X zo σ Q) X.xe s
def tOp (r:R2) (ta tb:TE):TE:=fun σ H Q=>ta σ H fun x H1=>tb σ H1 fun y H2=>r x y H2 Q
def tUn (r:V->Hp->VK->Prop) (ta:TE):TE:=fun σ H Q=>ta σ H fun x H1=>r x H1 Q
def rI (C:Int->Int->Prop) (g:Int->Int->V):R2:=fun x y H Q=>∃ i j,x = .int i/\y = .int j/\C i j/\Q (g i j) H
def rI0 (g:Int->Int->V):R2:=fun x y H Q=>∃ i j,x = .int i/\y = .int j/\Q (g i j) H
def rU (g:Int->V):V->Hp->VK->Prop:=fun x H Q=>∃ i,x = .int i/\Q (g i) H
section
variable {X:Cx} {a b c:Expr} {ta tb tc:TE} {pos:Pos}
theorem zsd (ha:PE X a ta) (hb:PE X b tb) {zo:List (Addr × Obj)} {s:Shared} {σ:St} {H:Hp} {R:V->V->Hp->Prop} (I:Inv X zo σ H s)
  (h:ta σ H fun x H1=>tb σ H1 fun y H2=>R x y H2) {Q:Value->Shared->Prop} {f:Value->Value->Sem Value}
  (hf:∀ v u s2 x y H2,Inv X zo σ H2 s2->RelV x v->RelV y u->R x y H2->wpAny (model X.prog X.w) X.A (f v u) Q X.xe s2) :
  wpAny (model X.prog X.w) X.A (eval a X.env) (fun v s₁=>wpAny (model X.prog X.w) X.A (eval b X.env) (fun u s₂=>wpAny (model X.prog X.w) X.A (f v u) Q X.xe s₂) X.xe s₁) X.xe s:=by
 refine thn (ha zo s σ H _ I h) fun v s1 ⟨x,H1,I1,r1,q1⟩=>?_
 refine thn (hb zo s1 σ H1 _ I1 q1) fun u s2 ⟨y,H2,I2,r2,q2⟩=>?_
 exact hf v u s2 x y H2 I2 r1 r2 q2
theorem zI {op:Operator} {r:R2} (ho:OpR X (binaryOp op) r) (ha:PE X a ta) (hb:PE X b tb):PE X (.BinOp a op b pos) (tOp r ta tb):=by
 intro zo s σ H Q I h
 exact wpAny_BinOp (zsd ha hb I h fun v u s2 x y H2 I2 rx ry q=>ho zo s2 σ H2 x y v u Q I2 rx ry q)
theorem zec {op:UnaryOp} {r:V->Hp->VK->Prop} (ho:UnR X (unaryOp op) r) (ha:PE X a ta):PE X (.UnaryOp op a pos) (tUn r ta):=by
 intro zo s σ H Q I h
 exact UnaryOp_ (thn (ha zo s σ H _ I h) fun v s1 ⟨x,H1,I1,r1,q1⟩=>ho zo s1 σ H1 x v Q I1 r1 q1)
theorem opI {f:Value->Value->Sem Value} {C:Int->Int->Prop} {g:Int->Int->Int}
  (rule:∀ (i j:Int) (t u:Tok) (s:Shared) (Q:Value->Shared->Prop) (E:Value->Shared->Prop),C i j->Q (.int (g i j) s.toks) { s with toks:=s.toks + 1 }->wpAny (model X.prog X.w) X.A (f (.int i t) (.int j u)) Q E s) :
  OpR X f (rI C fun i j=>.int (g i j)):=by
 intro zo s σ H x y v u Q I rx ry h
 obtain ⟨i,j,rfl,rfl,hc,q⟩:=h
 obtain ⟨t,rfl⟩:=rx
 obtain ⟨t',rfl⟩:=ry
 exact rule i j t t' s _ _ hc ⟨.int (g i j),H,I.tok _,⟨_,rfl⟩,q⟩
theorem zsL {f:Value->Value->Sem Value} {g:Int->Int->Int}
  (rule:∀ (i j:Int) (t u:Tok) (s:Shared) (Q:Value->Shared->Prop) (E:Value->Shared->Prop),Q (.int (g i j) s.toks) { s with toks:=s.toks + 1 }->wpAny (model X.prog X.w) X.A (f (.int i t) (.int j u)) Q E s) :
  OpR X f (rI0 fun i j=>.int (g i j)):=by
 intro zo s σ H x y v u Q I rx ry h
 obtain ⟨i,j,rfl,rfl,q⟩:=h
 obtain ⟨t,rfl⟩:=rx
 obtain ⟨t',rfl⟩:=ry
 exact rule i j t t' s _ _ ⟨.int (g i j),H,I.tok _,⟨_,rfl⟩,q⟩
theorem zrS {f:Value->Value->Sem Value} {g:Int->Int->Bool}
  (rule:∀ (i j:Int) (t u:Tok) (s:Shared) (Q:Value->Shared->Prop) (E:Value->Shared->Prop),Q (.bool (g i j)) s->wpAny (model X.prog X.w) X.A (f (.int i t) (.int j u)) Q E s) :
  OpR X f (rI0 fun i j=>.bl (g i j)):=by
 intro zo s σ H x y v u Q I rx ry h
 obtain ⟨i,j,rfl,rfl,q⟩:=h
 obtain ⟨t,rfl⟩:=rx
 obtain ⟨t',rfl⟩:=ry
 exact rule i j t t' s _ _ ⟨.bl (g i j),H,I,rfl,q⟩
def CDivN (i j:Int):Prop:=j ≠ 0/\j.natAbs < 1073741824
def CPow (i j:Int):Prop:=0 <= j/\j <= 1000000/\i.natAbs < 2 ^ 64
theorem zqa:OpR X (binaryOp .Add) (rI0 fun i j=>.int (i + j)):=zsL fun _ _ _ _ _ _ _ q=>add_int q
theorem zcd:OpR X (binaryOp .Sub) (rI0 fun i j=>.int (i - j)):=zsL fun _ _ _ _ _ _ _ q=>sub_int q
theorem znj:OpR X (binaryOp .FloorDiv) (rI CDivN fun i j=>.int (i.fdiv j)):=opI fun _ _ _ _ _ _ _ hc q=>floordiv_int hc.1 q (.inl (PyProof.noPylong_small hc.2))
theorem zfm:OpR X (binaryOp .Mod) (rI (fun _ j=>0 < j) fun i j=>.int (i % j)):=opI fun i j _ _ _ _ _ hc q=>by
 have h1:(0:Int) < j:=hc
 exact mod_int' (by omega) (by rw [Int.fmod_eq_emod_of_nonneg i (by omega)]; exact q)
theorem zg6:OpR X (binaryOp .Pow) (rI CPow fun i j=>.int (i ^ j.toNat)):=opI fun _ _ _ _ _ _ _ hc q=>pow_int_small hc.1 hc.2.1 hc.2.2 q
theorem unI {f:Value->Sem Value} {g:Int->Int}
  (rule:∀ (i:Int) (t:Tok) (s:Shared) (Q:Value->Shared->Prop) (E:Value->Shared->Prop),Q (.int (g i) s.toks) { s with toks:=s.toks + 1 }->wpAny (model X.prog X.w) X.A (f (.int i t)) Q E s) :
  UnR X f (rU fun i=>.int (g i)):=by
 intro zo s σ H x v Q I rx h
 obtain ⟨i,rfl,q⟩:=h
 obtain ⟨t,rfl⟩:=rx
 exact rule i t s _ _ ⟨.int (g i),H,I.tok _,⟨_,rfl⟩,q⟩
theorem zcw:UnR X (unaryOp .USub) (rU fun i=>.int (-i)):=unI fun _ _ _ _ _ q=>neg_int q
end
section
variable {X:Cx} {a b c:Expr} {ta tb tc:TE} {pos:Pos}
theorem zq1 {zo:List (Addr × Obj)} {σ:St} {H:Hp} {s:Shared} {Q:VK} {k k':Bool} (I:Inv X zo σ H s) (q:Q (.bl k) H) (e:k = k'):EP X zo σ Q (.bool k') s:=by
 subst e
 exact ⟨.bl k,H,I,rfl,q⟩
theorem zjw:OpR X (compareOp .Lt) (rI0 fun i j=>.bl (decide (i < j))):=zrS fun _ _ _ _ _ _ _ q=>lt_int q
theorem zlp:OpR X (compareOp .LtE) (rI0 fun i j=>.bl (decide (i <= j))):=zrS fun _ _ _ _ _ _ _ q=>le_int q
theorem zkF:OpR X (compareOp .Gt) (rI0 fun i j=>.bl (decide (j < i))):=zrS fun _ _ _ _ _ _ _ q=>gt_int q
theorem znu:OpR X (compareOp .GtE) (rI0 fun i j=>.bl (decide (j <= i))):=zrS fun _ _ _ _ _ _ _ q=>ge_int q
theorem zrk:OpR X (compareOp .Is) (fun x y H Q=>y = .non/\Q (.bl (decide (x = .non))) H):=by
 intro zo s σ H x y v u Q I rx ry h
 obtain ⟨rfl,q⟩:=h
 cases ry
 refine is_none_gen (zq1 I q ?_)
 cases x <;> first
  | (cases rx; rfl)
  | (obtain ⟨t,rfl⟩:=rx; rfl)
theorem OpR.or {f:Value->Value->Sem Value} {r r':R2} (h:OpR X f r) (h':OpR X f r'):OpR X f (fun x y H Q=>r x y H Q\/r' x y H Q):=by
 intro zo s σ H x y v u Q I rx ry q
 rcases q with q | q
 ·exact h zo s σ H x y v u Q I rx ry q
 ·exact h' zo s σ H x y v u Q I rx ry q
theorem nomark (b:Expr) {op:CmpOp} (h:op ≠ .In:=by decide) (h2:op ≠ .NotIn:=by decide):behindInMarks op b = false:=by
 have e1:(op == CmpOp.In) = false:=by cases op <;> first | rfl | exact absurd rfl h
 have e2:(op == CmpOp.NotIn) = false:=by cases op <;> first | rfl | exact absurd rfl h2
 cases b <;> simp [behindInMarks,e1,e2]
theorem zcz {op:CmpOp} {r:R2} (ho:OpR X (compareOp op) r) (ha:PE X a ta) (hb:PE X b tb) (hm:behindInMarks op b = false):PE X (.Compare a [op] [b] pos) (tOp r ta tb):=by
 intro zo s σ H Q I h
 exact wpAny_Compare1 (zsd ha hb I h fun v u s2 x y H2 I2 rx ry q=>ho zo s2 σ H2 x y v u Q I2 rx ry q) hm
def zlg (t:TE):TT:=fun σ H Q=>t σ H fun x H'=>∃ k,x = .bl k/\Q k H'
theorem zal {op:CmpOp} {r:R2} (ho:OpR X (compareOp op) r) (ha:PE X a ta) (hb:PE X b tb) (hm:behindInMarks op b = false):PT X (.Compare a [op] [b] pos) (zlg (tOp r ta tb)):=by
 intro zo s σ H Q I h
 refine wpAny_isTrue_Compare1 (thn (ha zo s σ H _ I h) fun v s1 ⟨x,H1,I1,r1,q1⟩=>thn (hb zo s1 σ H1 _ I1 q1) fun u s2 ⟨y,H2,I2,r2,q2⟩ =>
  thn (ho zo s2 σ H2 x y v u _ I2 r1 r2 q2) fun c s3 ⟨z,H3,I3,r3,k,e,q3⟩=>?_) hm
 subst e
 cases r3
 exact wpAny_truthy_bool ⟨H3,I3,q3⟩
def zlR (r r':R2) (ta tb tc:TE):TE:=fun σ H Q=>ta σ H fun x H1=>tb σ H1 fun y H2=>r x y H2 fun z H3=>∃ k,z = .bl k /\
 (if k = true then tc σ H3 fun w' H4=>r' y w' H4 Q else Q (.bl false) H3)
theorem zjL {op op':CmpOp} {r r':R2} (ho:OpR X (compareOp op) r) (ho':OpR X (compareOp op') r') (ha:PE X a ta) (hb:PE X b tb) (hc:PE X c tc)
  (hm:lastMarks [op,op'] [b,c] = false:=by with_unfolding_all rfl):PE X (.Compare a [op,op'] [b,c] pos) (zlR r r' ta tb tc):=by
 intro zo s σ H Q I h
 refine Compare_chain (thn (ha zo s σ H _ I h) fun v s1 ⟨x,H1,I1,r1,q1⟩=>chain_link (thn (hb zo s1 σ H1 _ I1 q1) fun u s2 ⟨y,H2,I2,r2,q2⟩ =>
  thn (ho zo s2 σ H2 x y v u _ I2 r1 r2 q2) fun d s3 ⟨z,H3,I3,r3,k,e,q3⟩=>?_)) hm
 subst e
 cases r3
 refine wpAny_truthy_bool ?_
 cases k with
 | false=>exact ite_ff ⟨.bl false,H3,I3,rfl,q3⟩
 | true=>exact ite_tt (chain_last (thn (hc zo s3 σ H3 _ I3 q3) fun w' s4 ⟨z',H4,I4,r4,q4⟩=>ho' zo s4 σ H4 y z' u w' Q I4 r2 r4 q4))
theorem zmB {op op':CmpOp} {r r':R2} (ho:OpR X (compareOp op) r) (ho':OpR X (compareOp op') r') (ha:PE X a ta) (hb:PE X b tb) (hc:PE X c tc)
  (hm:lastMarks [op,op'] [b,c] = false:=by with_unfolding_all rfl):PT X (.Compare a [op,op'] [b,c] pos) (zlg (zlR r r' ta tb tc)):=by
 intro zo s σ H Q I h
 refine isTrue_chain (thn (ha zo s σ H _ I h) fun v s1 ⟨x,H1,I1,r1,q1⟩=>test_link (thn (hb zo s1 σ H1 _ I1 q1) fun u s2 ⟨y,H2,I2,r2,q2⟩ =>
  thn (ho zo s2 σ H2 x y v u _ I2 r1 r2 q2) fun d s3 ⟨z,H3,I3,r3,k,e,q3⟩=>?_)) hm
 subst e
 cases r3
 refine wpAny_truthy_bool ?_
 cases k with
 | false =>
  obtain ⟨k',e',q'⟩:=q3
  cases e'
  exact ite_ff ⟨H3,I3,q'⟩
 | true =>
  refine ite_tt (test_last (thn (hc zo s3 σ H3 _ I3 q3) fun w' s4 ⟨z',H4,I4,r4,q4⟩=>thn (ho' zo s4 σ H4 y z' u w' _ I4 r2 r4 q4) fun d' s5 ⟨z2,H5,I5,r5,k2,e2,q5⟩=>?_))
  subst e2
  cases r5
  exact wpAny_truthy_bool ⟨H5,I5,q5⟩
def TruV (K:W.Frag) (x:V) (H:Hp) (k:Bool):Prop :=
 match x with
 | .non=>k = false
 | .bl b=>k = b
 | .int i=>k = (i != 0)
 | .str y=>y.length <= sizeLine/\k = ((y.length:Int) != 0)
 | .byt y=>y.size <= sizeLine/\k = ((y.size:Int) != 0)
 | .ref p=>(∃ xs,SqL K H p xs/\k = !xs.isEmpty)\/(∃ xs,SqT K H p xs/\k = !xs.isEmpty)\/∃ kvs,H p = some (.dK kvs)/\k = !kvs.isEmpty
 | _=>False
theorem zkn {κ:Type} {kvs:List (κ × V)} {vs:List (κ × Value)} (r:KV kvs vs):(!vs.isEmpty) = !kvs.isEmpty:=by
 cases r <;> rfl
theorem zg7 {xs:List V} {its:List Value} (r:Vals xs its):(!its.toArray.isEmpty) = !xs.isEmpty:=by
 cases r <;> simp
theorem line63:(sizeLine:Nat) < 2 ^ 63:=by rw [sizeLine_eq]; decide
theorem zrf:TruR X (fun x H Q=>∃ k,TruV X.K x H k/\Q k H):=by
 intro zo s σ H x v Q I rx h
 obtain ⟨k,e,q⟩:=h
 have hl:=line63
 have hs:sizeLine = 16777216:=sizeLine_eq
 cases x with
 | non =>
  cases rx
  have e':k = false:=e
  subst e'
  exact truthy_none ⟨H,I,q⟩
 | bl b =>
  cases rx
  have e':k = b:=e
  subst e'
  exact wpAny_truthy_bool ⟨H,I,q⟩
 | int i =>
  obtain ⟨t,rfl⟩:=rx
  have e':k = (i != 0):=e
  subst e'
  exact PySem.P.truthy_int ⟨H,I,q⟩
 | str y =>
  obtain ⟨t,rfl⟩:=rx
  obtain ⟨hy,e'⟩:y.length <= sizeLine/\k = ((y.length:Int) != 0):=e
  subst e'
  exact PySem.P.truthy_str (by omega) ⟨H,I.tok _,q⟩
 | byt y =>
  obtain ⟨t,rfl⟩:=rx
  obtain ⟨hy,e'⟩:y.size <= sizeLine/\k = ((y.size:Int) != 0):=e
  subst e'
  exact PySem.W.truthy_bytes (by omega) ⟨H,I.tok _,q⟩
 | ref p =>
  cases rx
  have e':(∃ xs,SqL X.K H p xs/\k = !xs.isEmpty)\/(∃ xs,SqT X.K H p xs/\k = !xs.isEmpty)\/∃ kvs,H p = some (.dK kvs)/\k = !kvs.isEmpty:=e
  rcases e' with ⟨xs,hx,e'⟩ | ⟨xs,hx,e'⟩ | ⟨kvs,hx,e'⟩
  ·subst e'
   obtain ⟨its,r,pl,hz⟩:=I.list hx
   have hlen:=r.length
   exact wpAny_truthy_list pl.isList (by simp only [List.size_toArray]; omega) ⟨H,I.tok _,by rw [zg7 r]; exact q⟩
  ·subst e'
   obtain ⟨its,r,pl,hz⟩:=I.tuple hx
   have hlen:=r.length
   exact truthy_tuple pl (by simp only [List.size_toArray]; omega) ⟨H,I.tok _,by rw [zg7 r]; exact q⟩
  ·subst e'
   obtain ⟨hz,hS,vs,r,m⟩:kvs.length <= sizeLine/\(p == sysModules) = false/\∃ vs,KV kvs vs/\s.heap.DictOf (zcn X.prog X.w) p vs:=I.hok p _ hx
   have hlen:kvs.length = vs.length:=Paired.length r
   exact wpAny_truthy_dict hS m (by omega) ⟨H,I.tok _,by rw [zkn r]; exact q⟩
 | _=>exact (show False from e).elim
theorem zaF (ha:PE X a ta) (he:∀ whole,isTrue a X.env whole = (do let v <- whole; standAt a.pos; holding [v] (truthy v))) :
  PT X a (fun σ H Q=>ta σ H fun x H'=>∃ k,TruV X.K x H' k/\Q k H'):=by
 intro zo s σ H Q I h
 exact isTrue_plain (thn (ha zo s σ H _ I h) fun v s1 ⟨x,H1,I1,r1,q1⟩=>zrf zo s1 σ H1 x v Q I1 r1 q1) (he _)
theorem zkh:OpR X (binaryOp .Add) (fun x y H Q=>∃ i j,x = .str i/\y = .str j/\i.length + j.length <= sizeLine/\Q (.str (i ++ j)) H):=by
 intro zo s σ H x y v u Q I rx ry h
 obtain ⟨i,j,rfl,rfl,hz,q⟩:=h
 obtain ⟨t,rfl⟩:=rx
 obtain ⟨t',rfl⟩:=ry
 exact add_str (fun t' tk=>⟨.str (i ++ j),H,I.tok _,⟨_,rfl⟩,q⟩) hz
theorem vals1 {x:V} {us:List Value} (r:Vals [x] us):∃ u,us = [u]/\RelV x u:=by
 cases r with
 | cons r1 r2=>cases r2; exact ⟨_,rfl,r1⟩
theorem vals2 {x y:V} {us:List Value} (r:Vals [x,y] us):∃ u w',us = [u,w']/\RelV x u/\RelV y w':=by
 cases r with
 | cons r1 r2 =>
  cases r2 with
  | cons r3 r4=>cases r4; exact ⟨_,_,rfl,r1,r3⟩
theorem zgA (hc:X.calm = true):CallR X (.builtin "max") (fun xs H Q=>∃ i j,xs = [.int i,.int j]/\Q (.int (if j > i then j else i)) H):=by
 intro zo s σ H xs us Q I r h
 obtain ⟨i,j,rfl,q⟩:=h
 obtain ⟨u,w',rfl,⟨t,rfl⟩,⟨t',rfl⟩⟩:=vals2 r
 refine max_two_ints (I.ok.hd hc) fun h' tk k=>⟨_,H,I.kept k,?_,q⟩
 by_cases hj:j > i
 ·rw [if_pos hj,if_pos hj]; exact ⟨_,rfl⟩
 ·rw [if_neg hj,if_neg hj]; exact ⟨_,rfl⟩
theorem ziF (hc:X.calm = true):CallR X (.builtin "min") (fun xs H Q=>∃ i j,xs = [.int i,.int j]/\Q (.int (if j < i then j else i)) H):=by
 intro zo s σ H xs us Q I r h
 obtain ⟨i,j,rfl,q⟩:=h
 obtain ⟨u,w',rfl,⟨t,rfl⟩,⟨t',rfl⟩⟩:=vals2 r
 refine min_two_ints (I.ok.hd hc) fun h' tk k=>⟨_,H,I.kept k,?_,q⟩
 by_cases hj:j < i
 ·rw [if_pos hj,if_pos hj]; exact ⟨_,rfl⟩
 ·rw [if_neg hj,if_neg hj]; exact ⟨_,rfl⟩
theorem zml:CallR X (.type "int") (fun xs H Q=>(∃ i,xs = [.int i]/\Q (.int i) H)\/∃ k,xs = [.bl k]/\Q (.int (if k then 1 else 0)) H):=by
 intro zo s σ H xs us Q I r h
 rcases h with ⟨i,rfl,q⟩ | ⟨k,rfl,q⟩
 ·obtain ⟨u,rfl,t,rfl⟩:=vals1 r
  exact call_int_int ⟨.int i,H,I,⟨_,rfl⟩,q⟩
 ·obtain ⟨u,rfl,r1⟩:=vals1 r
  cases r1
  exact call_int_bool ⟨.int (if k then 1 else 0),H,I.tok _,⟨_,rfl⟩,q⟩
end
end
section
structure ObjM (h:Heap) (x dx C:Addr) (mA:Str->Option Value):Prop where
 obj:h.get? x = some (PySem.W.instObj C dx)
 ns:h.Ns1 dx mA
 ne:dx ≠ x
theorem zk2 {h:Heap} {dx:Addr} {mA:Str->Option Value} (n:h.Ns1 dx mA):∃ od,h.get? dx = some od/\∀ name,PySem.W.lookIn name od = some (mA name):=by
 obtain ⟨o,es,ep,ho,hd,hk,_,hm⟩:=n
 refine ⟨o,ho,fun name=>?_⟩
 have e:=hm name
 unfold nsFind findBy at e
 rw [<- Array.find?_toList] at e
 unfold PySem.W.lookIn
 rw [hd]
 dsimp only
 split
 ·rename_i y q
  rw [q] at e
  exact congrArg some e
 ·rename_i q
  rw [q] at e
  have a:es.toList.any (·.refKey) = false:=by
   rw [List.any_eq_false]
   intro y hy
   obtain ⟨z,t,hkey⟩:=hk y (Array.mem_toList_iff.mp hy)
   simp [DictEntry.refKey,hkey]
  have a':¬ es.toList.any (·.refKey) = true:=by rw [a]; exact Bool.false_ne_true
  rw [if_neg a']
  exact congrArg some e
theorem ObjM.look {h:Heap} {x dx C:Addr} {mA:Str->Option Value} (I:ObjM h x dx C mA):∃ od,PySem.W.InstAt h x (PySem.W.instObj C dx) C (some od)/\∀ name,PySem.W.lookIn name od = some (mA name) :=
 let ⟨od,ho,hl⟩:=zk2 I.ns
 ⟨od,⟨I.obj,rfl,rfl,ho⟩,hl⟩
section
variable {P:Program} {w:World} {H H':Hp} {h h':Heap} {a C dx:Addr} {fs fs':List (Str × V)}
theorem zo5 (hok:HOk P w H h) (e:H a = some (.ins C dx fs)):∃ mA,ObjM h a dx C mA/\(∀ f,RelO (fs.lookup f) (mA f))/\PySem.Within mA (fs.map (·.1))/\fs.length <= 1000/\H dx = some (.own a):=by
 obtain ⟨d,z,ne,ob,mA,n,r,q⟩:=(show ObjOk P w H h a (.ins C dx fs) from hok a _ e)
 exact ⟨mA,⟨ob,n,ne⟩,r,q,z,d⟩
end
structure Cls (K:W.Frag) (C:Addr):Prop where
 pg:PySem.W.plainGet K C Str.empty = true
 hd:PySem.W.hasDictIn K C = true
 po:PySem.W.plainOver K C = true
 sa:PySem.W.findIn K (.ref C) "__setattr__" = some (some (.builtin "object.__setattr__"))
theorem Cls.get {K:W.Frag} {C:Addr} (c:Cls K C) (f:Str):PySem.W.plainGet K C f = true:=c.pg
section
variable {X:Cx} {zo:List (Addr × Obj)} {σ:St} {H:Hp} {s:Shared} {A:Around} {E:Value->Shared->Prop} {Q:Value->Shared->Prop} {c:Value} {b:Bool}
inductive TyOf (K:W.Frag) (H:Hp):V->Value->Prop where
 | non:TyOf K H .non (.type "NoneType")
 | bl (x:Bool):TyOf K H (.bl x) (.type "bool")
 | int (i:Int):TyOf K H (.int i) (.type "int")
 | str (x:Str):TyOf K H (.str x) (.type "str")
 | flt (x:UInt64):TyOf K H (.flt x) (.type "float")
 | lst {a:Addr} {xs:List V} (e:H a = some (.lst xs)):TyOf K H (.ref a) (.type "list")
 | frz {a:Addr} {o:Obj} {xs:List V} (e:H a = some (.frz o (.lst xs))):TyOf K H (.ref a) (.type "list")
 | tup {a:Addr} {xs:List V} (e:H a = some (.tup xs)):TyOf K H (.ref a) (.type "tuple")
 | dK {a:Addr} {kvs:List (Key × V)} (e:Rd H a (.dK kvs)):TyOf K H (.ref a) (.type "dict")
 | dT {a:Addr} {kvs:List (List Key × V)} (e:Rd H a (.dT kvs)):TyOf K H (.ref a) (.type "dict")
 | ins {a C dx:Addr} {fs:List (Str × V)} (e:H a = some (.ins C dx fs)) (cl:Cls K C) (ha:PySem.W.findIn K (.ref C) "__class__" = some (some (.builtin "object.__class__")))
   (hn:PySem.W.specialIn K (.builtin "object.__class__") "__get__" = some (some (.builtin "getset_descriptor.__get__"))) (htk:PySem.W.takesIn K (.builtin "object.__class__") = some true)
   (hm:PySem.W.mroIn K C (.type "object") = some true):TyOf K H (.ref a) (.ref C)
theorem zlr {x:V} {u t:Value} (I:Inv X zo σ H s) (rx:RelV x u) (ty:TyOf X.K H x t) (e:PySem.W.kitOne X.K t c = some b) (h:∀ tk,Q (.bool b) { s with toks:=tk }) :
  wpAny (model X.prog X.w) A (call (.builtin "isinstance") [u,c]) Q E s:=by
 cases ty with
 | non=>cases (show u = Value.none from rx); exact PySem.W.kia_one PySem.W.kitx_none I.kIn True.intro e (fun z=>nomatch z) h
 | bl y=>cases (show u = Value.bool y from rx); exact PySem.W.kia_one PySem.W.kitx_bool I.kIn True.intro e (fun z=>nomatch z) h
 | int i=>obtain ⟨t,q⟩:=(show ∃ t,u = Value.int i t from rx); cases q; exact PySem.W.kia_one PySem.W.kitx_int I.kIn True.intro e (fun z=>nomatch z) h
 | str y=>obtain ⟨t,q⟩:=(show ∃ t,u = Value.str y t from rx); cases q; exact PySem.W.kia_one PySem.W.kitx_str I.kIn True.intro e (fun z=>nomatch z) h
 | flt y=>obtain ⟨t,q⟩:=(show ∃ t,u = Value.float y t from rx); cases q; exact PySem.W.kia_one PySem.W.kitx_float I.kIn True.intro e (fun z=>nomatch z) h
 | @lst a xs ea =>
  cases (show u = Value.ref a from rx)
  obtain ⟨_,_,n,_,h1⟩:=(show ObjOk X.prog X.w H s.heap a (.lst xs) from I.hok a _ ea)
  exact PySem.W.kia_one PySem.W.kitx_list I.kIn ⟨_,h1,rfl⟩ e (fun z=>nomatch z) h
 | @frz a ob xs ea =>
  cases (show u = Value.ref a from rx)
  obtain ⟨_,_,_,n,_,h1⟩:=(show ObjOk X.prog X.w H s.heap a (.frz ob (.lst xs)) from I.hok a _ ea)
  exact PySem.W.kia_one PySem.W.kitx_list I.kIn ⟨_,h1,rfl⟩ e (fun z=>nomatch z) h
 | @tup a xs ea =>
  cases (show u = Value.ref a from rx)
  obtain ⟨_,_,_,p⟩:=(show ObjOk X.prog X.w H s.heap a (.tup xs) from I.hok a _ ea)
  obtain ⟨o,h1,h2,_⟩:=p
  exact PySem.W.kia_one PySem.W.kitx_tuple I.kIn ⟨o,h1,h2⟩ e (fun z=>nomatch z) h
 | @dK a kvs ea =>
  cases (show u = Value.ref a from rx)
  obtain ⟨_,_,vs,_,p⟩:=(show ObjOk X.prog X.w H s.heap a (.dK kvs) from ea.ok I.hok)
  obtain ⟨o,es,ep,h1,h2,_⟩:=p
  exact PySem.W.kia_one PySem.W.kitx_dict I.kIn ⟨o,h1,h2.1⟩ e (fun z=>nomatch z) h
 | @dT a kvs ea =>
  cases (show u = Value.ref a from rx)
  obtain ⟨_,_,xs,_,o,es,ep,h1,h2,_⟩:=(show ObjOk X.prog X.w H s.heap a (.dT kvs) from ea.ok I.hok)
  exact PySem.W.kia_one PySem.W.kitx_dict I.kIn ⟨o,h1,h2.1⟩ e (fun z=>nomatch z) h
 | @ins a C dx fs ea cl ha hn htk hm =>
  cases (show u = Value.ref a from rx)
  obtain ⟨mA,O,_⟩:=zo5 I.hok ea
  obtain ⟨od,J,_⟩:=O.look
  exact PySem.W.kia_one (PySem.W.kitx_own (cl.get _) cl.hd ha hn htk hm) I.kIn J e (fun z=>nomatch z) h
end
end
section
structure Room (k:Nat) (A:Around):Prop where
 hd:A.handled = none
 dp:A.depth + 3 * k + 5 < recursionLimit
 un:A.units + 16 * k + 200 < cLine
theorem Room.mono {j k:Nat} {A:Around} (r:Room k A) (h:j <= k):Room j A:=⟨r.hd,by have:=r.dp; omega,by have:=r.un; omega⟩
theorem Room.deeper {k:Nat} {A:Around} (r:Room (k + 1) A) (env:Env):Room k (A.deeper env) :=
 ⟨r.hd,by have:=r.dp; show A.depth + 1 + 3 * k + 5 < _; omega,by have:=r.un; show A.units + 3 + 16 * k + 200 < _; omega⟩
theorem Room.depth {k:Nat} {A:Around} (r:Room k A):A.depth < recursionLimit:=by have:=r.dp; omega
theorem Room.units {k:Nat} {A:Around} (r:Room k A):A.units + 64 < cLine:=by have:=r.un; omega
theorem Room.units0 {k:Nat} {A:Around} (r:Room k A):A.units < cLine:=by have:=r.un; omega
def zpU:TA:=fun _ H Q=>Q [] H
def zgV (ta:TE) (tr:TA):TA:=fun σ H Q=>ta σ H fun x H1=>tr σ H1 fun xs H2=>Q (x :: xs) H2
section
variable {X:Cx} {e:Expr} {es:List Expr} {te:TE} {t:TA} {pos:Pos}
theorem zg:PA X [] zpU:=fun _ _ _ _ H Q I h=>Calls.spliced_nil ⟨[],H,I,.nil,h⟩
theorem zc (ha:PE X e te) (hr:PA X es t) (hs:starEach (e :: es) X.env = (false,eval e X.env) :: starEach es X.env:=by rfl):PA X (e :: es) (zgV te t):=by
 intro pos zo s σ H Q I h
 rw [hs]
 show wpAny _ _ (spliced ((false,eval e X.env) :: backTo pos (starEach es X.env))) _ _ s
 refine Calls.spliced_cons (thn (ha zo s σ H _ I h) fun u s1 ⟨x,H1,I1,r1,q1⟩=>?_)
 exact thn (hr pos zo s1 σ H1 _ I1 q1) fun us s2 ⟨xs,H2,I2,r2,q2⟩=>⟨x :: xs,H2,I2,.cons r1 r2,q2⟩
def zsh (t:TA):TE:=fun σ H Q=>t σ H fun xs H1=>xs.length <= sizeLine/\∀ p,H1 p = none->Q (.ref p) (upd H1 p (.tup xs))
def zn0 (t:TA):TE:=fun σ H Q=>t σ H fun xs H1=>xs.length <= sizeLine/\∀ p,H1 p = none->Q (.ref p) (upd H1 p (.lst xs))
theorem zF {x1} (h:PA X es t):PE X (.Tuple es x1 pos) (zsh t):=by
 intro zo s σ H Q I hq
 refine wpAny_Tuple_spliced (thn (h pos zo s σ H _ I hq) fun us s1 ⟨xs,H1,I1,r,z,q⟩=>⟨by rw [<- r.length]; exact z,?_⟩)
 have hf:H1 s1.heap.objs.size = none:=I1.hok.fresh (Nat.le_refl _)
 refine ⟨.ref s1.heap.objs.size,upd H1 s1.heap.objs.size (.tup xs),I1.laid (t':=s1.toks) (fun b u e=>Heap.get?_push_of_some _ e) (Nat.le_refl _) ?_,rfl,q _ hf⟩
 exact ⟨⟨z,_,Heap.get?_push_size _ rfl,rfl⟩,us,r,⟨_,Heap.get?_push_size _ rfl,rfl,_,rfl⟩⟩
theorem zab (h:PA X es t):PE X (.List es pos) (zn0 t):=by
 intro zo s σ H Q I hq
 refine wpAny_List_spliced (thn (h pos zo s σ H _ I hq) fun us s1 ⟨xs,H1,I1,r,z,q⟩=>⟨by rw [<- r.length]; exact z,?_⟩)
 have hf:H1 s1.heap.objs.size = none:=I1.hok.fresh (Nat.le_refl _)
 refine ⟨.ref s1.heap.objs.size,upd H1 s1.heap.objs.size (.lst xs),I1.laid (t':=s1.toks) (fun b u e=>Heap.get?_push_of_some _ e) (Nat.le_refl _) ?_,rfl,q _ hf⟩
 exact ⟨z,us,0,r,Heap.get?_push_size _ rfl⟩
end
abbrev Sp:=List V->Hp->VK->XK->Prop
abbrev CXT:=List Env->Hp->Shared->XK->Value->Shared->Prop
structure Env0 (P:Program) (w:World) (K:W.Frag) (mg:Str->Option Value) (base:Heap) (A:Around) (outer:List Env) (s:Shared) (H:Hp):Prop where
 frames:A.frames = some outer
 mod:Mod K mg base
 bs:∀ b o,base.get? b = some o->s.heap.get? b = some o/\H b = none
 bsz:base.objs.size <= s.heap.objs.size
 funs:s.heap.FunFrames base outer
 frf:∀ b ∈ frs outer,H b = none
 hok:HOk P w H s.heap
 bare:AllBare s.gens
def CE (outer:List Env) (P:Program) (w:World) (H:Hp) (s:Shared) (Q:VK) (u:Value) (s':Shared):Prop :=
 ∃ v H',s'.os = s.os/\AllBare s'.gens/\Un (frs outer) [] H H' s.heap s'.heap/\HOk P w H' s'.heap/\RelV v u/\Q v H'
def CR (CX:CXT) (outer:List Env) (P:Program) (w:World) (H:Hp) (s:Shared) (Q:VK) (E:XK) (r:Result) (s':Shared):Prop :=
 match r with
 | .ok (.ret u)=>CE outer P w H s Q u s'
 | .ok _=>False
 | .error e=>CX outer H s E e s'
structure FnOk (P:Program) (w:World) (K:W.Frag) (mg:Str->Option Value) (base:Heap) (CX:CXT) (k:Nat) (f:Addr) (fd:FuncData) (ps:List Str) (sp:Sp):Prop where
 len:∀ vs H Q E,sp vs H Q E->vs.length = ps.length
 run:∀ (A:Around) (outer:List Env) (s:Shared) (H:Hp) (args:Args) (us:List Value) (vs:List V) (Q:VK) (E:XK),Room k A->Env0 P w K mg base A outer s H->BindsTo s fd args (ps.zip us)->Vals vs us->sp vs H Q E ->
  codeAny (model P w) A (.call (.ref f) args) (CR CX outer P w H s Q E) s
section
variable {X:Cx} {zo:List (Addr × Obj)} {σ:St} {H:Hp} {s s':Shared}
theorem Inv.env0 (I:Inv X zo σ H s):Env0 X.prog X.w X.K X.mg X.base X.A X.stack s H :=
 ⟨I.ok.frames,I.ok.mod,I.bs,Nat.le_trans I.ok.bsz I.sz,I.stack,I.stkFree,I.hok,I.bare⟩
theorem Inv.after {Q:VK} {u:Value} (I:Inv X zo σ H s) (h:CE X.stack X.prog X.w H s Q u s'):EP X zo σ Q u s':=by
 obtain ⟨v,H',os,bare,un,hok,r,q⟩:=h
 obtain ⟨hh,g,d,t,os'⟩:=s'
 obtain rfl:os' = s.os:=os
 exact ⟨v,H',I.call (h':=hh) (g':=g) (d':=d) (t':=t) (ch:=[]) un hok bare (fun b z=>absurd z (by simp)),r,q⟩
end
def zmZ (sp:Sp) (dvs:List V) (E:XK) (t:TA):TE:=fun σ H Q=>t σ H fun vs H1=>sp (vs ++ dvs) H1 Q E
def Binds (K:W.Frag) (fd:FuncData) (ps:List Str) (ds:List Value):Prop :=
 ∀ (s:Shared) (us:List Value),K.In s.heap->(us ++ ds).length = ps.length->BindsTo s fd ⟨us,[]⟩ (ps.zip (us ++ ds))
theorem Binds.all {K:W.Frag} {fd:FuncData} {ps:List Str} (h:∀ us:List Value,us.length = ps.length->bindArgs fd ⟨us,[]⟩ = pure (ps.zip us)):Binds K fd ps []:=fun s us _ hl=>by
 rw [List.append_nil] at hl ⊢
 exact .of_eq (h us hl)
def Passes (CX:CXT) (X:Cx) (E:XK):Prop:=∀ (zo:List (Addr × Obj)) (σ:St) (H:Hp) (s:Shared) (e:Value) (s':Shared),Inv X zo σ H s->CX X.stack H s E e s'->X.xe e s'
section
variable {X:Cx} {CX:CXT} {k:Nat} {f C:Addr} {fd:FuncData} {ps:List Str} {sp:Sp} {dvs:List V} {ds:List Value} {E:XK} {x m:Str} {p pos apos:Pos} {e o:Expr} {es:List Expr} {ta:TE} {t:TA}
theorem zqS {zo:List (Addr × Obj)} {σ:St} {H:Hp} {s:Shared} {Q:VK} {us:List Value} {vs:List V} (F:FnOk X.prog X.w X.K X.mg X.base CX k f fd ps sp) (hr:Room k X.A) (hb:Binds X.K fd ps ds) (hd:Vals dvs ds) (hx:Passes CX X E)
  (I:Inv X zo σ H s) (r:Vals vs us) (h:sp (vs ++ dvs) H Q E):wpAny (model X.prog X.w) X.A (call (.ref f) us) (EP X zo σ Q) X.xe s:=by
 have r2:Vals (vs ++ dvs) (us ++ ds):=r.append hd
 have hl:(us ++ ds).length = ps.length:=by rw [<- r2.length]; exact F.len _ _ _ _ h
 refine wpAny_call (codeAny_mono (F.run X.A X.stack s H ⟨us,[]⟩ (us ++ ds) (vs ++ dvs) Q E hr I.env0 (hb s us I.kIn hl) r2 h) fun r s' hq=>?_)
 cases r with
 | error e=>exact hx zo σ H s e s' I hq
 | ok fl =>
  cases fl with
  | ret u=>exact I.after hq
  | next=>exact False.elim hq
  | brk=>exact False.elim hq
  | cont=>exact False.elim hq
theorem zlO (F:FnOk X.prog X.w X.K X.mg X.base CX k f fd ps sp) (hr:Room k X.A) (hg:Gl X x) (hm:X.mg x = some (.ref f)) (hk:PySem.W.keepIn X.K (.ref f) = true) (hb:Binds X.K fd ps ds) (hd:Vals dvs ds) (hx:Passes CX X E)
  (ha:PA X (e :: es) t) (hdb:(x == ("__debug__":Str)) = false:=by decide) (he:starEach (e :: es) X.env = (false,eval e X.env) :: starEach es X.env:=by rfl) (hpl:(backTo pos (starEach es X.env)).any (·.1) = false:=by rfl) :
  PE X (.Call (.Name x p) (e :: es) [] pos) (zmZ sp dvs E t):=by
 intro zo s σ H Q I h
 refine wpAny_Call_Name_kw (zo3 I hg hm ?_ hdb)
 refine PySem.W.callWith_K (h₀:=X.base) I.ok.mod.kin hk (thn (ha pos zo s σ H _ I h) fun us s1 ⟨vs,H1,I1,r,q⟩=>⟨I1.kIn,?_⟩) he hpl
 exact zqS F hr hb hd hx I1 r q
end
structure FnScope (N P:List Str) (sc:Scope):Prop where
 kind:sc.kind = .function
 co:sc.isCoroutine = false
 gen:sc.isGenerator = false
 nd:N.Nodup
 pre:N.take P.length = P
 par:∀ x ∈ P,sc.names.lookup x = some .local\/sc.names.lookup x = some .cell
 nofree:∀ y ∈ sc.names,y.2 ≠ .free
theorem zit {kindOf:Str->Option NameKind} {x:Str}:∀ {binds:List (Str × Value)} {m:Str->Option Value},(∀ v,(x,v) ∉ binds)->bindL kindOf binds m x = m x
 | [],_,_=>rfl
 | (n,v) :: r,m,h=>by
  unfold bindL
  rw [zit fun w hw=>h w (List.mem_cons_of_mem _ hw)]
  split
  ·have:x ≠ n:=by rintro rfl; exact h v List.mem_cons_self
   simp [this]
  ·rfl
theorem ziU {kindOf:Str->Option NameKind} {x:Str}:∀ {binds:List (Str × Value)} {m:Str->Option Value},(∀ v,(x,v) ∉ binds)->bindC kindOf binds m x = m x
 | [],_,_=>rfl
 | (n,v) :: r,m,h=>by
  unfold bindC
  rw [ziU fun w hw=>h w (List.mem_cons_of_mem _ hw)]
  split
  ·rfl
  ·have:x ≠ n:=by rintro rfl; exact h v List.mem_cons_self
   simp [this]
theorem zia {kindOf:Str->Option NameKind} {x:Str} {v:Value}:∀ {P:List Str} {vs:List Value} {i:Nat} {m:Str->Option Value},P.Nodup->P[i]? = some x->vs[i]? = some v->kindOf x = some .local ->
  bindL kindOf (P.zip vs) m x = some v
 | [],_,_,_,_,h,_,_=>by simp at h
 | _ :: _,[],_,_,_,_,h,_=>by simp at h
 | p :: P,w :: vs,0,m,nd,h1,h2,hk=>by
  simp at h1 h2; subst h1; subst h2
  show bindL kindOf ((p,w) :: P.zip vs) m p = _
  unfold bindL
  rw [zit fun v hv=>(List.nodup_cons.mp nd).1 (List.of_mem_zip hv).1,if_pos hk]
  simp
 | p :: P,w :: vs,i + 1,m,nd,h1,h2,hk=>by
  show bindL kindOf ((p,w) :: P.zip vs) m x = _
  unfold bindL
  exact zia (i:=i) (List.nodup_cons.mp nd).2 (by simpa using h1) (by simpa using h2) hk
theorem ziN {kindOf:Str->Option NameKind} {x:Str} {v:Value}:∀ {P:List Str} {vs:List Value} {i:Nat} {m:Str->Option Value},P.Nodup->P[i]? = some x->vs[i]? = some v->kindOf x ≠ some .local ->
  bindC kindOf (P.zip vs) m x = some v
 | [],_,_,_,_,h,_,_=>by simp at h
 | _ :: _,[],_,_,_,_,h,_=>by simp at h
 | p :: P,w :: vs,0,m,nd,h1,h2,hk=>by
  simp at h1 h2; subst h1; subst h2
  show bindC kindOf ((p,w) :: P.zip vs) m p = _
  unfold bindC
  rw [ziU fun v hv=>(List.nodup_cons.mp nd).1 (List.of_mem_zip hv).1,if_neg hk]
  simp
 | p :: P,w :: vs,i + 1,m,nd,h1,h2,hk=>by
  show bindC kindOf ((p,w) :: P.zip vs) m x = _
  unfold bindC
  exact ziN (i:=i) (List.nodup_cons.mp nd).2 (by simpa using h1) (by simpa using h2) hk
def start (N:List Str) (vs:List V):St:=vs.map some ++ List.replicate (N.length - vs.length) none
def zmx (CX:CXT) (P:Program) (w:World) (K:W.Frag) (mg:Str->Option Value) (base:Heap) (N:List Str) (qual:Str) (scope:Scope) (f:Addr) (cd:Value) (A:Around) (outer:List Env) (s:Shared) (H:Hp) (E:XK):Cx where
 prog:=P
 w:=w
 K:=K
 mg:=mg
 base:=base
 A:=A.deeper (envOfC qual scope s.heap.objs.size f cd)
 N:=N
 s₀:=s
 H₀:=H
 env:=envOfC qual scope s.heap.objs.size f cd
 outer:=outer
 stack:=envOfC qual scope s.heap.objs.size f cd :: outer
 ex:=[]
 calm:=true
 fn:=fun _=>true
 pn:=[]
 xe:=fun e s'=>wpAny (model P w) (A.deeper (envOfC qual scope s.heap.objs.size f cd)) (leaving (envOfC qual scope s.heap.objs.size f cd) e) (fun _ s''=>CX outer H s E e s'') (fun e' s''=>CX outer H s E e' s'') s'
theorem zjD {sc:Scope} {n:Nat} {x:Str} (h:sc.names.lookup x = some .cell):∃ c,(cellsFrom n sc.names []).lookup x = some c:=by
 have q:=PySem.W.cellsFrom_some sc.names n [] (.inl h)
 exact Option.isSome_iff_exists.mp q
theorem zmn {CX:CXT} {P:Program} {w:World} {K:W.Frag} {mg:Str->Option Value} {base:Heap} {N ps:List Str} {qual:Str} {scope:Scope} {f:Addr} {cd:Value} {A:Around} {outer:List Env} {s s1:Shared} {H:Hp} {E:XK} {us:List Value} {vs:List V}
  (S:FnScope N ps scope) (hd:A.handled = none) (e0:Env0 P w K mg base A outer s H) (hl:vs.length = ps.length) (r:Vals vs us)
  (x:InCallC s s.heap.objs.size (bindL (envOfC qual scope s.heap.objs.size f cd).kindOf (ps.zip us) fun _=>none) (cellsFrom (s.heap.objs.size + 1) scope.names []) (bindC (envOfC qual scope s.heap.objs.size f cd).kindOf (ps.zip us) fun _=>none) s1) :
  Inv (zmx CX P w K mg base N qual scope f cd A outer s H E) [] (start N vs) H s1:=by
 have hpl:ps.length <= N.length:=by have:=congrArg List.length S.pre; rw [List.length_take] at this; omega
 obtain ⟨h1,tk,rfl,hk⟩:=x.done
 have noA:∀ b:Addr,b ∉ (zmx CX P w K mg base N qual scope f cd A outer s H E).ex:=fun b z=>absurd (show b ∈ ([]:List Addr) from z) (by simp)
 refine ⟨⟨e0.mod,S.kind,rfl,rfl,Nat.le_refl _,fun y z c h1 h2=>?_,fun y hy=>?_,fun y c _ h=>?_,fun _=>hd,Around.frames_deeper e0.frames,.inr ⟨rfl,rfl⟩,fun b z=>absurd z (noA b),e0.bs,e0.bsz,fun b _ _=>noA b,fun b z=>absurd z (noA b),e0.funs,e0.frf⟩,
  rfl,e0.bare,Un.kept hk,⟨_,x.toInCall.ns,fun i y v h1 h2 h3=>?_⟩,fun y c h=>⟨_,x.cell y c h⟩,e0.hok.fresh (Nat.le_refl _),fun y c h=>?_,fun p hp=>absurd (show p ∈ ([]:List (Addr × Obj)) from hp) (by simp),e0.hok.kept hk,?_⟩
 ·exact name_of_addr x.apart (PySem.mem_of_lookup h1) (PySem.mem_of_lookup h2)
 ·have hy:scope.names.lookup y = some .cell\/scope.names.lookup y = some .free:=hy
  rcases hy with hy | hy
  ·exact zjD hy
  ·exact absurd rfl (S.nofree _ (PySem.mem_of_lookup hy))
 ·exact Nat.le_of_lt (x.above y c (PySem.mem_of_lookup h))
 ·have hi:i < vs.length:=by
   unfold start at h2
   by_cases hi:i < vs.length
   ·exact hi
   ·rw [List.getElem?_append_right (by simpa using hi)] at h2
    rw [List.getElem?_replicate] at h2
    split at h2 <;> cases h2
  have ha:vs[i]? = some v:=by
   unfold start at h2
   rw [List.getElem?_append_left (by simpa using hi),List.getElem?_map] at h2
   cases e:vs[i]? with
   | none=>rw [e] at h2; cases h2
   | some a=>rw [e] at h2; cases h2; rfl
  obtain ⟨u,hu,rv⟩:=r.get ha
  have hp:ps[i]? = some y:=by
   rw [<- S.pre,List.getElem?_take_of_lt (by omega)]; exact h1
  have ndP:ps.Nodup:=by rw [<- S.pre]; exact S.nd.sublist (List.take_sublist _ _)
  refine ⟨u,rv,?_⟩
  rcases S.par y (List.mem_of_getElem? hp) with k | k
  ·exact .inl ⟨k,zia ndP hp hu k⟩
  ·obtain ⟨c,e⟩:=zjD (n:=s.heap.objs.size + 1) k
   refine .inr ⟨.inl k,c,e,?_⟩
   have q:=x.cell y c e
   rw [ziN ndP hp hu (by show scope.names.lookup y ≠ _; rw [k]; decide)] at q
   exact q
 ·exact e0.hok.fresh (Nat.le_of_lt (x.above y c (PySem.mem_of_lookup h)))
 ·unfold start
  show _ = N.length
  rw [List.length_append,List.length_map,List.length_replicate]
  omega
theorem zso {CX:CXT} {P:Program} {w:World} {K:W.Frag} {mg:Str->Option Value} {base:Heap} {k:Nat} {f:Addr} {name qual:Str} {params:Arguments} {body:List Stmt} {scope:Scope} {dV kV doc pm cdv ct oc:Value} {an od:Option Addr}
  {osl:Array (Option Value)} {N ps:List Str} {sp:Sp} (lk:K.lookup f = some ⟨oc,od,.func (PySem.W.fnOf name qual params body scope dV kV doc pm an cdv ct),osl⟩) (hcd:PySem.W.codeIn K cdv qual = true) (S:FnScope N ps scope)
  (len:∀ vs H Q E,sp vs H Q E->vs.length = ps.length)
  (hbody:∀ (A:Around) (outer:List Env) (s:Shared) (H:Hp) (vs:List V) (Q:VK) (E:XK),Room k (A.deeper (envOfC qual scope s.heap.objs.size f cdv))->sp vs H Q E ->
   ∃ t,PSs (zmx CX P w K mg base N qual scope f cdv A outer s H E) body t/\t { nx:=fun _ H'=>Q .non H',rt:=Q } (start N vs) H) :
  FnOk P w K mg base CX (k + 1) f (PySem.W.fnOf name qual params body scope dV kV doc pm an cdv ct) ps sp:=by
 refine ⟨len,fun A outer s H args us vs Q E hr e0 hb r hsp=>?_⟩
 have hl:=len _ _ _ _ hsp
 have KX:K.In s.heap:=e0.mod.kin.keeps fun b o e=>(e0.bs b o e).1
 have lim:s.heap.NoLimit:=e0.mod.nolimit.keeps fun b o e=>(e0.bs b o e).1
 have hkind:∀ y ∈ ps.zip us,scope.names.lookup y.1 = some .local\/(scope.names.lookup y.1 = some .cell/\((cellsFrom (s.heap.objs.size + 1) scope.names []).lookup y.1).isSome = true):=fun ⟨n,v⟩ hy=>by
  rcases S.par n (List.of_mem_zip hy).1 with q | q
  ·exact .inl q
  ·exact .inr ⟨q,PySem.W.cellsFrom_some _ _ _ (.inl q)⟩
 refine codeAny_call_function hr.depth (KX _ _ lk) rfl S.co S.gen rfl (PySem.W.codeRec_of KX hcd) (hb _ _ _ _ ?_)
 refine wpAny_newFunctionEnv_cells S.kind hkind fun env he s1 x=>?_
 subst he
 refine ⟨lim.keeps x.toInCall.keep,codeAny_func ?_⟩
 obtain ⟨t,ht,hq⟩:=hbody A outer s H vs Q E (hr.deeper _) hsp
 have I:Inv (zmx CX P w K mg base N qual scope f cdv A outer s H E) [] (start N vs) H s1:=zmn S hr.hd e0 hl r x
 refine wpAny_mono (ht [] s1 (start N vs) H _ I hq) (fun fl s' hs=>?_) fun e s' hs=>hs
 have fin:∀ {σ':St} {H':Hp} {v:V} {u:Value},Inv (zmx CX P w K mg base N qual scope f cdv A outer s H E) [] σ' H' s'->RelV v u->Q v H'->CE outer P w H s Q u s' :=
  fun {σ' H' v u} J rv q=>⟨v,H',J.os,J.bare,J.base,J.hok,rv,q⟩
 cases fl with
 | ret u =>
  obtain ⟨v,σ',H',J,rv,q⟩:=hs
  exact fin J rv q
 | next =>
  obtain ⟨σ',H',J,q⟩:=hs
  exact fin (v:=V.non) (u:=Value.none) J rfl q
 | brk =>
  obtain ⟨_,_,_,q⟩:=hs
  exact False.elim q
 | cont =>
  obtain ⟨_,_,_,q⟩:=hs
  exact False.elim q
end
section
section
variable {X:Cx} {x:Str} {p pos:Pos} {e:Expr} {es:List Expr} {t:TA} {id T:String} {r:List V->Hp->VK->Prop}
def tCB (r:List V->Hp->VK->Prop) (t:TA):TE:=fun σ H Q=>t σ H fun vs H1=>r vs H1 Q
theorem zv (hc:CallR X (.builtin id) r) (hg:Gl X x) (hm:X.mg x = none) (hv:bootBuiltins x = some (.builtin id)) (ha:PA X (e :: es) t) (hn:x ≠ "__name__":=by decide) (hdb:(x == ("__debug__":Str)) = false:=by decide)
  (he:starEach (e :: es) X.env = (false,eval e X.env) :: starEach es X.env:=by rfl) (hpl:(backTo pos (starEach es X.env)).any (·.1) = false:=by rfl):PE X (.Call (.Name x p) (e :: es) [] pos) (tCB r t):=by
 intro zo s σ H Q I h
 refine wpAny_Call_Name_kw (ze9 I hg hm hv ?_ hn hdb)
 exact PyProof.Rows.callWith_builtin1 (thn (ha pos zo s σ H _ I h) fun us s1 ⟨vs,H1,I1,r1,q1⟩=>hc zo s1 σ H1 vs us Q I1 r1 q1) he hpl
theorem zaJ (hc:CallR X (.type T) r) (hg:Gl X x) (hm:X.mg x = none) (hv:bootBuiltins x = some (.type T)) (ha:PA X (e :: es) t) (hn:x ≠ "__name__":=by decide) (hdb:(x == ("__debug__":Str)) = false:=by decide)
  (he:starEach (e :: es) X.env = (false,eval e X.env) :: starEach es X.env:=by rfl) (hpl:(backTo pos (starEach es X.env)).any (·.1) = false:=by rfl):PE X (.Call (.Name x p) (e :: es) [] pos) (tCB r t):=by
 intro zo s σ H Q I h
 refine wpAny_Call_Name_kw (ze9 I hg hm hv ?_ hn hdb)
 exact PyProof.Rows.callWith_type1 (thn (ha pos zo s σ H _ I h) fun us s1 ⟨vs,H1,I1,r1,q1⟩=>hc zo s1 σ H1 vs us Q I1 r1 q1) he hpl
end
end
end L2
namespace HT
open PySem PyProof.Rows
def lexLt:List Int->List Int->Bool
 | [],[]=>false
 | [],_ :: _=>true
 | _ :: _,[]=>false
 | x :: xs,y :: ys=>if x = y then lexLt xs ys else decide (x < y)
theorem lexLt_cons (x y:Int) (xs ys:List Int):lexLt (x :: xs) (y :: ys) = if x = y then lexLt xs ys else decide (x < y):=rfl
theorem lexLt_nil_nil:lexLt [] [] = false:=rfl
theorem lexLt_nil_cons (y:Int) (ys:List Int):lexLt [] (y :: ys) = true:=rfl
theorem lexLt_cons_nil (x:Int) (xs:List Int):lexLt (x :: xs) [] = false:=rfl
theorem eqAt_int (A:Around) (s:Shared) (a:Int) (t:Tok) (c:Int) (u:Tok):∃ e,SeqAt.EqAt A s (.int a t) (.int c u) e/\(e = true ↔ a = c) :=
 ⟨(a == c),SeqAt.EqAt.int_int a t c u,by simp⟩
theorem zm7 (A:Around) (s:Shared) (a:Int) (t:Tok) (c:Int) (u:Tok) (prog:Program) (w:World) (E:Value->Shared->Prop) (Q:Value->Shared->Prop) (h:Q (.bool (decide (a < c))) s) :
  wpAny (model prog w) A (richCompare .Lt (.int a t) (.int c u)) Q E s :=
 (PyProof.Rows.lt_int h:wpAny (model prog w) A (compareOp .Lt (.int a t) (.int c u)) Q E s)
section
open PySem.SeqAt
open PySem.AutoSeq1 (wpAny_loadPart')
open PySem.MeetsSeq PySem.MeetsSeq2 PySem.MeetsSeq3
theorem zhw (l b:Addr) (items items2:Array Value) (n n2:Nat) (dd dd2:Option Addr) (sl sl2:Array (Option Value)) (ns ms:List Int) (hi:IntsAre items.toList ns) (hj:IntsAre items2.toList ms) :
  Meets (Builtin.«tuple.__lt__» ⟨[.ref l,.ref b],[]⟩)
   (fun _ R s=>s.heap.get? l = some { cls:=.type "tuple",dict:=dd,data:=.seq items n,slots:=sl }/\s.heap.get? b = some { cls:=.type "tuple",dict:=dd2,data:=.seq items2 n2,slots:=sl2 } /\
    R (.ok (.ret (.bool (lexLt ns ms)))) s) :=
 .of_wp fun prog w A R s h=>by
  obtain ⟨hp,g,d,tk,os⟩:=s; obtain ⟨hl,hb,h⟩:=h
  have f2:=AutoSeq1.sub_tuple_tuple
  have z1:items.size = ns.length:=by rw [<- hi.length]; simp
  have z2:items2.size = ms.length:=by rw [<- hj.length]; simp
  wp_walk using wpAny_loadPart' hl,wpAny_loadPart' hb,wpAny_forIn_list _ (fun rest b s'=>b.1 = none/\s' = ⟨hp,g,d,tk,os⟩/\∃ (vs ws:List Value) (ns' ms':List Int),rest = vs.zip ws /\
   IntsAre vs ns'/\IntsAre ws ms'/\ns'.length + items2.size = ms'.length + items.size/\R (.ok (.ret (.bool (lexLt ns' ms')))) ⟨hp,g,d,tk,os⟩) _
  case turn =>
   rintro ⟨y,x⟩ rest b s' ⟨hb',rfl,vs,ws,ns',ms',hz,hvi,hwi,hlen,hR⟩
   cases hvi with
   | nil=>rw [List.zip_nil_left] at hz; cases hz
   | cons a t hvi' =>
    cases hwi with
    | nil=>rw [List.zip_nil_right] at hz; cases hz
    | cons c u hwi' =>
     rw [List.zip_cons_cons] at hz
     injection hz with hyx hrest
     injection hyx with hy hx
     subst hy hx
     rw [lexLt_cons] at hR
     simp only [List.length_cons] at hlen
     obtain ⟨e,he,hiff⟩:=eqAt_int A.in1 ⟨hp,g,d,tk,os⟩ a t c u
     refine wpAny_bind (he prog w _ _ ?_)
     cases e with
     | true =>
      rw [if_pos (hiff.mp rfl)] at hR
      wp_walk
      exact ⟨rfl,rfl,_,_,_,_,hrest,hvi',hwi',by omega,hR⟩
     | false =>
      rw [if_neg (fun q=>absurd (hiff.mpr q) Bool.false_ne_true)] at hR
      have hri:=zm7 A.in1 ⟨hp,g,d,tk,os⟩ a t c u prog w
      wp_walk using hri
      exact ⟨_,rfl,by simpa using hR⟩
  case fin =>
   rintro ⟨b1,b2⟩ s' ⟨hb',rfl,vs,ws,ns',ms',hz,hvi,hwi,hlen,hR⟩
   simp only at hb'
   subst hb'
   have hv:lexLt ns' ms' = decide (items.size < items2.size):=by
    cases hvi with
    | nil =>
     cases hwi with
     | nil =>
      simp only [List.length_nil] at hlen
      rw [lexLt_nil_nil]
      exact (decide_eq_false (by omega)).symm
     | cons c u hw =>
      simp only [List.length_nil,List.length_cons] at hlen
      rw [lexLt_nil_cons]
      exact (decide_eq_true (by omega)).symm
    | cons a t hv =>
     cases hwi with
     | nil =>
      simp only [List.length_nil,List.length_cons] at hlen
      rw [lexLt_cons_nil]
      exact (decide_eq_false (by omega)).symm
     | cons c u hw =>
      rw [List.zip_cons_cons] at hz
      cases hz
   rw [hv] at hR
   wp_walk
   exact ⟨_,rfl,by simpa [Builtin.Tuple.tupleCompareSizes] using hR⟩
  case h =>
   exact ⟨rfl,rfl,items.toList,items2.toList,ns,ms,rfl,hi,hj,by omega,h⟩
end
section
variable {prog:Program} {w:World} {A:Around} {E:Value->Shared->Prop} {s:Shared}
theorem lt_tupInts {l b:Addr} {items items2:Array Value} {ns ms:List Int} {Q:Value->Shared->Prop} (hl:IsTup s.heap l items) (hb:IsTup s.heap b items2) (hi:IntsAre items.toList ns) (hj:IntsAre items2.toList ms)
  (hu:A.units < cLine) (h:Q (.bool (lexLt ns ms)) s):wpAny (model prog w) A (compareOp .Lt (.ref l) (.ref b)) Q E s:=by
 obtain ⟨⟨cls,dd,data,sl⟩,ho,hc,n,hd⟩:=id hl
 obtain ⟨⟨cls2,dd2,data2,sl2⟩,ho2,hc2,n2,hd2⟩:=id hb
 simp only at hc hd hc2 hd2
 subst hc hd hc2 hd2
 exact richCompare_meets_room (op:=.Lt) ⟨_,ho,rfl⟩ ⟨_,ho2,rfl⟩ PySem.F.slot_tuple_lt PySem.F.entry_tuple_lt (PySem.F.args_tuple_lt_2 _ _) (zhw l b items items2 n n2 dd dd2 sl sl2 ns ms hi hj)
  ⟨ho,ho2,show Value.bool (lexLt ns ms) ≠ Value.notImplemented/\Q (.bool (lexLt ns ms)) s from ⟨(fun x=>nomatch x),h⟩⟩ hu
theorem cat_tup {t b:Addr} {vs ws:List Value} {Q:Value->Shared->Prop} (ht:IsTup s.heap t vs.toArray) (hb:IsTup s.heap b ws.toArray) (hv:vs ≠ [])
  (h1:ws = []->Q (.ref t) s) (h2:ws ≠ []->Q (.ref s.heap.objs.size) { s with heap:=s.heap.push { cls:=.type "tuple",data:=.seq (vs ++ ws).toArray } })
  (hsz:vs.length + ws.length <= sizeLine):wpAny (model prog w) A (binaryOp .Add (.ref t) (.ref b)) Q E s:=by
 obtain ⟨⟨cls,dd,data,sl⟩,ho,hc,n,hd⟩:=id ht
 obtain ⟨⟨cls2,dd2,data2,sl2⟩,ho2,hc2,n2,hd2⟩:=id hb
 simp only at hc hd hc2 hd2
 subst hc hd hc2 hd2
 have e:vs.toArray ++ ws.toArray = (vs ++ ws).toArray:=by simp
 by_cases hw:ws = []
 ·exact concat_meets ⟨_,ho,rfl⟩ ⟨_,ho2,rfl⟩ noFill_tuple_add seq_tuple_add PySem.F.slot_tuple_add PySem.F.entry_tuple_add (PySem.F.args_tuple_add_2 _ _)
   (tuple_addW1 t b vs.toArray ws.toArray n n2 dd dd2 sl sl2 (by simpa using hv) (by simp [hw])) ⟨ho,ho2,h1 hw⟩
 ·refine concat_meets ⟨_,ho,rfl⟩ ⟨_,ho2,rfl⟩ noFill_tuple_add seq_tuple_add PySem.F.slot_tuple_add PySem.F.entry_tuple_add (PySem.F.args_tuple_add_2 _ _)
   (tuple_addW2 t b vs.toArray ws.toArray n n2 dd dd2 sl sl2 (by simpa using hv) (by simpa using hw) (by rw [List.size_toArray,List.size_toArray]; exact hsz)) ⟨ho,ho2,?_⟩
  rw [e]
  exact h2 hw
def sIx (n d:Nat):Option Int->Nat
 | none=>d
 | some v=>if v < 0 then (v + (n:Int)).toNat else min v.toNat n
theorem sIx_nat (n d k:Nat):sIx n d (some (k:Int)) = min k n:=by
 show (if (k:Int) < 0 then ((k:Int) + (n:Int)).toNat else min (k:Int).toNat n) = min k n
 rw [if_neg (by omega),Int.toNat_natCast]
theorem zqx (n d:Nat) (hd:d <= n) (o:Option Int):sIx n d o <= n:=by
 cases o with
 | none=>exact hd
 | some v =>
  show (if v < 0 then (v + (n:Int)).toNat else min v.toNat n) <= n
  by_cases hv:v < 0
  ·rw [if_pos hv]; omega
  ·rw [if_neg hv]; exact Nat.min_le_right _ _
theorem zlM (v:Int) (n d:Nat):(if v < 0 then max (v + (n:Int)) 0 else min v (n:Int)) = ((sIx n d (some v):Nat):Int):=by
 show (if v < 0 then max (v + (n:Int)) 0 else min v (n:Int)) = (((if v < 0 then (v + (n:Int)).toNat else min v.toNat n):Nat):Int)
 by_cases hv:v < 0
 ·simp only [if_pos hv]; omega
 ·simp only [if_neg hv]; omega
theorem zkj (lo hi:Option Int) (n:Nat):Builtin.Slice.sliceAdjust lo hi 1 (n:Int) = (((sIx n 0 lo:Nat):Int),((sIx n n hi:Nat):Int)):=by
 have h1:¬ ((1:Int) < 0):=by omega
 unfold Builtin.Slice.sliceAdjust
 simp only [h1,if_false]
 refine Prod.ext ?_ ?_
 ·cases lo with
  | none=>rfl
  | some v=>exact zlM v n 0
 ·cases hi with
  | none=>rfl
  | some v=>exact zlM v n n
theorem zkG (i j:Nat):Builtin.Slice.slicePlaces (i:Int) (j:Int) 1 = j - i:=by
 unfold Builtin.Slice.slicePlaces
 have h1:(1:Int) > 0:=by omega
 simp only [h1,if_true,Int.ediv_one]
 split <;> omega
theorem zhi {v:Value} {o:Option Int} {Q:Option Int->Shared->Prop} (p:IsPart v o) (h:Q o s):wpAny (model prog w) A (Builtin.Slice.slicePartIndex v) Q E s:=by
 cases p with
 | none=>exact slicePart_none h
 | int i t=>exact slicePart_int h
theorem zd9 {sl:Addr} {vl vu:Value} {lo hi:Option Int} {n:Nat} {Q:Int × Int × Nat->Shared->Prop} (hs:s.heap.IsSliceOf sl vl vu .none) (pl:IsPart vl lo) (pu:IsPart vu hi)
  (h:Q (((sIx n 0 lo:Nat):Int),1,sIx n n hi - sIx n 0 lo) s):wpAny (model prog w) A (Builtin.Slice.sliceApplied (.ref sl) (pure (n:Int))) Q E s:=by
 obtain ⟨os,hos,hcs,hds⟩:=id hs
 unfold Builtin.Slice.sliceApplied Builtin.Slice.sliceFields
 refine wpAny_bind (wpAny_bind (wpAny_field hos hds (x:=vl) rfl (wpAny_bind (wpAny_field hos hds (x:=vu) rfl (wpAny_bind (wpAny_field hos hds (x:=.none) rfl (wpAny_pure ?_)))))))
 refine wpAny_bind (slicePart_none ?_)
 show wpAny _ _ (if ((1:Int) == 0) = true then _ else _) _ _ s
 rw [if_neg (by decide)]
 refine wpAny_bind (zhi pl (wpAny_bind (zhi pu (wpAny_bind (wpAny_pure ?_)))))
 show wpAny _ _ (match Builtin.Slice.sliceAdjust lo hi 1 (n:Int) with | (lo,hi)=>pure (lo,(1:Int),Builtin.Slice.slicePlaces lo hi 1)) _ _ s
 rw [zkj lo hi n]
 show wpAny _ _ (pure (((sIx n 0 lo:Nat):Int),(1:Int),Builtin.Slice.slicePlaces ((sIx n 0 lo:Nat):Int) ((sIx n n hi:Nat):Int) 1)) _ _ s
 rw [zkG]
 exact wpAny_pure h
theorem zmN (xs:Array Value) (i k:Nat):((List.range k).filterMap fun (m:Nat)=>xs[((i:Int) + (m:Int) * 1).toNat]?).toArray = ((xs.toList.drop i).take k).toArray:=by
 have e:(fun (m:Nat)=>xs[((i:Int) + (m:Int) * 1).toNat]?) = fun m=>xs[i + m]?:=by
  funext m
  have:((i:Int) + (m:Int) * 1).toNat = i + m:=by omega
  rw [this]
 rw [e]
 have:=pick_run xs i k
 rw [List.filterMap_map] at this
 have e2:((fun x=>xs[x]?) ∘ fun x=>i + x) = fun m=>xs[i + m]?:=rfl
 rw [e2] at this
 rw [this]
theorem getItem_tuple_cut {t sl:Addr} {items:Array Value} {vl vu:Value} {lo hi:Option Int} {Q:Value->Shared->Prop} (ht:IsTup s.heap t items) (hs:s.heap.IsSliceOf sl vl vu .none) (pl:IsPart vl lo) (pu:IsPart vu hi)
  (hw:¬ (sIx items.size 0 lo = 0/\sIx items.size items.size hi = items.size))
  (h:Q (.ref s.heap.objs.size) { s with heap:=s.heap.push { cls:=.type "tuple",data:=.seq ((items.toList.drop (sIx items.size 0 lo)).take (sIx items.size items.size hi - sIx items.size 0 lo)).toArray } })
  (hsz:items.size <= sizeLine):wpAny (model prog w) A (getItem (.ref t) (.ref sl)) Q E s:=by
 have htake:sizeOk (.seq ((items.toList.drop (sIx items.size 0 lo)).take (sIx items.size items.size hi - sIx items.size 0 lo)).toArray):=by
  show ((items.toList.drop (sIx items.size 0 lo)).take (sIx items.size items.size hi - sIx items.size 0 lo)).toArray.size <= sizeLine
  rw [List.size_toArray,List.length_take,List.length_drop,Array.length_toList]
  omega
 have hj:sIx items.size items.size hi <= items.size:=zqx _ _ (Nat.le_refl _) hi
 obtain ⟨os,hos,hcs,hds⟩:=id hs
 have hTs:s.TypeIs (.ref sl) "slice":=⟨os,hos,hcs⟩
 unfold getItem
 try with_reducible refine wpAny_holding ?_
 first | refine wpAny_bind (wpAny_pure ?_) | skip
 refine wpAny_bind (wpAny_sequenceKey ht.typeIs (by decide) ?_)
 refine wpAny_bind (wpAny_callSpecial?_slot (name:=Str.ofString "__getitem__") ht.typeIs PyProof.Rows.slot_tuple_getitem
  (wpAny_call_entry PyProof.Rows.slot_tuple_getitem ht.typeIs entry_tuple_getitem ?_ (args_tuple_getitem _ _)))
 show wpAny _ _ (Builtin.Tuple.tupleItemsOf (.ref t) >>= _) _ _ s
 refine wpAny_bind (tupleItemsOf_ ht ?_)
 refine wpAny_bind (wpAny_typeOf hTs ?_)
 rw [if_pos (by decide)]
 refine wpAny_bind (zd9 hs pl pu ?_)
 have hno:¬ ((((sIx items.size 0 lo:Nat):Int) == 0 && (1:Int) == 1 && (sIx items.size items.size hi - sIx items.size 0 lo) == items.size) = true):=by
  intro q
  rw [Bool.and_eq_true,Bool.and_eq_true] at q
  have q1:((sIx items.size 0 lo:Nat):Int) = 0:=eq_of_beq q.1.1
  have q2:sIx items.size items.size hi - sIx items.size 0 lo = items.size:=eq_of_beq q.2
  exact hw ⟨by omega,by omega⟩
 show wpAny _ _ (if (((sIx items.size 0 lo:Nat):Int) == 0 && (1:Int) == 1 && (sIx items.size items.size hi - sIx items.size 0 lo) == items.size) = true then _ else _) _ _ s
 rw [if_neg hno,zmN]
 first
  | exact wpAny_bind (m:=Builtin.Tuple.tupleExact _) (wpAny_newObj_type (wpAny_pure ⟨_,rfl,wpAny_pure h⟩) htake)
  | exact wpAny_bind (m:=Builtin.Tuple.tupleExact _) (wpAny_newObj_type (wpAny_bind (wpAny_pure (wpAny_pure ⟨_,rfl,wpAny_pure h⟩))) htake)
  | exact wpAny_bind (wpAny_bind (m:=Builtin.Tuple.tupleExact _) (wpAny_newObj_type (wpAny_pure (wpAny_pure ⟨_,rfl,wpAny_pure h⟩)) htake))
  | exact wpAny_bind (wpAny_bind (m:=Builtin.Tuple.tupleExact _) (wpAny_newObj_type (wpAny_pure ⟨_,rfl,wpAny_pure h⟩) htake))
end
end HT
namespace L2
open PySem PySem.Spec PyProof.Rows
section
abbrev TO:=St->Hp->(Option Int->Hp->Prop)->Prop
def PO (X:Cx) (e:Option Expr) (t:TO):Prop :=
 ∀ (zo:List (Addr × Obj)) (s:Shared) (σ:St) (H:Hp) (Q:Option Int->Hp->Prop),Inv X zo σ H s->t σ H Q ->
  wpAny (model X.prog X.w) X.A (evalPart e X.env) (fun u s'=>∃ o H',Inv X zo σ H' s'/\IsPart u o/\Q o H') X.xe s
def zl6:TO:=fun _ H Q=>Q none H
def zkf (t:TE):TO:=fun σ H Q=>t σ H fun x H1=>∃ i,x = .int i/\Q (some i) H1
theorem za8 {ns:List Int}:∀ {us:List Value},Vals (ns.map V.int) us->IntsAre us ns:=by
 induction ns with
 | nil=>intro us r; rw [List.map_nil] at r; cases r; exact .nil
 | cons n ns ih =>
  intro us r
  rw [List.map_cons] at r
  cases r with
  | cons r1 r2 =>
   obtain ⟨t,e⟩:=r1
   subst e
   exact .cons n t (ih r2)
section
variable {X:Cx} {e:Expr} {te:TE} {lo hi:Option Expr} {tl th:TO} {pos p2:Pos}
theorem zaZ:PO X none zl6:=by
 intro zo s σ H Q I h
 rw [evalPart_none]
 exact wpAny_pure ⟨none,H,I,.none,h⟩
theorem zaL (h:PE X e te):PO X (some e) (zkf te):=by
 intro zo s σ H Q I hw
 rw [evalPart_some]
 refine thn (h zo s σ H _ I hw) fun u s1 ⟨x,H1,I1,r1,q1⟩=>?_
 obtain ⟨i,rfl,q⟩:=q1
 obtain ⟨t,rfl⟩:=r1
 exact ⟨some i,H1,I1,.int i t,q⟩
def SlR (X:Cx) (r:V->Option Int->Option Int->Hp->VK->Prop):Prop :=
 ∀ (zo:List (Addr × Obj)) (s:Shared) (σ:St) (H:Hp) (x:V) (v vl vu:Value) (lo hi:Option Int) (sl:Addr) (Q:VK),Inv X zo σ H s->RelV x v->s.heap.IsSliceOf sl vl vu .none->IsPart vl lo->IsPart vu hi->r x lo hi H Q ->
  ∃ T id,typeLookup (.type T) "__getitem__" = pure (some (.builtin id))/\s.TypeIs v T/\wpAny (model X.prog X.w) X.A (getItem v (.ref sl)) (EP X zo σ Q) X.xe s
theorem SlR.or {r r':V->Option Int->Option Int->Hp->VK->Prop} (h:SlR X r) (h':SlR X r'):SlR X (fun x lo hi H Q=>r x lo hi H Q\/r' x lo hi H Q):=by
 intro zo s σ H x v vl vu lo hi sl Q I rx hs pl pu q
 rcases q with q | q
 ·exact h zo s σ H x v vl vu lo hi sl Q I rx hs pl pu q
 ·exact h' zo s σ H x v vl vu lo hi sl Q I rx hs pl pu q
def tSl (r:V->Option Int->Option Int->Hp->VK->Prop) (te:TE) (tl th:TO):TE:=fun σ H Q=>te σ H fun x H1=>tl σ H1 fun l H2=>th σ H2 fun u H3=>r x l u H3 Q
theorem zar {r:V->Option Int->Option Int->Hp->VK->Prop} (hr:SlR X r) (he:PE X e te) (hl:PO X lo tl) (hu:PO X hi th):PE X (.Subscript e (.Slice lo hi none p2) pos) (tSl r te tl th):=by
 intro zo s σ H Q I h
 refine Subscript_ (thn (he zo s σ H _ I h) fun v s1 ⟨x,H1,I1,r1,q1⟩=>?_)
 refine wpAny_Slice (thn (hl zo s1 σ H1 _ I1 q1) fun vl s2 ⟨l,H2,I2,pl,q2⟩=>thn (hu zo s2 σ H2 _ I2 q2) fun vu s3 ⟨u,H3,I3,pu,q3⟩=>?_)
 rw [evalPart_none]
 refine wpAny_pure ?_
 have I4:Inv X zo σ H3 { s3 with heap:=s3.heap.push { cls:=.type "slice",data:=.fields #[vl,vu,.none] } }:=I3.kept (t':=s3.toks) fun b ob q=>Heap.get?_push_of_some _ q
 obtain ⟨T,id,hT,ht,hg⟩:=hr zo { s3 with heap:=s3.heap.push { cls:=.type "slice",data:=.fields #[vl,vu,.none] } } σ H3 x v vl vu l u s3.heap.objs.size Q I4 r1 (Heap.IsSliceOf.new ..) pl pu q3
 show wpAny (model X.prog X.w) X.A (subscriptTail e (.Slice lo hi none p2) v (.ref s3.heap.objs.size)) (EP X zo σ Q) X.xe { s3 with heap:=s3.heap.push { cls:=.type "slice",data:=.fields #[vl,vu,.none] } }
 exact tail_any (ops:=[.ref s3.heap.objs.size,v]) ht hT hg (by with_unfolding_all rfl)
def zjV (xs:List V) (lo hi:Option Int):List V:=(xs.drop (HT.sIx xs.length 0 lo)).take (HT.sIx xs.length xs.length hi - HT.sIx xs.length 0 lo)
theorem zeV (xs:List V) (lo hi:Option Int):(zjV xs lo hi).length <= xs.length:=by
 unfold zjV
 rw [List.length_take,List.length_drop]
 omega
def zr2 (K:W.Frag):V->Option Int->Option Int->Hp->VK->Prop:=fun x lo hi H Q=>∃ a xs,x = .ref a/\SqT K H a xs /\
 ¬ (HT.sIx xs.length 0 lo = 0/\HT.sIx xs.length xs.length hi = xs.length)/\∀ p,H p = none->Q (.ref p) (upd H p (.tup (zjV xs lo hi)))
theorem zn2:SlR X (zr2 X.K):=by
 intro zo s σ H x v vl vu lo hi sl Q I rx hs pl pu h
 obtain ⟨a,xs,rfl,hx,hw,q⟩:=h
 cases rx
 obtain ⟨its,r,ht,hz⟩:=I.tuple hx
 have hlen:its.toArray.size = xs.length:=by rw [List.size_toArray]; exact r.length.symm
 refine ⟨"tuple",_,PyProof.Rows.slot_tuple_getitem.lookup,ht.typeIs,?_⟩
 refine HT.getItem_tuple_cut ht hs pl pu (by rw [hlen]; exact hw) ?_ (by rw [hlen]; exact hz)
 rw [hlen]
 refine ⟨.ref s.heap.objs.size,_,I.laid (t':=s.toks) (o:=.tup (zjV xs lo hi)) (fun b ob q=>Heap.get?_push_of_some _ q) (Nat.le_refl _) ?_,rfl,q _ (I.hok.fresh (Nat.le_refl _))⟩
 exact ⟨⟨Nat.le_trans (zeV xs lo hi) hz,_,Heap.get?_push_size _ rfl,rfl⟩,_,(r.drop (HT.sIx xs.length 0 lo)).take (HT.sIx xs.length xs.length hi - HT.sIx xs.length 0 lo),IsTup.new _ _⟩
def zsK (K:W.Frag):R2:=fun x y H Q=>∃ a b ns ms,x = .ref a/\y = .ref b/\SqT K H a (ns.map V.int)/\SqT K H b (ms.map V.int)/\Q (.bl (HT.lexLt ns ms)) H
theorem zrA (hu:X.A.units < cLine):OpR X (compareOp .Lt) (zsK X.K):=by
 intro zo s σ H x y v u Q I rx ry h
 obtain ⟨a,b,ns,ms,rfl,rfl,ha,hb,q⟩:=h
 cases rx
 cases ry
 obtain ⟨its,r1,p1,_⟩:=I.tuple ha
 obtain ⟨its2,r2,p2,_⟩:=I.tuple hb
 have i1:IntsAre its.toArray.toList ns:=za8 r1
 have i2:IntsAre its2.toArray.toList ms:=za8 r2
 exact HT.lt_tupInts p1 p2 i1 i2 hu ⟨.bl (HT.lexLt ns ms),H,I,rfl,q⟩
def zoK (K:W.Frag):R2:=fun x y H Q=>∃ a b xs ys,x = .ref a/\y = .ref b/\SqT K H a xs/\SqT K H b ys/\xs ≠ []/\xs.length + ys.length <= sizeLine /\
 (ys = []->Q (.ref a) H)/\(ys ≠ []->∀ p,H p = none->Q (.ref p) (upd H p (.tup (xs ++ ys))))
theorem Vals.nil_iff {xs:List V} {us:List Value} (r:Vals xs us):us = [] ↔ xs = []:=by
 cases r with
 | nil=>simp
 | cons _ _=>simp
theorem zpH:OpR X (binaryOp .Add) (zoK X.K):=by
 intro zo s σ H x y v u Q I rx ry h
 obtain ⟨a,b,xs,ys,rfl,rfl,ha,hb,hx,hz,q1,q2⟩:=h
 cases rx
 cases ry
 obtain ⟨its,r1,p1,_⟩:=I.tuple ha
 obtain ⟨its2,r2,p2,_⟩:=I.tuple hb
 refine HT.cat_tup p1 p2 (fun z=>hx (r1.nil_iff.mp z)) (fun z=>⟨.ref a,H,I,rfl,q1 (r2.nil_iff.mp z)⟩) (fun z=>?_) (by rw [<- r1.length,<- r2.length]; exact hz)
 refine ⟨.ref s.heap.objs.size,_,I.laid (t':=s.toks) (o:=.tup (xs ++ ys)) (fun b ob q=>Heap.get?_push_of_some _ q) (Nat.le_refl _) ?_,rfl,q2 (fun w=>z (r2.nil_iff.mpr w)) _ (I.hok.fresh (Nat.le_refl _))⟩
 exact ⟨⟨by rw [List.length_append]; exact hz,_,Heap.get?_push_size _ rfl,rfl⟩,_,r1.append r2,IsTup.new _ _⟩
end
end
section
def ixN (n:Nat) (i:Int):Option Nat:=if 0 <= i then (if i < n then some i.toNat else none) else if -(n:Int) <= i then some (i + n).toNat else none
def atI {α:Type} (xs:List α) (i:Int):Option α:=(ixN xs.length i).bind fun j=>xs[j]?
theorem zmg {n:Nat} {i:Int} {j:Nat} (h:ixN n i = some j):seqIndex? i n = some j/\j < n/\-(n:Int) <= i/\i < n:=by
 unfold ixN at h
 by_cases h0:0 <= i
 ·rw [if_pos h0] at h
  by_cases h1:i < n
  ·rw [if_pos h1] at h
   have e:i.toNat = j:=Option.some.inj h
   exact ⟨by rw [seqIndex_of h0 h1,e],by omega,by omega,h1⟩
  ·rw [if_neg h1] at h; cases h
 ·rw [if_neg h0] at h
  by_cases h1:-(n:Int) <= i
  ·rw [if_pos h1] at h
   have e:(i + n).toNat = j:=Option.some.inj h
   exact ⟨by rw [seqIndex_neg (by omega) h1,e],by omega,h1,by omega⟩
  ·rw [if_neg h1] at h; cases h
theorem zi9 {α:Type} {xs:List α} {i:Int} {v:α} (h:atI xs i = some v):∃ j,seqIndex? i xs.length = some j/\xs[j]? = some v/\j < xs.length/\-(xs.length:Int) <= i/\i < xs.length:=by
 unfold atI at h
 cases e:ixN xs.length i with
 | none=>rw [e] at h; cases h
 | some j =>
  rw [e] at h
  obtain ⟨h1,h2,h3,h4⟩:=zmg e
  exact ⟨j,h1,h,h2,h3,h4⟩
theorem zcp {α:Type} {xs:List α} {j:Nat} {v:α} (h:xs[j]? = some v):atI xs (j:Int) = some v:=by
 have hj:j < xs.length:=(List.getElem?_eq_some_iff.mp h).1
 have e:ixN xs.length (j:Int) = some j:=by
  unfold ixN
  rw [if_pos (by omega),if_pos (by omega)]; simp
 unfold atI; rw [e]; exact h
def PlainIx (b:Expr):Prop:=∀ o i,subscripted b false o i = operate [o,i] (getItem o i)
def IxR (X:Cx) (r:R2):Prop :=
 ∀ (value slice:Expr) (zo:List (Addr × Obj)) (s:Shared) (σ:St) (H:Hp) (x y:V) (v u:Value) (Q:VK),Inv X zo σ H s->RelV x v->RelV y u->r x y H Q ->
  subscripted slice false v u = operate [v,u] (getItem v u)->wpAny (model X.prog X.w) X.A (subscriptTail value slice v u) (EP X zo σ Q) X.xe s
def MtR (X:Cx) (id:String) (r:V->List V->Hp->VK->Prop):Prop :=
 ∀ (zo:List (Addr × Obj)) (s:Shared) (σ:St) (H:Hp) (x:V) (xs:List V) (v:Value) (us:List Value) (Q:VK),Inv X zo σ H s->RelV x v->Vals xs us->r x xs H Q ->
  wpAny (model X.prog X.w) X.A (call (.builtin id) (v :: us)) (EP X zo σ Q) X.xe s
section
variable {X:Cx} {a b:Expr} {ta tb:TE} {pos:Pos}
theorem IxR.or {r r':R2} (h:IxR X r) (h':IxR X r'):IxR X (fun x y H Q=>r x y H Q\/r' x y H Q):=by
 intro value slice zo s σ H x y v u Q I rx ry q hs
 rcases q with q | q
 ·exact h value slice zo s σ H x y v u Q I rx ry q hs
 ·exact h' value slice zo s σ H x y v u Q I rx ry q hs
theorem zP {r:R2} (hr:IxR X r) (ha:PE X a ta) (hb:PE X b tb) (hs:PlainIx b):PE X (.Subscript a b pos) (tOp r ta tb):=by
 intro zo s σ H Q I h
 exact Subscript_ (zsd ha hb I h fun v u s2 x y H2 I2 rx ry q=>hr a b zo s2 σ H2 x y v u Q I2 rx ry q (hs _ _))
def zsk (K:W.Frag):R2:=fun x y H Q=>∃ p xs i v,x = .ref p/\y = .int i/\SqL K H p xs/\atI xs i = some v/\Q v H
def zsr (K:W.Frag):R2:=fun x y H Q=>∃ p xs i v,x = .ref p/\y = .int i/\SqT K H p xs/\atI xs i = some v/\Q v H
def zsm:R2:=fun x y H Q=>∃ z i c,x = .str z/\y = .int i/\z.length <= sizeLine/\atI z.cps.toList i = some c/\Q (.str ⟨#[c]⟩) H
theorem zlu:IxR X (zsk X.K):=by
 intro value slice zo s σ H x y v u Q I rx ry h hs
 obtain ⟨p,xs,i,z,rfl,rfl,hq,he,q⟩:=h
 cases rx
 obtain ⟨t,rfl⟩:=ry
 obtain ⟨its,r,pl,hz⟩:=I.list hq
 obtain ⟨j,h1,h2,h3,h4,h5⟩:=zi9 he
 obtain ⟨w,ew,rw'⟩:=r.get h2
 have hl:=r.length
 have hn:=line63
 have fin:EP X zo σ Q w s:=⟨z,H,I,rw',q⟩
 by_cases h0:0 <= i
 ·have hj:i.toNat = j:=by
   rw [seqIndex_of h0 h5] at h1
   exact Option.some.inj h1
  exact item_listR pl.isList h0 (by omega) (by rw [hj]; simpa using ew) fin hs
 ·have hj:(i + (its.toArray.size:Int)).toNat = j:=by
   rw [seqIndex_neg (by omega) h4] at h1
   rw [List.size_toArray,<- hl]
   exact Option.some.inj h1
  exact subscriptTail_builtinR (x:=w) pl.isList.typeIs slot_list_getitem.lookup
   (wpAny_getItem_list_neg (Q:=fun r s'=>r = w/\EP X zo σ Q r s') pl.isList (by omega) (by rw [List.size_toArray] <;> omega) (by omega) (by rw [hj]; simpa using ew) ⟨rfl,fin⟩) hs
theorem zrI:IxR X (zsr X.K):=by
 intro value slice zo s σ H x y v u Q I rx ry h hs
 obtain ⟨p,xs,i,z,rfl,rfl,hq,he,q⟩:=h
 cases rx
 obtain ⟨t,rfl⟩:=ry
 obtain ⟨its,r,pl,hz⟩:=I.tuple hq
 obtain ⟨j,h1,h2,h3,h4,h5⟩:=zi9 he
 obtain ⟨w,ew,rw'⟩:=r.get h2
 have hl:=r.length
 have hn:=line63
 have fin:EP X zo σ Q w s:=⟨z,H,I,rw',q⟩
 exact subscriptTail_builtinR (x:=w) pl.typeIs slot_tuple_getitem.lookup
  (getItem_tuple (j:=j) (Q:=fun r s'=>r = w/\EP X zo σ Q r s') pl (by omega) (by omega) (by rw [List.size_toArray,<- hl]; exact h1) (by simpa using ew) ⟨rfl,fin⟩) hs
theorem zrH:IxR X zsm:=by
 intro value slice zo s σ H x y v u Q I rx ry h hs
 obtain ⟨z,i,c,rfl,rfl,hz,he,q⟩:=h
 obtain ⟨t,rfl⟩:=rx
 obtain ⟨t',rfl⟩:=ry
 obtain ⟨j,h1,h2,h3,h4,h5⟩:=zi9 he
 have hl:z.cps.toList.length = z.length:=by simp [Str.length]
 rw [hl] at h1 h4 h5
 have hn:=line63
 exact tail_any (typeIs_str s z t) slot_str_getitem.lookup (getItem_str (c:=c) (by
  have e1:decide (i < -(2 ^ 63:Int)) = false:=decide_eq_false (by omega)
  have e2:decide (i ≥ 2 ^ 63) = false:=decide_eq_false (by omega)
  rw [e1,e2,Bool.or_false]) (by rw [h1]; simpa using h2) ⟨.str ⟨#[c]⟩,H,I.tok _,⟨_,rfl⟩,q⟩) hs
def rIx (K:W.Frag):R2:=fun x y H Q=>zsk K x y H Q\/zsr K x y H Q\/zsm x y H Q
theorem zB:IxR X (rIx X.K):=zlu.or (zrI.or zrH)
theorem zkI (its:List Value) (n j:Nat) (u:Value):Obj.mapSeq (·.setIfInBounds j u) { cls:=.type "list",data:=.seq its.toArray n } = { cls:=.type "list",data:=.seq (its.set j u).toArray n }:=by
 simp [Obj.mapSeq]
theorem Inv.lst {zo:List (Addr × Obj)} {σ:St} {H:Hp} {s:Shared} {p:Addr} {xs:List V} (I:Inv X zo σ H s) (h:H p = some (.lst xs)) :
  ∃ (its:List Value) (n:Nat),Vals xs its/\s.heap.get? p = some { cls:=.type "list",data:=.seq its.toArray n }/\xs.length <= sizeLine:=by
 obtain ⟨z,its,n,r,e⟩:=I.hok p _ h
 exact ⟨its,n,r,e,z⟩
theorem Inv.lstUpd {zo:List (Addr × Obj)} {σ:St} {H:Hp} {s:Shared} {p:Addr} {xs ys:List V} {its its':List Value} {n n':Nat} {f:Obj->Obj} (I:Inv X zo σ H s) (h:H p = some (.lst xs))
  (ho:s.heap.get? p = some { cls:=.type "list",data:=.seq its.toArray n }) (hf:f { cls:=.type "list",data:=.seq its.toArray n } = { cls:=.type "list",data:=.seq its'.toArray n' }) (r:Vals ys its') (hz:ys.length <= sizeLine) (t:Nat) :
  Inv X zo σ (upd H p (.lst ys)) { s with heap:=s.heap.update p f,toks:=t }:=by
 have e:(s.heap.update p f).get? p = some { cls:=.type "list",data:=.seq its'.toArray n' }:=by
  rw [Heap.get?_update_self f ho (by rw [hf] <;> rfl),hf]
 refine I.write (x:=p) (e:=p) (by rw [h]; trivial) (.inl rfl) (fun b u hb q=>(Heap.get?_update_other _ _ (Ne.symm hb)).trans q) ⟨_,e⟩ ?_
 exact ⟨hz,its',n',r,e⟩
def zqh:V->V->V->Hp->(Hp->Prop)->Prop:=fun o i v H Q=>∃ p xs k j,o = .ref p/\i = .int k/\H p = some (.lst xs)/\ixN xs.length k = some j/\Q (upd H p (.lst (xs.set j v)))
theorem zhD:PSet X zqh:=by
 intro zo s σ H o i v ov iv u Q I ro ri rv h
 obtain ⟨p,xs,k,j,rfl,rfl,hp,hj,q⟩:=h
 cases ro
 obtain ⟨t,rfl⟩:=ri
 obtain ⟨its,n,r,ho,hz⟩:=I.lst hp
 obtain ⟨h1,h2,h3,h4⟩:=zmg hj
 have hl:=r.length
 have hn:=line63
 have I':Inv X zo σ (upd H p (.lst (xs.set j v))) { s with heap:=s.heap.update p (Obj.mapSeq (·.setIfInBounds j u)) } :=
  I.lstUpd hp ho (zkI its n j u) (r.set rv j) (by rw [List.length_set]; exact hz) s.toks
 by_cases h0:0 <= k
 ·have hk:k.toNat = j:=by
   rw [seqIndex_of h0 h4] at h1
   exact Option.some.inj h1
  exact PySem.W.ki_setAt ho h0 (by omega) (by rw [List.size_toArray,<- hl]; exact h4) (by rw [hk]; exact ⟨_,I',q⟩)
 ·have hk:(k + (its.toArray.size:Int)).toNat = j:=by
   rw [seqIndex_neg (by omega) h3] at h1
   rw [List.size_toArray,<- hl]
   exact Option.some.inj h1
  exact PySem.W.ki_setBack ho (by omega) (by rw [List.size_toArray,<- hl]; exact h3) (by omega) (by rw [hk]; exact ⟨_,I',q⟩)
theorem ziL (lo hi:Option Int) (n:Nat):(sliceBounds lo hi none n).1 = ((HT.sIx n 0 lo:Nat):Int)/\(sliceBounds lo hi none n).2.1 = ((HT.sIx n n hi:Nat):Int)/\(sliceBounds lo hi none n).2.2 = 1:=by
 refine ⟨?_,?_,rfl⟩
 ·cases lo with
  | none=>simp [sliceBounds,HT.sIx]
  | some i =>
   simp only [sliceBounds,HT.sIx,Option.getD_none,show (1:Int) > 0 by decide,if_true]
   by_cases h:i < 0
   ·simp only [h,if_true] <;> omega
   ·simp only [h,if_false] <;> omega
 ·cases hi with
  | none=>simp [sliceBounds,HT.sIx]
  | some i =>
   simp only [sliceBounds,HT.sIx,Option.getD_none,show (1:Int) > 0 by decide,if_true]
   by_cases h:i < 0
   ·simp only [h,if_true] <;> omega
   ·simp only [h,if_false] <;> omega
theorem zhR (its:List Value) (lo hi:Option Int):slicePick its.toArray lo hi none = ((its.drop (HT.sIx its.length 0 lo)).take (HT.sIx its.length its.length hi - HT.sIx its.length 0 lo)).toArray:=by
 obtain ⟨h1,h2,h3⟩:=ziL lo hi its.toArray.size
 unfold slicePick
 rw [h1,h2,h3]
 simp only [sliceRange_one,pick_run,List.size_toArray] <;> rfl
def zqH (K:W.Frag):V->Option Int->Option Int->Hp->VK->Prop:=fun x lo hi H Q=>∃ a xs,x = .ref a/\SqL K H a xs/\∀ p,H p = none->Q (.ref p) (upd H p (.lst (zjV xs lo hi)))
theorem zlh:SlR X (zqH X.K):=by
 intro zo s σ H x v vl vu lo hi sl Q I rx hs pl pu h
 obtain ⟨a,xs,rfl,hx,q⟩:=h
 cases rx
 obtain ⟨its,r,ht,hz⟩:=I.list hx
 have hlen:=r.length
 refine ⟨"list",_,slot_list_getitem.lookup,ht.isList.typeIs,?_⟩
 refine wpAny_getItem_list_slice ht.isList hs pl pu .none (by simp) ?_ (by rw [List.size_toArray] <;> omega)
 rw [zhR,<- hlen]
 refine ⟨.ref s.heap.objs.size,_,I.laid (t':=s.toks) (o:=.lst (zjV xs lo hi)) (fun b ob q=>Heap.get?_push_of_some _ q) (Nat.le_refl _) ?_,rfl,q _ (I.hok.fresh (Nat.le_refl _))⟩
 exact ⟨Nat.le_trans (zeV xs lo hi) hz,_,0,(r.drop (HT.sIx xs.length 0 lo)).take (HT.sIx xs.length xs.length hi - HT.sIx xs.length 0 lo),Heap.get?_push_size _ rfl⟩
theorem zfE:CallR X (.builtin "len") (fun xs H Q=>∃ p ys,xs = [.ref p]/\(SqL X.K H p ys\/SqT X.K H p ys)/\Q (.int ys.length) H):=by
 intro zo s σ H xs us Q I r h
 obtain ⟨p,ys,rfl,hq,q⟩:=h
 obtain ⟨u,rfl,rx⟩:=vals1 r
 cases rx
 have hn:=line63
 rcases hq with hq | hq
 ·obtain ⟨its,r',pl,hz⟩:=I.list hq
  have hlen:=r'.length
  exact Calls.call_len_list pl.isList (by simp only [List.size_toArray] <;> omega) ⟨.int ys.length,H,I.tok _,⟨s.toks + 1,by rw [List.size_toArray,hlen]⟩,q⟩
 ·obtain ⟨its,r',pl,hz⟩:=I.tuple hq
  have hlen:=r'.length
  exact len_tuple pl (by simp only [List.size_toArray] <;> omega) ⟨.int ys.length,H,I.tok _,⟨s.toks + 1,by rw [List.size_toArray,hlen]⟩,q⟩
theorem ziW:CallR X (.builtin "len") (fun xs H Q=>∃ z,xs = [.str z]/\z.length <= sizeLine/\Q (.int z.length) H):=by
 intro zo s σ H xs us Q I r h
 obtain ⟨z,rfl,hz,q⟩:=h
 obtain ⟨u,rfl,t,rfl⟩:=vals1 r
 have hn:=line63
 exact len_str (by omega) ⟨.int z.length,H,I.tok _,⟨_,rfl⟩,q⟩
theorem CallR.or {f:Value} {r r':List V->Hp->VK->Prop} (h:CallR X f r) (h':CallR X f r'):CallR X f (fun xs H Q=>r xs H Q\/r' xs H Q):=by
 intro zo s σ H xs us Q I rs q
 rcases q with q | q
 ·exact h zo s σ H xs us Q I rs q
 ·exact h' zo s σ H xs us Q I rs q
theorem zfI:CallR X (.type "list") (fun xs H Q=>∃ p ys,xs = [.ref p]/\(SqL X.K H p ys\/SqT X.K H p ys)/\∀ l,H l = none->Q (.ref l) (upd H l (.lst ys))):=by
 intro zo s σ H xs us Q I r h
 obtain ⟨p,ys,rfl,hq,q⟩:=h
 obtain ⟨u,rfl,rx⟩:=vals1 r
 cases rx
 have fin:∀ (its:List Value),Vals ys its->ys.length <= sizeLine->∀ (h':Heap) (c':Nat),(∀ b o',s.heap.get? b = some o'->h'.get? b = some o') ->
   h'.get? s.heap.objs.size = some { cls:=.type "list",dict:=none,data:=.seq its.toArray c',slots:=#[] }->EP X zo σ Q (.ref s.heap.objs.size) { s with heap:=h' }:=fun its r' hz h' c' kp e =>
  ⟨.ref s.heap.objs.size,_,I.laid (t':=s.toks) kp (Nat.le_refl _) (show ObjOk X.prog X.w _ h' _ (.lst ys) from ⟨hz,its,c',r',e⟩),rfl,q _ (I.hok.fresh (Nat.le_refl _))⟩
 rcases hq with hq | hq
 ·obtain ⟨its,r',pl,hz⟩:=I.list hq
  have hlen:=r'.length
  obtain ⟨o,ho,hc,n,hd⟩:=pl.isList
  exact call_list_seq p (.inl rfl) ho hc hd (fun h' c' kp e=>fin its r' hz h' c' kp e) (by simp only [List.size_toArray] <;> omega)
 ·obtain ⟨its,r',pl,hz⟩:=I.tuple hq
  have hlen:=r'.length
  obtain ⟨o,ho,hc,n,hd⟩:=pl
  exact call_list_seq p (.inr rfl) ho hc hd (fun h' c' kp e=>fin its r' hz h' c' kp e) (by simp only [List.size_toArray] <;> omega)
theorem zai:CallR X (.type "tuple") (fun xs H Q=>∃ p ys,xs = [.ref p]/\((SqL X.K H p ys/\∀ l,H l = none->Q (.ref l) (upd H l (.tup ys)))\/(SqT X.K H p ys/\Q (.ref p) H))):=by
 intro zo s σ H xs us Q I r h
 obtain ⟨p,ys,rfl,h⟩:=h
 obtain ⟨u,rfl,rx⟩:=vals1 r
 cases rx
 rcases h with ⟨hq,q⟩ | ⟨hq,q⟩
 ·obtain ⟨its,r',pl,hz⟩:=I.list hq
  have hlen:=r'.length
  refine call_tuple_list pl.isList (fun h' kp=>?_) (by simp only [List.size_toArray] <;> omega)
  have I1:Inv X zo σ H { s with heap:=h' }:=I.kept (t':=s.toks) kp
  have I2:Inv X zo σ (upd H h'.objs.size (.tup ys)) { s with heap:=h'.push { cls:=.type "tuple",data:=.seq its.toArray } } :=
   I1.laid (t':=s.toks) (fun b o e=>Heap.get?_push_of_some _ e) (Nat.le_refl _) (show ObjOk X.prog X.w _ _ _ (.tup ys) from ⟨⟨hz,_,Heap.get?_push_size _ rfl,rfl⟩,its,r',IsTup.new _ _⟩)
  exact ⟨.ref h'.objs.size,_,I2,rfl,q _ (I1.hok.fresh (Nat.le_refl _))⟩
 ·obtain ⟨its,r',pl,hz⟩:=I.tuple hq
  exact call_tuple_same pl ⟨.ref p,H,I,rfl,q⟩
def tyV (K:W.Frag) (T:String) (x:V) (H:Hp):Prop:=match x with
 | .str _=>T = "str"
 | .int _=>T = "int"
 | .ref p=>(T = "list"/\∃ xs,SqL K H p xs)\/(T = "tuple"/\∃ o,K.lookup p = some o/\o.cls = .type "tuple"/\o.dict = none) \/
   (T = "dict"/\((∃ kvs,H p = some (.dK kvs))\/∃ kvs,H p = some (.dT kvs)))\/(T = "set"/\∃ S n,H p = some (.set S n))
 | _=>False
theorem zou {zo:List (Addr × Obj)} {σ:St} {H:Hp} {s:Shared} {T:String} {x:V} {v:Value} (I:Inv X zo σ H s) (r:RelV x v) (ty:tyV X.K T x H) :
  s.TypeIs v T/\∀ a,v = .ref a->∃ ob,s.heap.get? a = some ob/\ob.dict = none:=by
 cases x with
 | str z =>
  obtain ⟨t,rfl⟩:=r
  cases (show T = "str" from ty)
  exact ⟨typeIs_str s z t,fun _ e=>nomatch e⟩
 | int i =>
  obtain ⟨t,rfl⟩:=r
  cases (show T = "int" from ty)
  exact ⟨typeIs_int s i t,fun _ e=>nomatch e⟩
 | ref p =>
  cases r
  rcases ty with ⟨rfl,xs,hq⟩ | ⟨rfl,o,hk,hc,hd⟩ | ⟨rfl,hk⟩ | ⟨rfl,S,n,hk⟩
  ·obtain ⟨its,_,pl,_⟩:=I.list hq
   refine ⟨pl.isList.typeIs,fun a e=>?_⟩
   cases e
   obtain ⟨o,n,e,c,hd,_⟩:=pl
   exact ⟨o,e,hd⟩
  ·refine ⟨⟨o,I.kIn p o hk,hc⟩,fun a e=>?_⟩
   cases e
   exact ⟨o,I.kIn _ o hk,hd⟩
  ·have z:∃ o,s.heap.get? p = some o/\o.ExactDict:=by
    rcases hk with ⟨kvs,hk⟩ | ⟨kvs,hk⟩
    ·obtain ⟨_,_,_,_,o,_,_,e,ex,_⟩:=I.hok p _ hk
     exact ⟨o,e,ex⟩
    ·obtain ⟨_,_,_,_,o,_,_,e,ex,_⟩:=I.hok p _ hk
     exact ⟨o,e,ex⟩
   obtain ⟨o,e,ex⟩:=z
   refine ⟨⟨o,e,ex.1⟩,fun a e2=>?_⟩
   cases e2
   exact ⟨o,e,ex.2.1⟩
  ·obtain ⟨o,_,_,_,e,ex,_⟩:=I.hok p _ hk
   refine ⟨⟨o,e,ex.1⟩,fun a e2=>?_⟩
   cases e2
   exact ⟨o,e,ex.2.1⟩
 | _=>exact False.elim ty
def zs1 (K:W.Frag) (T:String) (r:V->List V->Hp->VK->Prop) (to:TE):TE:=fun σ H Q=>to σ H fun x H1=>tyV K T x H1/\r x [] H1 Q
def tBM (K:W.Frag) (T:String) (r:V->List V->Hp->VK->Prop) (to:TE) (t:TA):TE:=fun σ H Q=>to σ H fun x H1=>tyV K T x H1/\t σ H1 fun xs H2=>r x xs H2 Q
variable {o e:Expr} {es:List Expr} {to:TE} {t:TA} {name:Str} {apos cpos:Pos} {T id:String} {r:V->List V->Hp->VK->Prop}
theorem zql (pa:PlainAttrs T) (slot:Slot T name id) (hty:typeOf (.builtin id) = pure (.type "method_descriptor")) (hm:MtR X id r) (ho:PE X o to)
  (hbase:attributeBase o name X.env (eval o X.env) = eval o X.env:=by rfl) (hline:(apos.endLine == cpos.line) = true:=by rfl):PE X (.Call (.Attribute o name apos) [] [] cpos) (zs1 X.K T r to):=by
 intro zo s σ H Q I h
 refine wpAny_Call_method0_late hbase hline (thn (ho zo s σ H _ I h) fun v s1 ⟨x,H1,I1,r1,ty,q1⟩=>?_)
 obtain ⟨h1,h2⟩:=zou I1 r1 ty
 exact ⟨T,id,pa,slot,hty,h1,h2,Calls.callWith_builtin rfl (PySem.evalArgs_none (hm zo s1 σ H1 x [] v [] Q I1 r1 .nil q1))⟩
theorem zfP (pa:PlainAttrs T) (slot:Slot T name id) (hty:typeOf (.builtin id) = pure (.type "method_descriptor")) (hm:MtR X id r) (ho:PE X o to) (ha:PA X (e :: es) t)
  (hbase:attributeBase o name X.env (eval o X.env) = eval o X.env:=by rfl)
  (hfew:((backTo cpos (starEach (e :: es) X.env)).all (fun x=>!x.1) && (backToKw cpos (keywordEach [] X.env)).all (fun x=>x.1.isSome)
   && decide ((e :: es).length + ([]:List Keyword).length + (if ([]:List Keyword).isEmpty then 0 else 1) < 30)) = true:=by rfl)
  (hline:(apos.endLine == cpos.line) = true:=by rfl) (hs:starEach (e :: es) X.env = (false,eval e X.env) :: starEach es X.env:=by rfl) (hplain:(backTo cpos (starEach es X.env)).any (·.1) = false:=by rfl) :
  PE X (.Call (.Attribute o name apos) (e :: es) [] cpos) (tBM X.K T r to t):=by
 intro zo s σ H Q I h
 refine wpAny_Call_method_late hbase hfew hline rfl (thn (ho zo s σ H _ I h) fun v s1 ⟨x,H1,I1,r1,ty,q1⟩=>?_)
 obtain ⟨h1,h2⟩:=zou I1 r1 ty
 refine ⟨T,id,pa,slot,hty,h1,h2,?_⟩
 have hA:=ha cpos zo s1 σ H1 _ I1 q1
 rw [hs] at hA ⊢
 refine Calls.callWith_builtin (by show (false || (backTo cpos (starEach es X.env)).any (·.1)) = false; rw [hplain] <;> rfl) (Calls.evalArgs_plain ?_)
 exact thn hA fun us s2 ⟨vs,H2,I2,r2,q2⟩=>hm zo s2 σ H2 x vs v us Q I2 r1 r2 q2
end
end
section
def MtM (X:Cx) (id:String) (r:V->List V->Hp->VK->Prop):Prop :=
 ∀ (zo:List (Addr × Obj)) (s:Shared) (σ:St) (H:Hp) (x:V) (xs:List V) (v:Value) (us:List Value) (Q:VK),Inv X zo σ H s->RelV x v->Vals xs us->r x xs H Q ->
  wpAny (model X.prog X.w) X.A (call (.builtin id) (v :: us)) (EP X zo σ Q) X.xe s
theorem Vals.one:∀ {x:V} {us:List Value},Vals [x] us->∃ u,us = [u]/\RelV x u
 | _,_,.cons r .nil=>⟨_,rfl,r⟩
theorem Vals.zero:∀ {us:List Value},Vals [] us->us = []
 | _,.nil=>rfl
theorem Vals.reverse {xs:List V} {us:List Value} (h:Vals xs us):Vals xs.reverse us.reverse:=by
 induction h with
 | nil=>exact .nil
 | cons r t ih=>rw [List.reverse_cons,List.reverse_cons]; exact Vals.append ih (.cons r .nil)
theorem Vals.rep {xs:List V} {us:List Value} (h:Vals xs us):∀ k:Nat,Vals (List.replicate k xs).flatten (List.replicate k us).flatten
 | 0=>.nil
 | k + 1=>by
  rw [List.replicate_succ,List.replicate_succ,List.flatten_cons,List.flatten_cons]
  exact Vals.append h (Vals.rep h k)
theorem zix (its:List Value):∀ (k:Nat) (acc:List Value),
  List.foldl (fun x1 x2=>x1 ++ x2) acc.toArray (List.replicate k its.toArray) = (acc ++ (List.replicate k its).flatten).toArray
 | 0,acc=>by simp
 | k + 1,acc=>by
  have e:acc.toArray ++ its.toArray = (acc ++ its).toArray:=by simp
  have e2:(acc ++ its) ++ (List.replicate k its).flatten = acc ++ (List.replicate (k + 1) its).flatten:=by
   rw [List.replicate_succ,List.flatten_cons,List.append_assoc]
  rw [<- e2,<- zix its k (acc ++ its),<- e,List.replicate_succ,List.foldl_cons]
section
variable {X:Cx} {zo:List (Addr × Obj)} {σ:St} {H:Hp} {s:Shared} {l b:Addr} {xs ys zs:List V}
theorem Inv.lset {its its':List Value} {n:Nat} {f:Array Value->Array Value} {t':Nat} (I:Inv X zo σ H s) (hH:H l = some (.lst xs))
  (e:s.heap.get? l = some { cls:=.type "list",data:=.seq its.toArray n }) (hf:f its.toArray = its'.toArray) (hv:Vals ys its') (hz:ys.length <= sizeLine) :
  Inv X zo σ (upd H l (.lst ys)) { s with heap:=s.heap.update l (Obj.mapSeq f),toks:=t' }:=by
 have q:=PySem.IsL.update e f
 rw [hf] at q
 refine I.write (x:=l) (e:=l) (by rw [hH]; exact trivial) (.inl rfl) (fun b' u hb hu=>(Heap.get?_update_other s.heap (Obj.mapSeq f) (Ne.symm hb)).trans hu) ⟨_,q⟩ ?_
 exact ⟨hz,its',_,hv,q⟩
theorem Inv.lnew {its:List Value} {t':Nat} (I:Inv X zo σ H s) (hv:Vals ys its) (hz:ys.length <= sizeLine) :
  Inv X zo σ (upd H s.heap.objs.size (.lst ys)) { s with heap:=s.heap.push { cls:=.type "list",data:=.seq its.toArray },toks:=t' } :=
 I.laid (fun _ _ q=>Heap.get?_push_of_some _ q) (Nat.le_refl _) ⟨hz,its,0,hv,Heap.get?_push_size _ rfl⟩
theorem Inv.fresh (I:Inv X zo σ H s):H s.heap.objs.size = none:=I.hok.fresh (Nat.le_refl _)
theorem Inv.lstM (I:Inv X zo σ H s) (hH:H l = some (.lst xs)):xs.length <= sizeLine/\∃ (its:List Value) (n:Nat),Vals xs its/\xs.length = its.length/\s.heap.get? l = some { cls:=.type "list",data:=.seq its.toArray n }:=by
 obtain ⟨z,its,n,r,e⟩:=I.hok l _ hH
 exact ⟨z,its,n,r,r.length,e⟩
theorem zj7 {n:Nat} (h:n <= sizeLine):Builtin.List.listTooLong n = false:=by
 unfold Builtin.List.listTooLong
 exact decide_eq_false (by omega)
end
section
variable {X:Cx}
def zlo:V->List V->Hp->VK->Prop:=fun x vs H Q=>∃ l xs y,x = .ref l/\vs = [y]/\H l = some (.lst xs)/\xs.length < sizeLine/\Q .non (upd H l (.lst (xs ++ [y])))
theorem zbX:MtM X "list.append" zlo:=by
 intro zo s σ H x vs v us Q I rx rv h
 obtain ⟨l,xs,y,rfl,rfl,hH,hz,q⟩:=h
 cases rx
 obtain ⟨u,rfl,ru⟩:=rv.one
 obtain ⟨z,its,n,r,hl,e⟩:=I.lstM hH
 refine call_meets F.slot_list_append ⟨_,e,rfl⟩ F.entry_list_append (F.args_list_append_2 _ _) (PySem.list_append l its.toArray n u (by rw [List.size_toArray]; omega)) ⟨e,?_⟩
 refine ⟨.non,_,I.lset (its':=its ++ [u]) hH e (by simp) (r.append (.cons ru .nil)) ?_,rfl,q⟩
 rw [List.length_append,List.length_singleton]
 omega
def zlG:V->List V->Hp->VK->Prop:=fun x vs H Q=>∃ l b xs zs,x = .ref l/\vs = [.ref b]/\H l = some (.lst xs)/\H b = some (.lst zs)/\xs.length + zs.length <= sizeLine/\Q .non (upd H l (.lst (xs ++ zs)))
theorem ziD:MtM X "list.extend" zlG:=by
 intro zo s σ H x vs v us Q I rx rv h
 obtain ⟨l,b,xs,zs,rfl,rfl,hH,hB,hz,q⟩:=h
 cases rx
 obtain ⟨u,rfl,ru⟩:=rv.one
 cases ru
 obtain ⟨z,its,n,r,hl,e⟩:=I.lstM hH
 obtain ⟨z2,its2,n2,r2,hl2,e2⟩:=I.lstM hB
 have hsz:its.toArray.size + its2.toArray.size <= sizeLine:=by rw [List.size_toArray,List.size_toArray]; omega
 have hlong:¬ (!its.toArray.isEmpty && Builtin.List.listTooLong (its.toArray.size + its2.toArray.size)) = true:=by
  rw [zj7 hsz,Bool.and_false]
  exact Bool.false_ne_true
 refine call_meets F.slot_list_extend ⟨_,e,rfl⟩ F.entry_list_extend (F.args_list_extend_2 _ _)
  (AutoSeq1.list_extend_list_list_0 l its.toArray n b its2.toArray n2 hlong (by rw [List.size_toArray]; omega) (by omega)) ⟨e,e2,?_⟩
 refine ⟨.non,_,I.lset (its':=its ++ its2) hH e (by simp) (r.append r2) ?_,rfl,q⟩
 rw [List.length_append]
 omega
def zjZ:V->List V->Hp->VK->Prop:=fun x vs H Q=>∃ l xs,x = .ref l/\vs = []/\H l = some (.lst xs)/\Q .non (upd H l (.lst xs.reverse))
theorem zkm:MtM X "list.reverse" zjZ:=by
 intro zo s σ H x vs v us Q I rx rv h
 obtain ⟨l,xs,rfl,rfl,hH,q⟩:=h
 cases rx
 have hus:=rv.zero
 subst hus
 obtain ⟨z,its,n,r,hl,e⟩:=I.lstM hH
 refine call_meets F.slot_list_reverse ⟨_,e,rfl⟩ F.entry_list_reverse (F.args_list_reverse_1 _) (AutoSeq1.list_reverse_list_0 l its.toArray n (by rw [List.size_toArray]; omega)) ⟨e,?_⟩
 refine ⟨.non,_,I.lset (its':=its.reverse) hH e (by simp) r.reverse ?_,rfl,q⟩
 rw [List.length_reverse]
 omega
def zpT:R2:=fun x y H Q=>∃ l b xs zs,x = .ref l/\y = .ref b/\H l = some (.lst xs)/\H b = some (.lst zs)/\xs.length + zs.length <= sizeLine/\∀ p,H p = none->Q (.ref p) (upd H p (.lst (xs ++ zs)))
theorem zhm:OpR X (binaryOp .Add) zpT:=by
 intro zo s σ H x y v u Q I rx ry h
 obtain ⟨l,b,xs,zs,rfl,rfl,hH,hB,hz,q⟩:=h
 cases rx
 cases ry
 obtain ⟨z,its,n,r,hl,e⟩:=I.lstM hH
 obtain ⟨z2,its2,n2,r2,hl2,e2⟩:=I.lstM hB
 refine PySem.P.add_list e e2 ?_ (by rw [List.size_toArray,List.size_toArray]; omega)
 have ea:its.toArray ++ its2.toArray = (its ++ its2).toArray:=by simp
 rw [ea]
 exact ⟨.ref _,_,I.lnew (t':=s.toks) (r.append r2) (by rw [List.length_append]; omega),rfl,q _ I.fresh⟩
def zs2:R2:=fun x y H Q=>∃ l k xs,x = .ref l/\y = .int k/\H l = some (.lst xs)/\-(2 ^ 63) <= k/\k < 2 ^ 63/\xs.length * k.toNat <= sizeLine /\
 ∀ p,H p = none->Q (.ref p) (upd H p (.lst (List.replicate k.toNat xs).flatten))
theorem zpr {α:Type} (xs:List α) (k:Nat):(List.replicate k xs).flatten.length = k * xs.length:=by
 induction k with
 | zero=>simp
 | succ k ih=>rw [List.replicate_succ,List.flatten_cons,List.length_append,ih,Nat.succ_mul,Nat.add_comm]
theorem zp8:OpR X (binaryOp .Mult) zs2:=by
 intro zo s σ H x y v u Q I rx ry h
 obtain ⟨l,k,xs,rfl,rfl,hH,h1,h2,hz,q⟩:=h
 cases rx
 obtain ⟨t,rfl⟩:=ry
 obtain ⟨z,its,n,r,hl,e⟩:=I.lstM hH
 have hlen:its.toArray.size * k.toNat <= sizeLine:=by rw [List.size_toArray,<- hl]; exact hz
 have hcap:¬ its.toArray.size * k.toNat > (2 ^ 63 - 1) / 8:=by
  have:(sizeLine:Nat) <= (2 ^ 63 - 1) / 8:=by decide
  omega
 have hfit:¬ (!Builtin.List.listFitsIndex k) = true:=by
  rw [fitsIndex_both h1 h2]
  exact Bool.false_ne_true
 have hlong:¬ Builtin.List.listTooLong (its.toArray.size * k.toNat) = true:=by
  rw [zj7 hlen]
  exact Bool.false_ne_true
 have hnew:List.foldl (fun x1 x2=>x1 ++ x2) #[] (List.replicate (if its.toArray.isEmpty = true then 0 else k.toNat) its.toArray) = (List.replicate k.toNat its).flatten.toArray:=by
  have f0:∀ m:Nat,List.foldl (fun x1 x2=>x1 ++ x2) #[] (List.replicate m its.toArray) = (List.replicate m its).flatten.toArray:=fun m=>by
   have:=zix its m []
   rw [List.nil_append] at this
   exact this
  rw [f0]
  cases its with
  | nil=>simp
  | cons a r'=>rw [if_neg (by simp)]
 refine wpAny_binaryOp_repeat_ref (T:="list") (U:="int") (by decide) ⟨_,e,rfl⟩ (fun s'=>typeIs_int s' k t) noFill_list_mul F.fills_int_mul F.slot_int_rmul repeat_list F.slot_int_index.lookup
  (call_meets F.slot_int_rmul (typeIs_int s k t) F.entry_int_rmul (F.args_int_rmul_2 _ _) (int___rmul___int_list k t l its.toArray n)
   ⟨e,rfl,⟨_,e,rfl⟩,call_meets F.slot_list_mul ⟨_,e,rfl⟩ F.entry_list_mul (F.args_list_mul_2 _ _) (AutoListH.list___mul___list_int_3 l its.toArray n k t hfit hcap hlong) ⟨e,?_⟩⟩)
 rw [hnew]
 exact ⟨.ref _,_,I.lnew (t':=s.toks) (r.rep k.toNat) (by rw [zpr,Nat.mul_comm]; exact hz),rfl,q _ I.fresh⟩
end
end
section
section
variable {κ:Type} [DecidableEq κ]
def zkP (kvs:List (κ × V)) (k:κ):Option V:=(kvs.find? fun kv=>decide (kv.1 = k)).map (·.2)
def zi2 (kvs:List (κ × V)) (k:κ) (v:V):List (κ × V) :=
 if (kvs.any fun kv=>decide (kv.1 = k)) = true then kvs.map (fun kv=>if kv.1 = k then (kv.1,v) else kv) else kvs ++ [(k,v)]
theorem zfY {p:κ × V} {r:List (κ × V)} {k:κ} (e:p.1 = k):zkP (p :: r) k = some p.2:=by simp [zkP,List.find?_cons,e]
theorem zfZ {p:κ × V} {r:List (κ × V)} {k:κ} (e:¬ p.1 = k):zkP (p :: r) k = zkP r k:=by simp [zkP,List.find?_cons,e]
theorem zj9 (k:κ):∀ kvs:List (κ × V),(kvs.any fun kv=>decide (kv.1 = k)) = (zkP kvs k).isSome
 | []=>rfl
 | p :: r=>by
  rw [List.any_cons]
  by_cases e:p.1 = k
  ·simp only [zfY e,decide_eq_true e,Bool.true_or,Option.isSome_some]
  ·rw [zfZ e,decide_eq_false e,Bool.false_or]; exact zj9 k r
theorem zgN (kvs:List (κ × V)) (k:κ) (v:V):(zi2 kvs k v).length <= kvs.length + 1:=by
 unfold zi2
 split
 ·rw [List.length_map]; omega
 ·rw [List.length_append,List.length_cons,List.length_nil]; omega
theorem RelO.isSome_eq {o:Option V} {u:Option Value} (r:RelO o u):o.isSome = u.isSome:=by
 cases o with
 | none=>cases u with
  | none=>rfl
  | some _=>exact (show False from r).elim
 | some _=>cases u with
  | none=>exact (show False from r).elim
  | some _=>rfl
theorem KV.val {kvs:List (κ × V)} {vs:List (κ × Value)} (r:KV kvs vs) (k:κ):RelO (zkP kvs k) (valueAt vs k):=by
 unfold KV at r
 induction r with
 | nil=>exact True.intro
 | @cons p q ps qs h t ih =>
  obtain ⟨h1,h2⟩:=h
  by_cases e:p.1 = k
  ·have e':q.1 = k:=h1.symm.trans e
   have b:valueAt (q :: qs) k = some q.2:=by simp [valueAt,List.find?_cons,e']
   rw [zfY e,b]; exact h2
  ·have e':¬ q.1 = k:=fun z=>e (h1.trans z)
   have b:valueAt (q :: qs) k = valueAt qs k:=by simp [valueAt,List.find?_cons,e']
   rw [zfZ e,b]; exact ih
theorem KV.any {kvs:List (κ × V)} {vs:List (κ × Value)} (r:KV kvs vs) (k:κ):(kvs.any fun kv=>decide (kv.1 = k)) = vs.any fun kv=>decide (kv.1 = k):=by
 unfold KV at r
 induction r with
 | nil=>rfl
 | cons h t ih=>rw [List.any_cons,List.any_cons,ih,h.1]
theorem KV.repl {kvs:List (κ × V)} {vs:List (κ × Value)} (r:KV kvs vs) (k:κ) {y:V} {u:Value} (ry:RelV y u) :
  KV (kvs.map fun kv=>if kv.1 = k then (kv.1,y) else kv) (vs.map fun kv=>if kv.1 = k then (kv.1,u) else kv):=by
 unfold KV at r ⊢
 induction r with
 | nil=>exact .nil
 | @cons p q ps qs h t ih =>
  rw [List.map_cons,List.map_cons]
  refine .cons ?_ ih
  obtain ⟨h1,h2⟩:=h
  by_cases e:p.1 = k
  ·rw [if_pos e,if_pos (h1.symm.trans e)]; exact ⟨h1,ry⟩
  ·rw [if_neg e,if_neg (fun z=>e (h1.trans z))]; exact ⟨h1,h2⟩
theorem KV.put {kvs:List (κ × V)} {vs:List (κ × Value)} (r:KV kvs vs) (k:κ) {y:V} {u:Value} (ry:RelV y u):KV (zi2 kvs k y) (stored vs k u):=by
 unfold zi2 stored
 rw [r.any k]
 by_cases e:(vs.any fun kv=>decide (kv.1 = k)) = true
 ·rw [if_pos e,if_pos e]; exact r.repl k ry
 ·rw [if_neg e,if_neg e]; exact Paired.snoc r ⟨rfl,ry⟩
theorem KV.length {kvs:List (κ × V)} {vs:List (κ × Value)} (r:KV kvs vs):kvs.length = vs.length:=Paired.length r
end
theorem zpN {P:Program} {w:World} {k:Key} {u:Value} (r:RelV (kV k) u):(zcn P w).is k u = true:=by
 cases k with
 | inl i=>obtain ⟨t,e⟩:=(show ∃ t,u = Value.int i t from r); subst e; exact zjg P w i t
 | inr x=>obtain ⟨t,e⟩:=(show ∃ t,u = Value.str x t from r); subst e; exact zjd P w x t
theorem ziC {P:Program} {w:World}:∀ {ks:List Key} {us:List Value},Vals (ks.map kV) us->ItemsAre (zcn P w) ks us
 | [],_,r=>by rw [List.map_nil] at r; cases r; exact .nil
 | k :: ks,_,r=>by
  rw [List.map_cons] at r
  cases r with
  | cons h t=>exact .cons (zpN h) (ziC t)
abbrev KT (H:Hp):List (List Key × V)->List (List Key × Addr × Value)->Prop:=Paired fun p q=>p.1 = q.1/\H q.2.1 = some (.tup (p.1.map kV))/\RelV p.2 q.2.2
theorem KT.val {H:Hp} {kvs:List (List Key × V)} {xs:List (List Key × Addr × Value)} (r:KT H kvs xs) (k:List Key):RelO (zkP kvs k) ((atKey xs k).map (·.2)):=by
 induction r with
 | nil=>exact True.intro
 | @cons p q ps qs h t ih =>
  obtain ⟨h1,_,h2⟩:=h
  by_cases e:p.1 = k
  ·have e':q.1 = k:=h1.symm.trans e
   have b:atKey (q :: qs) k = some q.2:=by simp [atKey,List.find?_cons,e']
   rw [zfY e,b]; exact h2
  ·have e':¬ q.1 = k:=fun z=>e (h1.trans z)
   have b:atKey (q :: qs) k = atKey qs k:=by simp [atKey,List.find?_cons,e']
   rw [zfZ e,b]; exact ih
theorem KT.repl {H:Hp} {kvs:List (List Key × V)} {xs:List (List Key × Addr × Value)} (r:KT H kvs xs) (k:List Key) {y:V} {u:Value} (ry:RelV y u) :
  KT H (kvs.map fun kv=>if kv.1 = k then (kv.1,y) else kv) (xs.map (putAt k u)):=by
 induction r with
 | nil=>exact .nil
 | @cons p q ps qs h t ih =>
  rw [List.map_cons,List.map_cons]
  refine .cons ?_ ih
  obtain ⟨h1,h2,h3⟩:=h
  unfold putAt
  by_cases e:p.1 = k
  ·rw [if_pos e,if_pos (h1.symm.trans e)]; exact ⟨h1,h2,ry⟩
  ·rw [if_neg e,if_neg (fun z=>e (h1.trans z))]; exact ⟨h1,h2,h3⟩
theorem KT.put {H:Hp} {kvs:List (List Key × V)} {xs:List (List Key × Addr × Value)} (r:KT H kvs xs) (k:List Key) {b:Addr} {y:V} {u:Value} (hb:H b = some (.tup (k.map kV))) (ry:RelV y u) :
  KT H (zi2 kvs k y) (storedH xs k b u):=by
 have e:(kvs.any fun kv=>decide (kv.1 = k)) = (atKey xs k).isSome:=by
  rw [zj9,(r.val k).isSome_eq,Option.isSome_map]
 unfold zi2 storedH
 rw [e]
 by_cases q:(atKey xs k).isSome = true
 ·rw [if_pos q,if_pos q]; exact r.repl k ry
 ·rw [if_neg q,if_neg q]; exact Paired.snoc r ⟨rfl,hb,ry⟩
theorem KT.keeps {H H':Hp} {kvs:List (List Key × V)} {xs:List (List Key × Addr × Value)} (r:KT H kvs xs) (ht:∀ b ys,H b = some (.tup ys)->H' b = some (.tup ys)):KT H' kvs xs :=
 Paired.mapP r fun _ _ z=>⟨z.1,ht _ _ z.2.1,z.2.2⟩
section
variable {P:Program} {w:World} {H:Hp} {h:Heap} {a:Addr}
theorem zqc {u:HO} (ok:HOk P w H h) (e:Rd H a u):ObjOk P w H h a u:=e.ok ok
theorem zrC {kvs:List (Key × V)} (ok:HOk P w H h) (e:Rd H a (.dK kvs)):kvs.length <= sizeLine/\(a == sysModules) = false/\∃ vs,KV kvs vs/\h.DictOf (zcn P w) a vs :=
 show ObjOk P w H h a (.dK kvs) from zqc ok e
theorem zr9 {kvs:List (Key × V)} (ok:HOk P w H h) (e:H a = some (.dK kvs)):kvs.length <= sizeLine/\(a == sysModules) = false/\∃ vs,KV kvs vs/\h.DictOf (zcn P w) a vs:=zrC ok (.inl e)
theorem zli {ks:List Key} (ok:HOk P w H h) (e:H a = some (.tup (ks.map kV))):(tupleKind (zcn P w)).is h ks a:=by
 obtain ⟨_,its,r,o,h1,h2,n,h3⟩:=(show ObjOk P w H h a (.tup (ks.map kV)) from ok a _ e)
 exact ⟨o,its.toArray,n,h1,h2,h3,by simpa using ziC r⟩
theorem zqN {kvs:List (List Key × V)} (ok:HOk P w H h) (e:Rd H a (.dT kvs)):kvs.length <= sizeLine/\(a == sysModules) = false /\
  ∃ xs,KT H kvs xs/\h.DictOfH (tupleKind (zcn P w)) a xs:=by
 obtain ⟨z,y,xs,r,o,es,ep,h1,h2,h3,h4,h5⟩:=(show ObjOk P w H h a (.dT kvs) from zqc ok e)
 refine ⟨z,y,xs,r,o,es,ep,h1,h2,h3,h4,fun x hx=>?_,h5⟩
 have all:∀ {l:List (List Key × V)} {m:List (List Key × Addr × Value)},KT H l m->∀ x ∈ m,(tupleKind (zcn P w)).is h x.1 x.2.1:=by
  intro l m q
  induction q with
  | nil=>intro x hx; exact nomatch hx
  | @cons p q ps qs hq t ih =>
   intro x hx
   rcases List.mem_cons.mp hx with e | hx
   ·subst e
    exact zli ok (by rw [<- hq.1]; exact hq.2.1)
   ·exact ih x hx
 exact all r x hx
theorem zsn {kvs:List (List Key × V)} (ok:HOk P w H h) (e:H a = some (.dT kvs)):kvs.length <= sizeLine/\(a == sysModules) = false /\
  ∃ xs,KT H kvs xs/\h.DictOfH (tupleKind (zcn P w)) a xs:=zqN ok (.inl e)
end
def DGet (H:Hp) (a:Addr) (y:V) (r:Option V):Prop :=
 (∃ kvs k,Rd H a (.dK kvs)/\y = kV k/\r = zkP kvs k)\/∃ kvs k b,Rd H a (.dT kvs)/\y = .ref b/\H b = some (.tup (k.map kV))/\r = zkP kvs k
def DPut (H:Hp) (a:Addr) (y v:V) (H':Hp):Prop :=
 (∃ kvs k,H a = some (.dK kvs)/\y = kV k/\kvs.length < sizeLine/\H' = upd H a (.dK (zi2 kvs k v))) \/
 ∃ kvs k b,H a = some (.dT kvs)/\y = .ref b/\H b = some (.tup (k.map kV))/\kvs.length < sizeLine/\H' = upd H a (.dT (zi2 kvs k v))
theorem DPut.k {H:Hp} {a:Addr} {kvs:List (Key × V)} {k:Key} {v:V} (e:H a = some (.dK kvs)) (hl:kvs.length < sizeLine):DPut H a (kV k) v (upd H a (.dK (zi2 kvs k v))):=.inl ⟨kvs,k,e,rfl,hl,rfl⟩
theorem DPut.t {H:Hp} {a b:Addr} {kvs:List (List Key × V)} {k:List Key} {v:V} (e:H a = some (.dT kvs)) (eb:H b = some (.tup (k.map kV))) (hl:kvs.length < sizeLine) :
  DPut H a (.ref b) v (upd H a (.dT (zi2 kvs k v))):=.inr ⟨kvs,k,b,e,rfl,eb,hl,rfl⟩
section
variable {X:Cx} {zo:List (Addr × Obj)} {σ:St} {H:Hp} {s:Shared} {a:Addr} {y v:V} {u r:Value} {o:Option V} {A:Around} {E:Value->Shared->Prop}
theorem Inv.big (I:Inv X zo σ H s):sysModules < s.heap.objs.size:=by
 have h:mainGlobals < s.heap.objs.size:=(I.mod.glob.keeps I.bk).lt
 exact Nat.lt_trans (by decide) h
theorem ztj {Q:Value->Shared->Prop} (hu:A.units + 1 < cLine) (I:Inv X zo σ H s) (g:DGet H a y o) (ry:RelV y u) (h:∀ s',Inv X zo σ H s'->Q (.bool o.isSome) s') :
  wpAny (model X.prog X.w) A (compareOp .In u (.ref a)) Q E s:=by
 rcases g with ⟨kvs,k,e,ey,l⟩ | ⟨kvs,k,b,e,ey,eb,l⟩
 ·subst ey
  obtain ⟨z,hd,vs,rel,dd⟩:=zrC I.hok e
  refine wpAny_in_of (zpN ry) hd dd.mapOf ?_
  rw [<- (rel.val k).isSome_eq,<- l]
  exact h _ (I.tok _)
 ·subst ey
  cases (show u = Value.ref b from ry)
  obtain ⟨z,hd,xs,rel,dd⟩:=zqN I.hok e
  refine wpAny_in_heap (tupleKind_room_in1 hu) (zli I.hok eb) hd dd ?_
  have q:=(rel.val k).isSome_eq
  rw [Option.isSome_map] at q
  rw [<- q,<- l]
  exact h _ (I.tok _)
theorem zl8 {h':Heap} {t':Nat} {ob:HO} (I:Inv X zo σ H s) (mu:Mut (H a)) (hs:Heap.SameBut a s.heap h') (he:∃ q,h'.get? a = some q) (new:ObjOk X.prog X.w (upd H a ob) h' a ob) :
  Inv X zo σ (upd H a ob) { s with heap:=h',toks:=t' } :=
 I.write (x:=a) (e:=a) mu (.inl rfl) (fun b q hb z=>(hs.2 b hb).trans z) he new
theorem zq3 {P:Program} {w:World} {H':Hp} {h':Heap} {kvs:List (Key × V)} {vs:List (Key × Value)} (z:kvs.length <= sizeLine) (hd:(a == sysModules) = false) (rel:KV kvs vs) (dd:h'.DictOf (zcn P w) a vs) :
  ObjOk P w H' h' a (.dK kvs):=⟨z,hd,vs,rel,dd⟩
theorem zld {H':Hp} {Q:Unit->Shared->Prop} (hu:A.units + 1 < cLine) (I:Inv X zo σ H s) (g:DPut H a y v H') (ry:RelV y u) (rv:RelV v r) (h:∀ s',Inv X zo σ H' s'->Q () s') :
  wpAny (model X.prog X.w) A (setItem (.ref a) u r) Q E s:=by
 rcases g with ⟨kvs,k,e,ey,l,eH⟩ | ⟨kvs,k,b,e,ey,eb,l,eH⟩
 ·subst ey eH
  obtain ⟨z,hd,vs,rel,dd⟩:=zr9 I.hok e
  have hz:vs.length <= sizeLine:=by rw [<- rel.length]; exact z
  have hl:(zi2 kvs k v).length <= sizeLine:=by have:=zgN kvs k v; omega
  refine wpAny_setItem_pairs (hsz:=hz) (zpN ry) dd fun h' dd' hs=>h _ ?_
  have he:∃ q,h'.get? a = some q:=let ⟨q,_,_,hq,_⟩:=dd'; ⟨q,hq⟩
  exact zl8 I (by rw [e]; exact True.intro) hs he (zq3 hl hd (rel.put k rv) dd')
 ·subst ey eH
  cases (show u = Value.ref b from ry)
  obtain ⟨z,hd,xs,rel,dd⟩:=zsn I.hok e
  have hz:xs.length <= sizeLine:=by rw [<- Paired.length rel]; exact z
  have hl:(zi2 kvs k v).length <= sizeLine:=by have:=zgN kvs k v; omega
  refine wpAny_setItem_heap (hsz:=hz) (tupleKind_room_in1 hu) (zli I.hok eb) dd fun h' dd' hs=>h _ ?_
  obtain ⟨q,es,ep,hq,h2,h3,h4,_,h5⟩:=dd'
  refine zl8 I (by rw [e]; exact True.intro) hs ⟨q,hq⟩ ⟨hl,hd,_,(rel.put k eb rv).keeps fun c ys ec=>?_,q,es,ep,hq,h2,h3,h4,h5⟩
  rw [zae (zr5 ec e (fun z=>nomatch z))]
  exact ec
end
def zqG (td ty tv:TE):TS:=fun D σ H=>tv σ H fun v H1=>td σ H1 fun x H2=>ty σ H2 fun y H3=>∃ a H4,x = .ref a/\DPut H3 a y v H4/\D.nx σ H4
section
variable {X:Cx} {o i e value:Expr} {pos pos' tpos:Pos} {td ty tv:TE}
theorem zoF (hu:X.A.units + 1 < cLine) (ho:PE X o td) (hi:PE X i ty) (hv:PE X value tv) (hs:swapsWith value (some (.Subscript o i pos')) pos.line X.env = pure false) :
  PS X (.Assign [.Subscript o i pos'] value pos) (zqG td ty tv):=by
 intro zo s σ H D I h
 refine wpAny_Assign_Subscript (thn (hv zo s σ H _ I h) fun r s1 ⟨v,H1,I1,rv,q1⟩=>thn (ho zo s1 σ H1 _ I1 q1) fun u s2 ⟨x,H2,I2,rx,q2⟩=>thn (hi zo s2 σ H2 _ I2 q2) fun iv s3 ⟨y,H3,I3,ry,a,H4,ex,g,q3⟩=>?_) hs
 subst ex
 obtain rfl:u = Value.ref a:=rx
 exact zld hu I3 g ry rv fun s4 I4=>⟨σ,H4,I4,q3⟩
end
theorem znp {P:Program} {w:World} {H:Hp} (h:Heap) (hb:sysModules < h.objs.size):ObjOk P w H (h.push { cls:=.type "dict",data:=.dict #[] }) h.objs.size (.dK []) :=
 ⟨Nat.zero_le _,beq_eq_false_iff_ne.mpr (Ne.symm (Nat.ne_of_lt hb)),[],.nil,Heap.DictOf.new h⟩
theorem znk {P:Program} {w:World} {H:Hp} (h:Heap) (hb:sysModules < h.objs.size):ObjOk P w H (h.push { cls:=.type "dict",data:=.dict #[] }) h.objs.size (.dT []) :=
 ⟨Nat.zero_le _,beq_eq_false_iff_ne.mpr (Ne.symm (Nat.ne_of_lt hb)),[],.nil,_,#[],0,Heap.get?_push_size _ rfl,⟨rfl,rfl,rfl⟩,rfl,rfl,List.nodup_nil⟩
def znC:TE:=fun _ H Q=>∀ p,H p = none->Q (.ref p) (upd H p (.dK []))
def znI:TE:=fun _ H Q=>∀ p,H p = none->Q (.ref p) (upd H p (.dT []))
section
variable {X:Cx} {pos:Pos}
theorem zmM:PE X (.Dict [] [] pos) znC:=fun zo s σ H Q I h =>
 wpAny_Dict_empty ⟨.ref s.heap.objs.size,_,I.laid (a:=s.heap.objs.size) (o:=.dK []) (t':=s.toks) (fun _ _ q=>Heap.get?_push_of_some _ q) (Nat.le_refl _) (znp s.heap I.big),rfl,h _ (I.hok.fresh (Nat.le_refl _))⟩
theorem zm5:PE X (.Dict [] [] pos) znI:=fun zo s σ H Q I h =>
 wpAny_Dict_empty ⟨.ref s.heap.objs.size,_,I.laid (a:=s.heap.objs.size) (o:=.dT []) (t':=s.toks) (fun _ _ q=>Heap.get?_push_of_some _ q) (Nat.le_refl _) (znk s.heap I.big),rfl,h _ (I.hok.fresh (Nat.le_refl _))⟩
end
structure M1 (X:Cx) (o:Expr) (m:Str) (apos:Pos) (e:Expr) (cpos:Pos):Prop where
 base:attributeBase o m X.env (eval o X.env) = eval o X.env
 few:((backTo cpos (starEach [e] X.env)).all (fun x=>!x.1) && (backToKw cpos (keywordEach [] X.env)).all (fun x=>x.1.isSome)
  && decide (([e]:List Expr).length + ([]:List Keyword).length + (if ([]:List Keyword).isEmpty then 0 else 1) < 30)) = true
 line:(apos.endLine == cpos.line) = true
 trees:backTo cpos (starEach [e] X.env) = [(false,eval e X.env)]
structure M2 (X:Cx) (o:Expr) (m:Str) (apos:Pos) (e f:Expr) (cpos:Pos):Prop where
 base:attributeBase o m X.env (eval o X.env) = eval o X.env
 few:((backTo cpos (starEach [e,f] X.env)).all (fun x=>!x.1) && (backToKw cpos (keywordEach [] X.env)).all (fun x=>x.1.isSome)
  && decide (([e,f]:List Expr).length + ([]:List Keyword).length + (if ([]:List Keyword).isEmpty then 0 else 1) < 30)) = true
 line:(apos.endLine == cpos.line) = true
 trees:backTo cpos (starEach [e,f] X.env) = [(false,eval e X.env),(false,eval f X.env)]
end
end L2
namespace Att
open PySem PySem.W PySem.Calls PyProof.Rows
theorem zgb {P:Params} {h:Heap}:∀ (ns:List Int) (vs:List Value),WellAll P h vs (ns.map WData.int)->IntsAre vs ns:=by
 intro ns
 induction ns with
 | nil =>
  intro vs w
  rw [List.map_nil] at w
  cases w
  exact .nil
 | cons n ns ih =>
  intro vs w
  rw [List.map_cons] at w
  cases w with
  | cons a b =>
   cases a
   exact .cons _ _ (ih _ b)
theorem zmj {l:OpenLaw} {n:Nat} (hn:l.most = some n) {P:Params} {h:Heap} {args:List WData} {vals:List Value}
  (hpre:l.row.toRowW.claim.pre args = true) (hwl:WellAll P h vals args) :
  ∃ a vs ns,vals = [Value.ref a]/\args = [WData.list (ns.map WData.int)]/\h.get? a = some { cls:=.type "list",data:=.seq vs.toArray }/\IntsAre vs ns/\ns.length <= n:=by
 have hsh:WShape.hasAll [] args [.list .int] = true:=(pre_splitW hpre).1
 have hc:l.pre.holds [] { args:=args } = true:=(pre_splitW hpre).2
 obtain ⟨d,r,rfl,h1,h2⟩:=hasAllW_cons hsh
 obtain rfl:=hasAllW_nil h2
 obtain ⟨xs,rfl,h3⟩:=hasW_list h1
 obtain ⟨ns,rfl⟩:=items_int h3
 have hlen:ns.length <= n:=by
  unfold OpenLaw.pre at hc
  have h4:(WTm.not (.lt (.lit (.int (n:Int))) (.len (.arg 0)))).holds [] { args:=[.list (ns.map .int)] } = true:=by
   have h4:=(holds_andW hc).1
   rw [hn] at h4
   exact h4
  have h5:=condW_of h4 (w_not (w_lt w_lit (w_len_list (w_arg rfl))))
  rw [List.length_map] at h5
  refine Nat.le_of_not_lt fun q=>?_
  have q':(n:Int) < ((ns.length:Nat):Int):=by omega
  first
   | (rw [decide_eq_true q'] at h5; exact absurd h5 (by decide))
   | (simp at h5; omega)
 cases hwl with
 | cons w1 w2 =>
  cases w2
  cases w1 with
  | list ho hall=>exact ⟨_,_,ns,rfl,rfl,ho,zgb ns _ hall,hlen⟩
theorem zlW (l:OpenLaw) (args:List WData):l.row.toRowW.claim.post args (.bool true) args = true :=
 postW_of (r:=l.row.toRowW) (X:=(true == true))
  (show WShape.has [] (.bool true) .bool = true by first | rfl | decide | simp [WShape.has,WShape.arms,WShape.armsAll])
  (show (WTm.eq .res (.lit (.bool true))).value [] { args:=args,res:=some (.bool true),after:=args } = some (.bool (true == true)) from w_eq_bool (w_res rfl) w_lit) rfl
theorem attach_call {l:OpenLaw} {n:Nat} {q:Program} {loose:List Str} {XP:(Str->Option Value)->Heap->Prop} {YP:World->Heap->Prop} {d:DefRec}
  (hn:l.most = some n) (hdf:d.params.defaults = [])
  (call:∀ (w:World) (s₀ s₁:Shared) (mg mb:Str->Option Value) (fa:Addr) (o:Obj) (pm cd doc:Value) (a:Addr) (vs:List Value) (ns:List Int),
   Ground q loose [] XP w s₀ mg mb s₁.heap->YP w s₁.heap ->
   s₁.heap.get? fa = some o->o.data = .func (docDef d.name d.params d.body d.scope pm cd doc)->s₁.heap.CodeRec cd d.name->mg d.name = some (.ref fa) ->
   s₁.heap.get? a = some { cls:=.type "list",data:=.seq vs.toArray }->IntsAre vs ns->ns.length <= n->s₁.gens = #[] ->
   codeAny (model l.prog w) callerA (.call (.ref fa) ⟨[.ref a],[]⟩) (fun r s'=>r = .ok (.ret (.bool true))/\OldK s₁.heap s'.heap/\s'.os = s₁.os/\AllBare s'.gens) s₁) :
  WalkO q loose XP YP l.row.toRowW d [] (fun f vs=>PySem.call f vs):=by
 intro w s₀ s₁ mg mb G Y fa o pm cd doc dV kV ho hd hcd hD hmg hg args vals as hpre hlay hrd hwl hlo
 obtain rfl:dV = .none:=Dflts.none hD hdf
 obtain rfl:kV = .none:=Dflts.noKw hD
 obtain ⟨a,vs,ns,rfl,rfl,hobj,hints,hlen⟩:=zmj hn hpre hwl
 refine enter_call (codeAny_mono (call w s₀ s₁ mg mb fa o pm cd doc a vs ns G Y ho (fd_plain hd) hcd hmg hobj hints hlen hg) fun r s' hq=>?_)
 obtain ⟨rfl,h2,h3,h4⟩:=hq
 exact ⟨.inl ⟨.bool true,.bool true,[],rfl,fun _=>rfl,.bool true,zlW l _,fun _=>⟨List.Pairwise.nil,fun _ hm=>(nomatch hm)⟩⟩,h2,h3,h4⟩
end Att
namespace L2
open PySem PySem.Spec PyProof.Rows
section
theorem zih:∀ {vs:List Value} {ns:List Int},IntsAre vs ns->Vals (ns.map V.int) vs
 | _,_,.nil=>.nil
 | _,_,.cons n t h=>.cons ⟨t,rfl⟩ (zih h)
def Only (H:Hp):Prop:=∀ b,H b = none\/∃ o xs,H b = some (.frz o (.lst xs))
theorem zmD {P:Program} {w:World} {K:W.Frag} {mg mb:Str->Option Value} {CX:CXT} {k:Nat} {fa a:Addr} {fd:FuncData} {x:Str} {sp:Sp} {s₁:Shared} {vs:List Value} {ns:List Int}
  (KX:K.In s₁.heap) (hns:s₁.heap.Ns mainGlobals mg) (hb:s₁.heap.Ns builtinsNs mb) (hbb:∀ x:Str,x ≠ "__name__"->mb x = bootBuiltins x) (hlim:s₁.heap.NoLimit) (hg:s₁.gens = #[])
  (ha:s₁.heap.get? a = some { cls:=.type "list",data:=.seq vs.toArray }) (hi:IntsAre vs ns) (hl:ns.length <= sizeLine) (hr:Room k callerA)
  (F:∀ base:Heap,K.In base->base.Ns mainGlobals mg->FnOk P w K mg base CX k fa fd [x] sp) (hbind:∀ (s:Shared) (u:Value),BindsTo s fd ⟨[u],[]⟩ [(x,u)])
  (hsp:∀ H:Hp,Only H->SqL K H a (ns.map V.int)->sp [.ref a] H (fun v _=>v = .bl true) fun _ _ _=>False)
  (hCX:∀ H e s',CX [] H s₁ (fun _ _ _=>False) e s'->False) :
  codeAny (model P w) callerA (.call (.ref fa) ⟨[.ref a],[]⟩) (fun r s'=>r = .ok (.ret (.bool true))/\OldK s₁.heap s'.heap/\s'.os = s₁.os/\AllBare s'.gens) s₁:=by
 have rv:=zih hi
 have lenV:=hi.length
 -- from an abstract heap in which nothing but the script may be tracked
 have core:∀ H:Hp,Only H->SqL K H a (ns.map V.int)->HOk P w H s₁.heap->(∀ b,H b ≠ none->b = a)->(H a ≠ none->K.lookup a = none) ->
   codeAny (model P w) callerA (.call (.ref fa) ⟨[.ref a],[]⟩) (fun r s'=>r = .ok (.ret (.bool true))/\OldK s₁.heap s'.heap/\s'.os = s₁.os/\AllBare s'.gens) s₁:=by
  intro H hO hS hok hA hK
  have base_of:∀ {b:Addr} {o:Obj},s₁.heap.get? b = some o->H b = none->(znl s₁.heap H).get? b = some o:=fun e n=>znq e n
  have noA:∀ {b:Addr} {o:Obj} {es:Array DictEntry} {ep:Nat},s₁.heap.get? b = some o->o.data = .dict es ep->H b = none:=fun {b o es ep} e d=>by
   cases q:H b with
   | none=>rfl
   | some u =>
    have e':b = a:=hA b (by rw [q]; simp)
    subst e'
    rw [ha] at e; cases e
    have d':Data.seq vs.toArray _ = Data.dict es ep:=d
    cases d'
  have nsK:∀ {b:Addr} {m:Str->Option Value},s₁.heap.Ns b m->(znl s₁.heap H).Ns b m:=fun {b m} ⟨o,es,ep,e,d,r⟩=>⟨o,es,ep,base_of e (noA e d),d,r⟩
  have hKb:K.In (znl s₁.heap H):=fun b o e=>base_of (KX b o e) (by
   cases q:H b with
   | none=>rfl
   | some u =>
    have e':b = a:=hA b (by rw [q]; simp)
    subst e'
    rw [hK (by rw [q]; simp)] at e; cases e)
  have hM:Mod K mg (znl s₁.heap H):=⟨hKb,nsK hns,⟨mb,nsK hb,hbb⟩,let ⟨mc,h1,h2⟩:=hlim; ⟨mc,nsK h1,h2⟩⟩
  have e0:Env0 P w K mg (znl s₁.heap H) callerA [] s₁ H:=⟨rfl,hM,fun b o e=>zoU e,Nat.le_of_eq (zlL _ _),trivial,fun b hb=>absurd (show b ∈ ([]:List Addr) from hb) (by simp),hok,.of_eq hg⟩
  refine codeAny_mono ((F _ hKb (nsK hns)).run callerA [] s₁ H ⟨[.ref a],[]⟩ [.ref a] [.ref a] _ _ hr e0 (hbind s₁ (.ref a)) (.cons rfl .nil) (hsp H hO hS)) fun r s' h=>?_
  cases r with
  | error e=>exact (hCX H e s' h).elim
  | ok fl =>
   cases fl with
   | next=>exact False.elim h
   | brk=>exact False.elim h
   | cont=>exact False.elim h
   | ret u =>
    obtain ⟨v,H',os,bare,un,hok',r',q⟩:=h
    have q':v = .bl true:=q
    subst q'
    obtain rfl:u = Value.bool true:=r'
    refine ⟨rfl,OldK.of_keep fun b o e=>?_,os,bare⟩
    cases q:H b with
    | none=>exact un.keep b o e q (by intro z; exact absurd (show b ∈ ([]:List Addr) from z) (by simp)) (by simp)
    | some u =>
     rcases hO b with z | ⟨ob,xs,z⟩
     ·rw [q] at z; cases z
     ·have z2:=un.frzs b ob _ z
      obtain ⟨e1,_⟩:=hok b _ z
      obtain ⟨e2,_⟩:=hok' b _ z2
      rw [e] at e1; cases e1
      exact e2
 cases hk:K.lookup a with
 | some o =>
  -- the script is one of the module's own objects
  have e:=KX a o hk
  rw [ha] at e
  cases e
  refine core (fun _=>none) (fun _=>.inl rfl) (.inr ⟨_,vs.toArray,_,hk,rfl,rfl,rfl,by rw [List.size_toArray,lenV]; exact hl,by simpa using rv⟩) (fun b u z=>by have z':(none:Option HO) = some u:=z; cases z') (fun b z=>absurd rfl z) fun z=>absurd rfl z
 | none =>
  refine core (fun b=>if b = a then some (.frz { cls:=.type "list",data:=.seq vs.toArray } (.lst (ns.map V.int))) else none) (fun b=>?_) (.inl (.inr ⟨{ cls:=.type "list",data:=.seq vs.toArray },if_pos rfl⟩)) (fun b u z=>?_) (fun b z=>?_) fun _=>hk
  ·by_cases hb:b = a
   ·exact .inr ⟨_,_,if_pos hb⟩
   ·exact .inl (if_neg hb)
  ·by_cases hb:b = a
   ·have z':=(if_pos hb).symm.trans z
    cases z'
    subst hb
    exact ⟨ha,by rw [List.length_map]; exact hl,vs,_,rv,ha⟩
   ·have z':=(if_neg hb).symm.trans z
    cases z'
  ·by_cases hb:b = a
   ·exact hb
   ·exact absurd (if_neg hb) z
end
section
abbrev KOf {K:W.Frag} {h:Heap} (_:K.In h):W.Frag:=K
theorem walk_of {l:PySem.W.OpenLaw} {n k:Nat} {q:Program} {loose:List Str} {XP:(Str->Option Value)->Heap->Prop} {YP:World->Heap->Prop} {d:DefRec} {K:Params->W.Frag} {CX:World->CXT} {sp:World->Sp} {x:Str}
  (hn:l.most = some n) (hn2:n <= sizeLine) (hdf:d.params.defaults = []) (hr:Room k callerA)
  (hY:∀ (w:World) (h:Heap),YP w h->(K w.params).In h)
  (F:∀ (w:World) (mg:Str->Option Value) (fa:Addr) (h:Heap),(K w.params).In h->h.Ns mainGlobals mg->mg d.name = some (.ref fa) ->
   ∃ fd:FuncData,(∀ (s:Shared) (u:Value),BindsTo s fd ⟨[u],[]⟩ [(x,u)]) /\
    ∀ base:Heap,(K w.params).In base->base.Ns mainGlobals mg->FnOk l.prog w (K w.params) mg base (CX w) k fa fd [x] (sp w))
  (hsp:∀ (w:World) (H:Hp) (a:Addr) (ns:List Int),ns.length <= n->Only H->SqL (K w.params) H a (ns.map V.int)->sp w [.ref a] H (fun v _=>v = .bl true) fun _ _ _=>False)
  (hCX:∀ (w:World) (H:Hp) (s:Shared) (e:Value) (s':Shared),CX w [] H s (fun _ _ _=>False) e s'->False) :
  PySem.W.WalkO q loose XP YP l.row.toRowW d [] (fun f vs=>PySem.call f vs):=by
 refine Att.attach_call hn hdf fun w s₀ s₁ mg mb fa o pm cd doc a vs ns G Y ho hd hcd hmg hobj hints hlen hg=>?_
 have KX:=hY w _ Y
 obtain ⟨fd,hb,hF⟩:=F w mg fa _ KX G.T.g hmg
 exact zmD KX G.T.g G.T.b G.T.builtins G.T.nolimit hg hobj hints (Nat.le_trans hlen hn2) hr hF hb (fun H hO hS=>hsp w H a ns hlen hO hS) fun H e s'=>hCX w H s₁ e s'
end
section
def zeU (s:Stmt):Arguments:=match s with
 | .FunctionDef _ a _ _ _ _ _ _ _ _=>a
 | _=>{ posonlyargs:=[],args:=[],vararg:=none,kwonlyargs:=[],kw_defaults:=[],kwarg:=none,defaults:=[] }
def zcZ (s:Stmt):List Stmt:=match s with
 | .FunctionDef _ _ b _ _ _ _ _ _ _=>b
 | _=>[]
def zq (s:Stmt):Scope:=match s with
 | .FunctionDef _ _ _ _ _ _ sc _ _ _=>sc
 | _=>{ kind:=.function,names:=[],isGenerator:=false,isCoroutine:=false }
abbrev CX0:CXT:=fun _ _ _ _ _ _=>False
abbrev E0:XK:=fun _ _ _=>False
theorem pass0 {X:Cx}:Passes CX0 X E0:=fun _ _ _ _ _ _ _ h=>h.elim
structure Fun (K:W.Frag) (x qual:Str) (st:Stmt) (f:Addr) (fd:FuncData):Prop where
 ex:∃ (oc:Value) (od:Option Addr) (kV doc pm:Value) (an:Option Addr) (cdv ct:Value) (osl:Array (Option Value)),
  fd = PySem.W.fnOf x qual (zeU st) (zcZ st) (zq st) .none kV doc pm an cdv ct/\K.lookup f = some ⟨oc,od,.func fd,osl⟩/\PySem.W.codeIn K cdv qual = true
 kp:PySem.W.keepIn K (.ref f) = true
section
variable {P:Program} {w:World} {K:W.Frag} {mg:Str->Option Value} {base:Heap}
theorem Fun.ok {x qual:Str} {st:Stmt} {f:Addr} {fd:FuncData} {N ps:List Str} {k:Nat} {sp:Sp} (F:Fun K x qual st f fd) (S:FnScope N ps (zq st)) (len:∀ vs H Q E,sp vs H Q E->vs.length = ps.length)
  (hbody:∀ (cdv:Value) (A:Around) (outer:List Env) (s:Shared) (H:Hp) (vs:List V) (Q:VK) (E:XK),Room k (A.deeper (envOfC qual (zq st) s.heap.objs.size f cdv))->sp vs H Q E ->
   ∃ t,PSs (zmx CX0 P w K mg base N qual (zq st) f cdv A outer s H E).nox (zcZ st) t/\t { nx:=fun _ H'=>Q .non H',rt:=Q } (start N vs) H):FnOk P w K mg base CX0 (k + 1) f fd ps sp:=by
 obtain ⟨oc,od,kV,doc,pm,an,cdv,ct,osl,rfl,lk,hcd⟩:=F.ex
 refine zso lk hcd S len fun A outer s H vs Q E hr hsp=>?_
 obtain ⟨t,h,q⟩:=hbody cdv A outer s H vs Q E hr hsp
 exact ⟨t,h.nox,q⟩
theorem Fun.binds {x qual:Str} {st:Stmt} {f:Addr} {fd:FuncData} {ps:List Str} (F:Fun K x qual st f fd)
  (h:∀ (kV doc pm:Value) (an:Option Addr) (cdv ct:Value) (us:List Value),us.length = ps.length->bindArgs (PySem.W.fnOf x qual (zeU st) (zcZ st) (zq st) .none kV doc pm an cdv ct) ⟨us,[]⟩ = pure (ps.zip us)):Binds K fd ps []:=by
 obtain ⟨oc,od,kV,doc,pm,an,cdv,ct,osl,rfl,lk,hcd⟩:=F.ex
 exact .all (h kV doc pm an cdv ct)
theorem zox {x qual:Str} {st:Stmt} {f:Addr} {oc:Value} {od an:Option Addr} {osl:Array (Option Value)} {kV doc pm cdv ct:Value} (l:K.lookup f = some ⟨oc,od,.func (PySem.W.fnOf x qual (zeU st) (zcZ st) (zq st) .none kV doc pm an cdv ct),osl⟩)
  (c:PySem.W.codeIn K cdv qual = true) (k:PySem.W.keepIn K (.ref f) = true):Fun K x qual st f (PySem.W.fnOf x qual (zeU st) (zcZ st) (zq st) .none kV doc pm an cdv ct):=⟨⟨oc,od,kV,doc,pm,an,cdv,ct,osl,rfl,l,c⟩,k⟩
end
theorem zsc {A:Around} {k:Nat} (hr:Room k A):A.units + 1 < cLine:=Nat.lt_of_le_of_lt (Nat.add_le_add_left (by decide:1 <= 64) _) hr.units
theorem small1000 {n:Nat} (h:n <= 1000):n < sizeLine:=Nat.lt_of_le_of_lt h (by decide)
section
variable {X:Cx}
theorem pv (i:Nat) {x:Str} {pos:Pos} (hN:X.N[i]? = some x:=by rfl) (hv:Vis X.env.scope x:=by first | exact Or.inl rfl | exact Or.inr (Or.inl rfl) | exact Or.inr (Or.inr rfl)) (hd:(x == ("__debug__":Str)) = false:=by decide)
  (hcd:(x == ("__classdict__":Str)) = false:=by decide):PE X (.Name x pos) (zmw i):=zrl hN hv hd hcd
end
theorem zmq {A B:Prop} (h:B):if false = true then A else B:=by
 rw [if_neg Bool.false_ne_true]
 exact h
theorem zmr {A B:Prop} (h:A):if true = true then A else B:=by
 rw [if_pos rfl]
 exact h
theorem ite2 {c A B:Prop} [Decidable c] (h1:c->A) (h2:¬ c->B):if c then A else B:=by
 by_cases h:c
 ·rw [if_pos h]
  exact h1 h
 ·rw [if_neg h]
  exact h2 h
def Same (H H':Hp):Prop:=∀ b o,H b = some o->H' b = some o
theorem Same.refl (H:Hp):Same H H:=fun _ _ h=>h
theorem Same.trans {H H1 H2:Hp} (a:Same H H1) (b:Same H1 H2):Same H H2:=fun c o h=>b c o (a c o h)
theorem Same.seq {K:W.Frag} {H H':Hp} {a:Addr} {xs:List V} (e:Same H H') (h:SqL K H a xs):SqL K H' a xs:=by
 rcases h with (h | ⟨o,h⟩) | h
 ·exact .inl (.inl (e _ _ h))
 ·exact .inl (.inr ⟨o,e _ _ h⟩)
 ·exact .inr h
end
section
section
variable {X:Cx}
def CDivX (i j:Int):Prop:=0 < j/\j.natAbs.log2 < 9000
theorem zmK:OpR X (binaryOp .FloorDiv) (rI CDivX fun i j=>.int (i / j)):=opI fun i j _ _ _ _ _ hc q=>by
 have h1:(0:Int) < j:=hc.1
 exact floordiv_int (by omega) (by rw [Int.fdiv_eq_ediv_of_nonneg i (by omega)]; exact q) (.inl (PyProof.noPylong_of_log2 hc.2))
theorem zpb:OpR X (binaryOp .Mult) (rI IntMulOk fun i j=>.int (i * j)):=opI fun _ _ _ _ _ _ _ hc q=>mul_int q hc
theorem zk3 {k:Int} {n:Nat} (h:k.natAbs < 2 ^ n):Builtin.Int.intBits k <= n:=by
 unfold Builtin.Int.intBits
 split
 ·exact Nat.zero_le _
 ·rename_i h0
  have hk:k.natAbs ≠ 0:=by
   intro z
   apply h0
   rw [Int.natAbs_eq_zero.mp z]
   rfl
  have:=(Nat.log2_lt hk).mpr h
  omega
theorem zsB {i j:Int} (n m:Nat) (hi:i.natAbs < 2 ^ n) (hj:j.natAbs < 2 ^ m) (hn:n <= 2 ^ 20:=by decide) (hm:m <= 2 ^ 20:=by decide):IntMulOk i j :=
 .of_bits (Nat.le_trans (zk3 hi) hn) (Nat.le_trans (zk3 hj) hm)
theorem ze8 {i j:Int} (h1:-(2 ^ 64) < i) (h2:i < 2 ^ 64):IntMulOk i j:=.of_left (intBits_le_64 h1 h2)
theorem zme {i j:Int} (h1:-(2 ^ 64) < j) (h2:j < 2 ^ 64):IntMulOk i j:=.of_right (intBits_le_64 h1 h2)
theorem zcA {n:Int} {k:Nat} (h0:0 < n) (h:n < 2 ^ k):n.natAbs.log2 < k:=by
 refine (Nat.log2_lt (by omega)).mpr ?_
 have e:((2 ^ k:Nat):Int) = (2:Int) ^ k:=by simp
 omega
end
def kD:Key->PyData
 | .inl i=>.int i
 | .inr x=>.str x
def DOf (H:Hp) (a:Addr) (ks:List PyData) (vs:List V):Prop :=
 (∃ (ob:Obj) (m:List (Key × V)),H a = some (.frz ob (.dK m))/\ks = m.map (fun p=>kD p.1)/\vs = m.map (·.2)) \/
 ∃ (ob:Obj) (p:List Key × V) (m:List (List Key × V)),H a = some (.frz ob (.dT (p :: m)))/\ks = (p :: m).map (fun p=>.tuple (p.1.map kD))/\vs = (p :: m).map (·.2)
mutual
def Has (H:Hp):PyData->V->Prop
 | .none,v=>v = .non
 | .bool b,v=>v = .bl b
 | .int i,v=>v = .int i
 | .str x,v=>v = .str x
 | .list ds,v=>∃ a vs,v = .ref a/\H a = some (.lst vs)/\HasL H ds vs
 | .tuple ds,v=>∃ a vs,v = .ref a/\H a = some (.tup vs)/\HasL H ds vs
 | .dict kvs,v=>∃ a vs,v = .ref a/\DOf H a (kvs.map (·.1)) vs/\HasV H kvs vs
def HasL (H:Hp):List PyData->List V->Prop
 | [],vs=>vs = []
 | d :: ds,vs=>∃ v r,vs = v :: r/\Has H d v/\HasL H ds r
def HasV (H:Hp):List (PyData × PyData)->List V->Prop
 | [],vs=>vs = []
 | p :: ps,vs=>∃ v r,vs = v :: r/\HasP H p v/\HasV H ps r
def HasP (H:Hp):PyData × PyData->V->Prop
 | (_,d),v=>Has H d v
end
mutual
theorem Has.mono {H H':Hp} (s:Same H H'):∀ (d:PyData) (v:V),Has H d v->Has H' d v
 | .none,_,h=>by simp only [Has] at h ⊢; exact h
 | .bool _,_,h=>by simp only [Has] at h ⊢; exact h
 | .int _,_,h=>by simp only [Has] at h ⊢; exact h
 | .str _,_,h=>by simp only [Has] at h ⊢; exact h
 | .list ds,v,h=>by
  simp only [Has] at h ⊢
  obtain ⟨a,vs,e,q,l⟩:=h
  exact ⟨a,vs,e,s _ _ q,HasL.mono s ds vs l⟩
 | .tuple ds,v,h=>by
  simp only [Has] at h ⊢
  obtain ⟨a,vs,e,q,l⟩:=h
  exact ⟨a,vs,e,s _ _ q,HasL.mono s ds vs l⟩
 | .dict kvs,v,h=>by
  simp only [Has] at h ⊢
  obtain ⟨a,vs,e,q,l⟩:=h
  refine ⟨a,vs,e,?_,HasV.mono s kvs vs l⟩
  rcases q with ⟨ob,m,e1,e2⟩ | ⟨ob,p,m,e1,e2⟩
  ·exact .inl ⟨ob,m,s _ _ e1,e2⟩
  ·exact .inr ⟨ob,p,m,s _ _ e1,e2⟩
theorem HasL.mono {H H':Hp} (s:Same H H'):∀ (ds:List PyData) (vs:List V),HasL H ds vs->HasL H' ds vs
 | [],_,h=>by simp only [HasL] at h ⊢; exact h
 | d :: ds,vs,h=>by
  simp only [HasL] at h ⊢
  obtain ⟨v,r,e,q,l⟩:=h
  exact ⟨v,r,e,Has.mono s d v q,HasL.mono s ds r l⟩
theorem HasV.mono {H H':Hp} (s:Same H H'):∀ (ds:List (PyData × PyData)) (vs:List V),HasV H ds vs->HasV H' ds vs
 | [],_,h=>by simp only [HasV] at h ⊢; exact h
 | d :: ds,vs,h=>by
  simp only [HasV] at h ⊢
  obtain ⟨v,r,e,q,l⟩:=h
  exact ⟨v,r,e,HasP.mono s d v q,HasV.mono s ds r l⟩
theorem HasP.mono {H H':Hp} (s:Same H H'):∀ (p:PyData × PyData) (v:V),HasP H p v->HasP H' p v
 | (_,d),v,h=>by
  simp only [HasP] at h ⊢
  exact Has.mono s d v h
end
section
variable {H:Hp} {v:V}
theorem zfn:Has H .none v ↔ v = .non:=by simp only [Has]
theorem zez {b:Bool}:Has H (.bool b) v ↔ v = .bl b:=by simp only [Has]
theorem zen {i:Int}:Has H (.int i) v ↔ v = .int i:=by simp only [Has]
theorem zeO {x:Str}:Has H (.str x) v ↔ v = .str x:=by simp only [Has]
theorem zbI {ds:List PyData}:Has H (.list ds) v ↔ ∃ a vs,v = .ref a/\H a = some (.lst vs)/\HasL H ds vs:=by simp only [Has]
theorem zbx {ds:List PyData}:Has H (.tuple ds) v ↔ ∃ a vs,v = .ref a/\H a = some (.tup vs)/\HasL H ds vs:=by simp only [Has]
theorem zhz {kvs:List (PyData × PyData)}:Has H (.dict kvs) v ↔ ∃ a vs,v = .ref a/\DOf H a (kvs.map (·.1)) vs/\HasV H kvs vs:=by simp only [Has]
theorem zjy {vs:List V}:HasV H [] vs ↔ vs = []:=by simp only [HasV]
theorem zie {p:PyData × PyData} {ds:List (PyData × PyData)} {vs:List V}:HasV H (p :: ds) vs ↔ ∃ v r,vs = v :: r/\Has H p.2 v/\HasV H ds r:=by
 obtain ⟨k,d⟩:=p
 simp only [HasV,HasP]
theorem zT {vs:List V}:HasL H [] vs ↔ vs = []:=by simp only [HasL]
theorem zO {d:PyData} {ds:List PyData} {vs:List V}:HasL H (d :: ds) vs ↔ ∃ v r,vs = v :: r/\Has H d v/\HasL H ds r:=by simp only [HasL]
theorem HasL.length:∀ {ds:List PyData} {vs:List V},HasL H ds vs->vs.length = ds.length
 | [],_,h=>by rw [zT.mp h]; rfl
 | d :: ds,vs,h=>by
  obtain ⟨v,r,e,_,l⟩:=zO.mp h
  rw [e,List.length_cons,List.length_cons,HasL.length l]
theorem HasL.get:∀ {ds:List PyData} {vs:List V} {i:Nat} {d:PyData},HasL H ds vs->ds[i]? = some d->∃ v,vs[i]? = some v/\Has H d v
 | [],_,_,_,_,e=>by simp at e
 | c :: ds,vs,0,d,h,e=>by
  obtain ⟨v,r,rfl,q,_⟩:=zO.mp h
  simp at e
  subst e
  exact ⟨v,rfl,q⟩
 | c :: ds,vs,i + 1,d,h,e=>by
  obtain ⟨v,r,rfl,_,l⟩:=zO.mp h
  obtain ⟨u,e1,e2⟩:=HasL.get (i:=i) (d:=d) l (by simpa using e)
  exact ⟨u,by simpa using e1,e2⟩
theorem HasL.append:∀ {ds es:List PyData} {vs us:List V},HasL H ds vs->HasL H es us->HasL H (ds ++ es) (vs ++ us)
 | [],es,vs,us,h,h'=>by rw [zT.mp h]; exact h'
 | d :: ds,es,vs,us,h,h'=>by
  obtain ⟨v,r,rfl,q,l⟩:=zO.mp h
  exact zO.mpr ⟨v,r ++ us,rfl,q,HasL.append l h'⟩
end
def tyD:PyData->String
 | .none=>"NoneType" | .bool _=>"bool" | .int _=>"int" | .str _=>"str" | .list _=>"list" | .tuple _=>"tuple" | .dict _=>"dict"
theorem Has.ty {K:W.Frag} {H:Hp} {d:PyData} {v:V} (h:Has H d v):TyOf K H v (.type (tyD d)):=by
 cases d with
 | none=>rw [zfn.mp h]; exact .non
 | bool b=>rw [zez.mp h]; exact .bl b
 | int i=>rw [zen.mp h]; exact .int i
 | str x=>rw [zeO.mp h]; exact .str x
 | list ds=>obtain ⟨a,vs,rfl,e,_⟩:=zbI.mp h; exact .lst e
 | tuple ds=>obtain ⟨a,vs,rfl,e,_⟩:=zbx.mp h; exact .tup e
 | dict kvs =>
  obtain ⟨a,vs,rfl,e,_⟩:=zhz.mp h
  rcases e with ⟨ob,m,e,_⟩ | ⟨ob,p,m,e,_⟩
  ·exact .dK (.inr ⟨ob,e⟩)
  ·exact .dT (.inr ⟨ob,e⟩)
def zrV:List String:=["NoneType","bool","int","str","list","tuple","dict"]
def zmF:List String:=["int","bool","str","list","tuple","dict"]
def zmu (t c:String):Bool:=t == c || (t == "bool" && c == "int")
def zoY (d:PyData) (c:String):Bool:=zmu (tyD d) c
theorem zpP (d:PyData):tyD d ∈ zrV:=by cases d <;> simp [tyD,zrV]
theorem zoZ (K:W.Frag) {t c:String} (ht:t ∈ zrV) (hc:c ∈ zmF):PySem.W.kitOne K (.type t) (.type c) = some (zmu t c):=by
 simp only [zrV,zmF,List.mem_cons,List.not_mem_nil,or_false] at ht hc
 rcases ht with rfl | rfl | rfl | rfl | rfl | rfl | rfl <;> rcases hc with rfl | rfl | rfl | rfl | rfl | rfl <;> rfl
def zsp:List V->Hp->VK->Prop
 | [x,.ty c],H,Q=>∃ d,Has H d x/\c ∈ zmF/\Q (.bl (zoY d c)) H
 | _,_,_=>False
theorem zpK {H:Hp} {d:PyData} {x:V} {c:String} {Q:VK} (h:Has H d x) (hc:c ∈ zmF) (q:Q (.bl (zoY d c)) H):zsp [x,.ty c] H Q:=⟨d,h,hc,q⟩
section
variable {X:Cx}
theorem zbM:CallR X (.builtin "isinstance") zsp:=by
 intro zo s σ H xs us Q I r h
 match xs,h with
 | [x,.ty c],h =>
  obtain ⟨d,hx,hc,q⟩:=h
  obtain ⟨u,w',rfl,ru,rw'⟩:=vals2 r
  cases (show w' = Value.type c from rw')
  exact zlr I ru hx.ty (zoZ X.K (zpP d) hc) fun tk=>⟨.bl _,H,I.tok tk,rfl,q⟩
end
def sp1 (p:V->Hp->VK->Prop):Sp:=fun vs H Q _=>match vs with | [x]=>p x H Q | _=>False
def sp2 (p:V->V->Hp->VK->Prop):Sp:=fun vs H Q _=>match vs with | [x,y]=>p x y H Q | _=>False
theorem zlJ {p:V->Hp->VK->Prop}:∀ (vs:List V) (H:Hp) (Q:VK) (E:XK),sp1 p vs H Q E->∃ x,vs = [x]/\p x H Q:=by
 intro vs H Q E h
 match vs,h with
 | [x],h=>exact ⟨x,rfl,h⟩
theorem zlS {p:V->V->Hp->VK->Prop}:∀ (vs:List V) (H:Hp) (Q:VK) (E:XK),sp2 p vs H Q E->∃ x y,vs = [x,y]/\p x y H Q:=by
 intro vs H Q E h
 match vs,h with
 | [x,y],h=>exact ⟨x,y,rfl,h⟩
structure Dd (K:W.Frag) (mg:Str->Option Value) (x:Str) (st:Stmt) (ps:List Str):Prop where
 ex:∃ f fd,Fun K x x st f fd/\mg x = some (.ref f)/\Binds K fd ps []
structure Df (P:Program) (w:World) (K:W.Frag) (mg:Str->Option Value) (base:Heap) (x:Str) (ps:List Str) (k:Nat) (sp:Sp):Prop where
 ex:∃ f fd,FnOk P w K mg base CX0 k f fd ps sp/\mg x = some (.ref f)/\PySem.W.keepIn K (.ref f) = true/\Binds K fd ps []
section
variable {P:Program} {w:World} {K:W.Frag} {mg:Str->Option Value} {base:Heap} {x a b c d e:Str} {st:Stmt} {N:List Str} {k:Nat}
theorem Df.of {ps:List Str} {sp:Sp} (D:Dd K mg x st ps) (S:FnScope N ps (zq st)) (len:∀ vs H Q E,sp vs H Q E->vs.length = ps.length)
  (hbody:∀ (f:Addr) (cdv:Value) (A:Around) (outer:List Env) (s:Shared) (H:Hp) (vs:List V) (Q:VK) (E:XK),Room k (A.deeper (envOfC x (zq st) s.heap.objs.size f cdv))->sp vs H Q E ->
   ∃ t,PSs (zmx CX0 P w K mg base N x (zq st) f cdv A outer s H E).nox (zcZ st) t/\t { nx:=fun _ H'=>Q .non H',rt:=Q } (start N vs) H):Df P w K mg base x ps (k + 1) sp:=by
 obtain ⟨f,fd,F,hm,hb⟩:=D.ex
 exact ⟨f,fd,F.ok S len (hbody f),hm,F.kp,hb⟩
theorem Df.of2 {p:V->V->Hp->VK->Prop} (D:Dd K mg x st [a,b]) (S:FnScope N [a,b] (zq st)) (σ0:V->V->St) (hs:∀ v u,start N [v,u] = σ0 v u)
  (hbody:∀ (f:Addr) (cdv:Value) (A:Around) (outer:List Env) (s:Shared) (H:Hp) (v u:V) (Q:VK) (E:XK),Room k (A.deeper (envOfC x (zq st) s.heap.objs.size f cdv))->p v u H Q ->
   ∃ t,PSs (zmx CX0 P w K mg base N x (zq st) f cdv A outer s H E).nox (zcZ st) t/\t { nx:=fun _ H'=>Q .non H',rt:=Q } (σ0 v u) H):Df P w K mg base x [a,b] (k + 1) (sp2 p):=by
 refine Df.of D S (fun vs H Q E h=>?_) fun f cdv A outer s H vs Q E hr h=>?_
 ·obtain ⟨x,y,rfl,_⟩:=zlS vs H Q E h
  rfl
 ·obtain ⟨x,y,rfl,h⟩:=zlS vs H Q E h
  rw [hs]
  exact hbody f cdv A outer s H x y Q E hr h
end
def tC2 (p:V->V->Hp->VK->Prop) (ta tb:TE):TE:=fun σ H Q=>ta σ H fun x H1=>tb σ H1 fun y H2=>p x y H2 Q
section
variable {X:Cx} {x a b c d e':Str} {k j:Nat} {pos pos':Pos} {e1 e2 e3 e4 e5:Expr} {t1 t2 t3 t4 t5:TE}
theorem zqu {p:V->V->Hp->VK->Prop} (D:Df X.prog X.w X.K X.mg X.base x [a,b] k (sp2 p)) (hr:Room j X.A) (hk:k <= j) (h1:PE X e1 t1) (h2:PE X e2 t2) (hg:Gl X x:=by rfl) (hdb:(x == ("__debug__":Str)) = false:=by decide)
  (q1:starEach [e1,e2] X.env = (false,eval e1 X.env) :: starEach [e2] X.env:=by rfl) (q2:starEach [e2] X.env = (false,eval e2 X.env) :: starEach [] X.env:=by rfl)
  (hpl:(backTo pos (starEach [e2] X.env)).any (·.1) = false:=by rfl):PE X (.Call (.Name x pos') [e1,e2] [] pos) (tC2 p t1 t2):=by
 obtain ⟨f,fd,F,hm,kp,hb⟩:=D.ex
 intro zo s σ H Q I h
 exact zlO (dvs:=[]) (ds:=[]) (E:=E0) F (hr.mono hk) hg hm kp hb .nil pass0 (zc h1 (zc h2 zg q2) q1) hdb q1 hpl zo s σ H Q I h
end
theorem Dd.mk' {K:W.Frag} {h:Heap} {mg:Str->Option Value} (X:K.In h) (G:h.Ns mainGlobals mg) {x:Str} {st:Stmt} {ps:List Str} {f:Addr} {oc:Value} {od an:Option Addr} {osl:Array (Option Value)} {kV doc pm cdv ct:Value}
  (a:PySem.W.nsIn K mainGlobals x = some (some (.ref f))) (l:K.lookup f = some ⟨oc,od,.func (PySem.W.fnOf x x (zeU st) (zcZ st) (zq st) .none kV doc pm an cdv ct),osl⟩)
  (c:PySem.W.codeIn K cdv x = true) (k:PySem.W.keepIn K (.ref f) = true)
  (hb:∀ (kV doc pm:Value) (an:Option Addr) (cdv ct:Value) (us:List Value),us.length = ps.length->bindArgs (PySem.W.fnOf x x (zeU st) (zcZ st) (zq st) .none kV doc pm an cdv ct) ⟨us,[]⟩ = pure (ps.zip us)):Dd K mg x st ps :=
 ⟨f,_,zox (st:=st) l c k,PySem.W.mg_of X G a,(zox (st:=st) l c k).binds hb⟩
theorem zaf:bootBuiltins "len" = some (.builtin "len"):=by decide +kernel
theorem zad:bootBuiltins "isinstance" = some (.builtin "isinstance"):=by decide +kernel
theorem ziT:bootBuiltins "max" = some (.builtin "max"):=by decide +kernel
theorem zj0:bootBuiltins "min" = some (.builtin "min"):=by decide +kernel
theorem zk7:bootBuiltins "int" = some (.type "int"):=by decide +kernel
theorem zi8:bootBuiltins "bool" = some (.type "bool"):=by decide +kernel
theorem zgC:bootBuiltins "list" = some (.type "list"):=by decide +kernel
theorem zaM:bootBuiltins "tuple" = some (.type "tuple"):=by decide +kernel
section
variable {H:Hp} {Q:VK}
theorem zmU {i:Nat} {σ:St}:zmw i σ H Q ↔ match σ[i]? with | some (some v)=>Q v H | _=>False:=by
 unfold zmw
 constructor
 ·rintro ⟨v,e,q⟩
  rw [e]
  exact q
 ·intro h
  split at h
  ·rename_i v e
   exact ⟨v,e,h⟩
  ·exact h.elim
theorem zmd {g:Int->Int->V} {i j:Int}:rI0 g (.int i) (.int j) H Q ↔ Q (g i j) H :=
 ⟨fun ⟨_,_,e1,e2,q⟩=>by cases e1; cases e2; exact q,fun q=>⟨i,j,rfl,rfl,q⟩⟩
theorem zsz {p:Bool->Prop} {b:Bool}:(∃ c,V.bl b = V.bl c/\p c) ↔ p b:=⟨fun ⟨_,e,q⟩=>by cases e; exact q,fun q=>⟨b,rfl,q⟩⟩
end
section
variable {K:W.Frag} {H:Hp} {Q:VK} {x y:V} {d:PyData} {ds:List PyData}
def zse (K:W.Frag):List V->Hp->VK->Prop:=fun xs H Q=>∃ p ys,xs = [.ref p]/\(SqL K H p ys\/SqT K H p ys)/\Q (.int ys.length) H
end
section
variable {X:Cx}
theorem zlq:CallR X (.builtin "len") (zse X.K):=zfE
end
def hid (a:Addr) (H:Hp):Hp:=fun b=>if b = a then none else H b
theorem zrG {a b:Addr} {H:Hp} (h:b ≠ a):hid a H b = H b:=if_neg h
theorem znm {a:Addr} {H:Hp}:hid a H a = none:=if_pos rfl
theorem Same.laid {H:Hp} {p:Addr} {o:HO} (h:H p = none):Same H (upd H p o):=fun b u e=>by
 rw [zae (zan e h)]
 exact e
section
variable {X:Cx} {zo:List (Addr × Obj)} {σ:St} {H:Hp} {s:Shared} {a:Addr} {m:List (Key × V)}
theorem Inv.fz (I:Inv X zo σ H s) (e:H a = some (.dK m)):∃ ob,Inv X zo σ (upd H a (.frz ob (.dK m))) s:=by
 have q:=(show ObjOk X.prog X.w H s.heap a (.dK m) from I.hok a _ e)
 obtain ⟨_,_,vs,_,ob,es,ep,h1,_⟩:=id q
 exact ⟨ob,I.write (x:=a) (e:=a) (o:=.frz ob (.dK m)) (h':=s.heap) (t':=s.toks) (by rw [e]; exact True.intro) (.inl rfl) (fun b v _ z=>z) ⟨ob,h1⟩ ⟨h1,q⟩⟩
def zsD (t:TE):TE:=fun σ H Q=>t σ H fun v H1=>∃ a m,v = .ref a/\H1 a = some (.dK m)/\∀ ob,Q v (upd H1 a (.frz ob (.dK m)))
theorem zsg {e:Expr} {t:TE} (h:PE X e t):PE X e (zsD t):=fun zo s σ H Q I hw =>
 thn (h zo s σ H _ I hw) fun u s1 ⟨v,H1,I1,r1,a,m,ev,ea,q⟩=>by
  obtain ⟨ob,J⟩:=I1.fz ea
  exact ⟨v,_,J,r1,q ob⟩
def ztm (i:Nat) (t:TS):TS:=fun D σ H=>t { D with nx:=fun σ' H'=>∃ a m,σ'[i]? = some (some (.ref a))/\H' a = some (.dK m)/\∀ ob,D.nx σ' (upd H' a (.frz ob (.dK m))) } σ H
end
end
section
theorem zlU (d:PyData):zoY d "int" = match d with | .int _=>true | .bool _=>true | _=>false:=by cases d <;> first | rfl | (show zmu _ _ = _; simp [zmu,tyD])
theorem zjQ (d:PyData):zoY d "bool" = match d with | .bool _=>true | _=>false:=by cases d <;> first | rfl | (show zmu _ _ = _; simp [zmu,tyD])
theorem ziI (d:PyData):zoY d "tuple" = match d with | .tuple _=>true | _=>false:=by cases d <;> first | rfl | (show zmu _ _ = _; simp [zmu,tyD])
theorem zjN (d:PyData):zoY d "list" = match d with | .list _=>true | _=>false:=by cases d <;> first | rfl | (show zmu _ _ = _; simp [zmu,tyD])
def vw:List Addr->Hp->Hp
 | [],H=>H
 | a :: r,H=>hid a (vw r H)
def zoQ (K:W.Frag):V->V->Hp->VK->Prop:=fun x y H Q=>∃ (a:Addr) (ns:List Int) (i:Int),x = .ref a/\y = .int i/\SqL K H a (ns.map V.int)/\0 <= i/\∀ n,Q (.int n) H
theorem zoW {ns:List Int} {i:Int} (h0:0 <= i) (h1:i < ((ns.map V.int).length:Int)):∃ n,atI (ns.map V.int) i = some (.int n):=by
 obtain ⟨k,rfl⟩:=Int.eq_ofNat_of_zero_le h0
 have hk:k < ns.length:=by rw [List.length_map] at h1; omega
 exact ⟨ns[k],zcp (by rw [List.getElem?_map,List.getElem?_eq_getElem hk]; rfl)⟩
theorem zmE {ns:List Int} {lo hi:Option Int} {x:V} (h:x ∈ zjV (ns.map V.int) lo hi):∃ n,x = .int n:=by
 have h1:=List.mem_of_mem_drop (List.mem_of_mem_take h)
 obtain ⟨n,_,e⟩:=List.mem_map.mp h1
 exact ⟨n,e.symm⟩
theorem Fun.bind1 {K:W.Frag} {x a:Str} {st:Stmt} {f:Addr} {fd:FuncData} (F:Fun K x x st f fd)
  (h:∀ (kV doc pm:Value) (an:Option Addr) (cdv ct:Value) (u:Value),bindArgs (PySem.W.fnOf x x (zeU st) (zcZ st) (zq st) .none kV doc pm an cdv ct) ⟨[u],[]⟩ = pure [(a,u)]):∀ (s:Shared) (u:Value),BindsTo s fd ⟨[u],[]⟩ [(a,u)]:=by
 obtain ⟨oc,od,kV,doc,pm,an,cdv,ct,osl,rfl,lk,hcd⟩:=F.ex
 exact fun s u=>.of_eq (h kV doc pm an cdv ct u)
def zsl (K:W.Frag):V->Hp->VK->Prop:=fun x H Q=>∃ (a:Addr) (ns:List Int),x = .ref a/\SqL K H a (ns.map V.int)/\ns.length <= 63/\∀ H',Q (.bl true) H'
theorem walk_law {l:PySem.W.OpenLaw} {k:Nat} {q:Program} {loose:List Str} {XP:(Str->Option Value)->Heap->Prop} {YP:World->Heap->Prop} {d:DefRec} {K:Params->W.Frag} (hn:l.most = some 63) (hdf:d.params.defaults = [])
  (hr:Room k callerA) (hY:∀ (w:World) (h:Heap),YP w h->(K w.params).In h)
  (F:∀ (w:World) (mg:Str->Option Value) (fa:Addr) (h:Heap),(K w.params).In h->h.Ns mainGlobals mg->mg d.name = some (.ref fa) ->
   ∃ fd:FuncData,(∀ (s:Shared) (u:Value),BindsTo s fd ⟨[u],[]⟩ [("script",u)])/\∀ base:Heap,(K w.params).In base->base.Ns mainGlobals mg->FnOk l.prog w (K w.params) mg base CX0 k fa fd ["script"] (sp1 (zsl (K w.params)))) :
  PySem.W.WalkO q loose XP YP l.row.toRowW d [] (fun f vs=>PySem.call f vs) :=
 L2.walk_of (n:=63) (k:=k) (x:="script") (CX:=fun _=>CX0) (sp:=fun w=>sp1 (zsl (K w.params))) hn (by decide) hdf hr hY F (fun _ _ a ns hl _ hS=>⟨a,ns,rfl,hS,hl,fun _=>rfl⟩) fun _ _ _ _ _ z=>z
theorem Fun.ok1 {P:Program} {w:World} {K:W.Frag} {mg:Str->Option Value} {base:Heap} {x a:Str} {st:Stmt} {f:Addr} {fd:FuncData} {N:List Str} {k:Nat} {p:V->Hp->VK->Prop} (F:Fun K x x st f fd) (S:FnScope N [a] (zq st)) (σ0:V->St) (hs:∀ v,start N [v] = σ0 v)
  (hbody:∀ (cdv:Value) (A:Around) (outer:List Env) (s:Shared) (H:Hp) (v:V) (Q:VK) (E:XK),Room k (A.deeper (envOfC x (zq st) s.heap.objs.size f cdv))->p v H Q ->
   ∃ t,PSs (zmx CX0 P w K mg base N x (zq st) f cdv A outer s H E).nox (zcZ st) t/\t { nx:=fun _ H'=>Q .non H',rt:=Q } (σ0 v) H):FnOk P w K mg base CX0 (k + 1) f fd [a] (sp1 p):=by
 refine F.ok S (fun vs H Q E h=>?_) fun cdv A outer s H vs Q E hr h=>?_
 ·obtain ⟨x,rfl,_⟩:=zlJ vs H Q E h
  rfl
 ·obtain ⟨x,rfl,h⟩:=zlJ vs H Q E h
  rw [hs]
  exact hbody cdv A outer s H x Q E hr h
end
section
mutual
theorem Has.reads {X:Cx} {zo:List (Addr × Obj)} {σ:St} {H:Hp} {s:Shared} (I:Inv X zo σ H s):∀ (d:PyData) (v:V) (u:Value),Has H d v->d.canLay0 = true->RelV v u->∃ as,Reads s.heap u d as
 | .none,v,u,h,_,r=>by
  rw [zfn.mp h] at r
  cases (show u = Value.none from r)
  exact ⟨_,.none⟩
 | .bool b,v,u,h,_,r=>by
  rw [zez.mp h] at r
  cases (show u = Value.bool b from r)
  exact ⟨_,.bool b⟩
 | .int i,v,u,h,_,r=>by
  rw [zen.mp h] at r
  obtain ⟨t,q⟩:=(show ∃ t,u = Value.int i t from r)
  cases q
  exact ⟨_,.int i t⟩
 | .str x,v,u,h,_,r=>by
  rw [zeO.mp h] at r
  obtain ⟨t,q⟩:=(show ∃ t,u = Value.str x t from r)
  cases q
  exact ⟨_,.str x t⟩
 | .list ds,v,u,h,c,r=>by
  obtain ⟨a,vs,rfl,e,l⟩:=zbI.mp h
  cases (show u = Value.ref a from r)
  obtain ⟨_,its,n,rv,e1⟩:=(show ObjOk X.prog X.w H s.heap a (.lst vs) from I.hok a _ e)
  obtain ⟨as,q⟩:=HasL.reads I ds vs its l (by simpa only [PyData.canLay0] using c) rv
  exact ⟨_,.list e1 rfl rfl (by simpa using q)⟩
 | .tuple ds,v,u,h,c,r=>by
  obtain ⟨a,vs,rfl,e,l⟩:=zbx.mp h
  cases (show u = Value.ref a from r)
  obtain ⟨_,its,rv,o,e1,e2,n,e3⟩:=(show ObjOk X.prog X.w H s.heap a (.tup vs) from I.hok a _ e)
  obtain ⟨as,q⟩:=HasL.reads I ds vs its l (by simpa only [PyData.canLay0] using c) rv
  exact ⟨_,.tuple e1 e2 e3 (by simpa using q)⟩
 | .dict _,_,_,_,c,_=>by simp [PyData.canLay0] at c
theorem HasL.reads {X:Cx} {zo:List (Addr × Obj)} {σ:St} {H:Hp} {s:Shared} (I:Inv X zo σ H s):∀ (ds:List PyData) (vs:List V) (us:List Value),HasL H ds vs->PyData.canLayAll0 ds = true->Vals vs us->∃ as,ReadsAll s.heap us ds as
 | [],vs,us,h,_,r=>by
  rw [zT.mp h] at r
  cases r
  exact ⟨_,.nil⟩
 | d :: ds,vs,us,h,c,r=>by
  obtain ⟨v,w',rfl,h1,h2⟩:=zO.mp h
  have c':d.canLay0 = true/\PyData.canLayAll0 ds = true:=by simpa [PyData.canLayAll0] using c
  cases r with
  | cons r1 r2 =>
   obtain ⟨as,q1⟩:=Has.reads I d v _ h1 c'.1 r1
   obtain ⟨bs,q2⟩:=HasL.reads I ds w' _ h2 c'.2 r2
   exact ⟨_,.cons q1 q2⟩
end
def zsO:R2:=fun x y H Q=>∃ d e,Has H d x/\Has H e y/\SeqAt.shaped d = true/\SeqAt.shaped e = true/\Q (.bl (PyData.eqv d e)) H
def zsV:R2:=fun x y H Q=>∃ d e,Has H d x/\Has H e y/\SeqAt.shaped d = true/\SeqAt.shaped e = true/\Q (.bl (!PyData.eqv d e)) H
section
variable {X:Cx}
theorem zcL (hu:X.A.units + 64 < cLine):OpR X (compareOp .Eq) zsO:=by
 intro zo s σ H x y v u Q I rx ry h
 obtain ⟨d,e,hd,he,sd,se,q⟩:=h
 obtain ⟨as,q1⟩:=Has.reads I d x v hd (SeqAt.canLay_of_shaped sd) rx
 obtain ⟨bs,q2⟩:=Has.reads I e y u he (SeqAt.canLay_of_shaped se) ry
 exact eq_dataH q1 q2 sd se hu ⟨.bl _,H,I,rfl,q⟩
theorem zgs (hu:X.A.units + 64 < cLine):OpR X (compareOp .NotEq) zsV:=by
 intro zo s σ H x y v u Q I rx ry h
 obtain ⟨d,e,hd,he,sd,se,q⟩:=h
 obtain ⟨as,q1⟩:=Has.reads I d x v hd (SeqAt.canLay_of_shaped sd) rx
 obtain ⟨bs,q2⟩:=Has.reads I e y u he (SeqAt.canLay_of_shaped se) ry
 exact ne_dataH q1 q2 sd se hu ⟨.bl _,H,I,rfl,q⟩
end
section
variable {prog:Program} {w:World} {A:Around} {E:Value->Shared->Prop} {s:Shared} {l:Addr}
theorem zkk {xs:Array (Int × Tok)} {Q:Value->Shared->Prop} (hh:A.handled = none) (hl:s.heap.IsTuple l (intItems xs)) (hne:0 < xs.size)
  (h:∀ v h' tk,(intItems xs)[argBest (fun i j=>decide (numAt xs i < numAt xs j)) (xs.size - 1)]? = some v->(∀ b o,s.heap.get? b = some o->h'.get? b = some o)->Q v { s with heap:=h',toks:=tk }) :
  wpAny (model prog w) A (call (.builtin "min") [.ref l]) Q E s:=by
 have hlt:l < s.heap.objs.size:=by obtain ⟨o,e,_⟩:=hl; exact Heap.lt_size e
 refine call_min_walk (wpAny_pyIter_tuple hl ?_)
 refine ⟨_,[_,l],[_],_,_,_,_,rfl,Walks.tuple (A:=A.in1) hh _ l (Nat.ne_of_lt hlt) (intItems xs),⟨⟨_,Heap.get?_push_size _ rfl,rfl,rfl⟩,hl.push _⟩,fun c hc=>?_,by simpa [intItems] using hne,CmpOf.ints_lt (numAt xs) (fun _ _=>intItems_at),fun v h' tk hP hk=>?_⟩
 ·show c < (s.heap.push _).objs.size
  rw [Heap.size_push]
  rcases List.mem_cons.mp hc with rfl | hc
  ·exact Nat.lt_succ_self _
  ·rcases List.mem_cons.mp hc with rfl | hc
   ·exact Nat.lt_succ_of_lt hlt
   ·cases hc
 ·refine h v h' tk (by simpa [intItems] using hP) fun b o e=>hk b o (fun hm=>?_) (Heap.get?_push_of_some _ e)
  rcases List.mem_cons.mp hm with e1 | hm
  ·exact absurd (e1 ▸ Heap.lt_size e) (Nat.lt_irrefl _)
  ·cases hm
theorem zkv {xs:Array (Int × Tok)} {Q:Value->Shared->Prop} (hh:A.handled = none) (hl:s.heap.IsTuple l (intItems xs)) (hne:0 < xs.size)
  (h:∀ v h' tk,(intItems xs)[argBest (fun i j=>decide (numAt xs i > numAt xs j)) (xs.size - 1)]? = some v->(∀ b o,s.heap.get? b = some o->h'.get? b = some o)->Q v { s with heap:=h',toks:=tk }) :
  wpAny (model prog w) A (call (.builtin "max") [.ref l]) Q E s:=by
 have hlt:l < s.heap.objs.size:=by obtain ⟨o,e,_⟩:=hl; exact Heap.lt_size e
 refine call_max_walk (wpAny_pyIter_tuple hl ?_)
 refine ⟨_,[_,l],[_],_,_,_,_,rfl,Walks.tuple (A:=A.in1) hh _ l (Nat.ne_of_lt hlt) (intItems xs),⟨⟨_,Heap.get?_push_size _ rfl,rfl,rfl⟩,hl.push _⟩,fun c hc=>?_,by simpa [intItems] using hne,CmpOf.ints_gt (numAt xs) (fun _ _=>intItems_at),fun v h' tk hP hk=>?_⟩
 ·show c < (s.heap.push _).objs.size
  rw [Heap.size_push]
  rcases List.mem_cons.mp hc with rfl | hc
  ·exact Nat.lt_succ_self _
  ·rcases List.mem_cons.mp hc with rfl | hc
   ·exact Nat.lt_succ_of_lt hlt
   ·cases hc
 ·refine h v h' tk (by simpa [intItems] using hP) fun b o e=>hk b o (fun hm=>?_) (Heap.get?_push_of_some _ e)
  rcases List.mem_cons.mp hm with e1 | hm
  ·exact absurd (e1 ▸ Heap.lt_size e) (Nat.lt_irrefl _)
  ·cases hm
theorem zgr {vs:List Value} {ns:List Int} (hi:IntsAre vs ns):∃ xs:Array (Int × Tok),vs.toArray = intItems xs/\ns = xs.toList.map (·.1):=by
 obtain ⟨xs,e⟩:=hi.allInts.items
 exact ⟨xs,e,by rw [<- hi.numsOf,<- nums_intItems,<- e]⟩
end
def zsa (K:W.Frag):List V->Hp->VK->Prop:=fun xs H Q=>∃ p ns,xs = [.ref p]/\(SqL K H p (ns.map V.int)\/SqT K H p (ns.map V.int))/\ns ≠ []/\∀ m,m ∈ ns->(∀ a,a ∈ ns->m <= a)->Q (.int m) H
def zsE (K:W.Frag):List V->Hp->VK->Prop:=fun xs H Q=>∃ p ns,xs = [.ref p]/\(SqL K H p (ns.map V.int)\/SqT K H p (ns.map V.int))/\ns ≠ []/\∀ m,m ∈ ns->(∀ a,a ∈ ns->a <= m)->Q (.int m) H
section
variable {X:Cx}
theorem zkX (hc:X.calm = true):CallR X (.builtin "min") (zsa X.K):=by
 intro zo s σ H xs us Q I r h
 obtain ⟨p,ns,rfl,hq,hne,q⟩:=h
 obtain ⟨u,rfl,rx⟩:=vals1 r
 cases (show u = Value.ref p from rx)
 have done:∀ (ys:Array (Int × Tok)) (v:Value) (h':Heap) (tk:Nat),ns = ys.toList.map (·.1)->0 < ys.size->(intItems ys)[argBest (fun i j=>decide (numAt ys i < numAt ys j)) (ys.size - 1)]? = some v ->
   (∀ b o,s.heap.get? b = some o->h'.get? b = some o)->EP X zo σ Q v { s with heap:=h',toks:=tk }:=by
  intro ys v h' tk hns hsz hv hk
  obtain ⟨t,rfl⟩:=intItems_at hv
  obtain ⟨h1,h2⟩:=argBest_lt (numAt ys) (ys.size - 1)
  refine ⟨.int _,H,I.kept (t':=tk) hk,⟨t,rfl⟩,q _ ?_ fun a ha=>?_⟩
  ·rw [hns,numAt_eq]; exact getD_mem (by rw [List.length_map,Array.length_toList]; omega)
  ·rw [hns] at ha
   obtain ⟨j,hj,rfl⟩:=mem_getD ha
   rw [List.length_map,Array.length_toList] at hj
   rw [<- numAt_eq]; exact h2 j (by omega)
 rcases hq with hq | hq
 ·obtain ⟨its,rv,pl,_⟩:=I.list hq
  obtain ⟨ys,e,hns⟩:=zgr (za8 rv)
  have hsz:0 < ys.size:=by
   cases ys with
   | mk l=>cases l with
    | nil=>exact absurd hns hne
    | cons _ _=>exact Nat.succ_pos _
  exact min_intList (I.ok.hd hc) (by rw [<- e]; exact pl.isList) hsz fun v h' tk hv hk=>done ys v h' tk hns hsz hv hk
 ·obtain ⟨its,rv,pl,_⟩:=I.tuple hq
  obtain ⟨ys,e,hns⟩:=zgr (za8 rv)
  have hsz:0 < ys.size:=by
   cases ys with
   | mk l=>cases l with
    | nil=>exact absurd hns hne
    | cons _ _=>exact Nat.succ_pos _
  exact zkk (I.ok.hd hc) (by rw [<- e]; exact pl) hsz fun v h' tk hv hk=>done ys v h' tk hns hsz hv hk
theorem ziB (hc:X.calm = true):CallR X (.builtin "max") (zsE X.K):=by
 intro zo s σ H xs us Q I r h
 obtain ⟨p,ns,rfl,hq,hne,q⟩:=h
 obtain ⟨u,rfl,rx⟩:=vals1 r
 cases (show u = Value.ref p from rx)
 have done:∀ (ys:Array (Int × Tok)) (v:Value) (h':Heap) (tk:Nat),ns = ys.toList.map (·.1)->0 < ys.size->(intItems ys)[argBest (fun i j=>decide (numAt ys i > numAt ys j)) (ys.size - 1)]? = some v ->
   (∀ b o,s.heap.get? b = some o->h'.get? b = some o)->EP X zo σ Q v { s with heap:=h',toks:=tk }:=by
  intro ys v h' tk hns hsz hv hk
  obtain ⟨t,rfl⟩:=intItems_at hv
  obtain ⟨h1,h2⟩:=argBest_gt (numAt ys) (ys.size - 1)
  refine ⟨.int _,H,I.kept (t':=tk) hk,⟨t,rfl⟩,q _ ?_ fun a ha=>?_⟩
  ·rw [hns,numAt_eq]; exact getD_mem (by rw [List.length_map,Array.length_toList]; omega)
  ·rw [hns] at ha
   obtain ⟨j,hj,rfl⟩:=mem_getD ha
   rw [List.length_map,Array.length_toList] at hj
   rw [<- numAt_eq]; exact h2 j (by omega)
 rcases hq with hq | hq
 ·obtain ⟨its,rv,pl,_⟩:=I.list hq
  obtain ⟨ys,e,hns⟩:=zgr (za8 rv)
  have hsz:0 < ys.size:=by
   cases ys with
   | mk l=>cases l with
    | nil=>exact absurd hns hne
    | cons _ _=>exact Nat.succ_pos _
  exact max_intList (I.ok.hd hc) (by rw [<- e]; exact pl.isList) hsz fun v h' tk hv hk=>done ys v h' tk hns hsz hv hk
 ·obtain ⟨its,rv,pl,_⟩:=I.tuple hq
  obtain ⟨ys,e,hns⟩:=zgr (za8 rv)
  have hsz:0 < ys.size:=by
   cases ys with
   | mk l=>cases l with
    | nil=>exact absurd hns hne
    | cons _ _=>exact Nat.succ_pos _
  exact zkv (I.ok.hd hc) (by rw [<- e]; exact pl) hsz fun v h' tk hv hk=>done ys v h' tk hns hsz hv hk
end
section
variable {K:W.Frag} {o:List Addr} {σ:St} {H0:Hp} {t t1 t2 t3 t4 t5:TE} {ta:TA} {tt tu:TT} {d d1 d2 d3 d4 d5:PyData} {ds:List PyData} {b c:Bool}
def zmS:PyData->Bool
 | .none=>true
 | _=>false
theorem zla {H:Hp} {v:V} (h:Has H d v):decide (v = .non) = zmS d:=by
 cases d with
 | none=>rw [zfn.mp h]; rfl
 | bool _=>rw [zez.mp h]; rfl
 | int _=>rw [zen.mp h]; rfl
 | str _=>rw [zeO.mp h]; rfl
 | list _=>obtain ⟨a,vs,rfl,_⟩:=zbI.mp h; rfl
 | tuple _=>obtain ⟨a,vs,rfl,_⟩:=zbx.mp h; rfl
 | dict _=>obtain ⟨a,vs,rfl,_⟩:=zhz.mp h; rfl
def zsX:R2:=fun x y H Q=>y = .non/\Q (.bl (decide (x = .non))) H
theorem zpJ {X:Cx}:OpR X (compareOp .Is) zsX:=zrk
end
def spD (a b:Int):PyData:=.tuple [.int a,.int b]
end
section
theorem zk5 {K:W.Frag} {a:Addr} {ns:List Int} {N:Int} {j:Nat} {tb:TS} {D:Ends} {σ:St} {H:Hp} (P:St->Prop) (h0:σ[0]? = some (some (.ref a))) (hS:SqL K H a (ns.map V.int)) (hlen:ns.length <= 63) (hP:P σ)
  (turn:∀ (n:Int) (σ:St) (H1 H2:Hp),P σ->Same H H1->Same H1 H2->tb { D with nx:=fun σ' H'=>Same H1 H'/\P σ',ct:=fun σ' H'=>Same H1 H'/\P σ',bk:=D.nx } (σ.set j (some (.int n))) H2)
  (done:∀ (σ:St) (H1:Hp),P σ->Same H H1->D.nx σ H1) :
  zpV (zpS K (tOp zpT (zn0 (zgV (tC2 (zoQ K) (zmw 0) (tC (.int 0))) zpU)) (tSl (zqH K) (zmw 0) (zkf (tC (.int 1))) (zkf (tC (.int N)))))) (zi7 j) tb D σ H:=by
 refine ⟨_,h0,a,ns,0,rfl,rfl,hS,by decide,fun n0=>⟨by show 1 <= sizeLine; decide,fun p hp=>?_⟩⟩
 have s1:Same H (upd H p (.lst [.int n0])):=Same.laid hp
 refine ⟨_,h0,_,rfl,_,rfl,a,_,rfl,s1.seq hS,fun p2 hp2=>?_⟩
 have s2:=s1.trans (Same.laid (o:=.lst (zjV (ns.map V.int) (some 1) (some N))) hp2)
 have np:p ≠ p2:=zan zaW hp2
 have hz:(zjV (ns.map V.int) (some 1) (some N)).length <= 63:=Nat.le_trans (zeV _ _ _) (by rw [List.length_map]; exact hlen)
 refine ⟨p,p2,_,_,rfl,rfl,by rw [zae np,zaW],zaW,Nat.le_of_lt (small1000 (by simp only [List.length_cons,List.length_nil]; omega)),fun p3 hp3=>?_⟩
 have s3:=s2.trans (Same.laid (o:=.lst ([V.int n0] ++ zjV (ns.map V.int) (some 1) (some N))) hp3)
 refine ⟨p3,rfl,⟨_,.of zaW⟩,zmz (K:=K) (a:=p3) (xs:=[V.int n0] ++ zjV (ns.map V.int) (some 1) (some N)) (fun i σ' H'=>Same _ H'/\P σ') ⟨Same.refl _,hP⟩ (fun i σ H4 _ ⟨s4,_⟩=>.of (s4 _ _ zaW)) ?_ ?_⟩
 ·rintro i x σ' H4 hi ⟨s4,p4⟩
  obtain ⟨n,rfl⟩:∃ n,x = .int n:=by
   rcases List.mem_append.mp (List.mem_of_getElem? hi) with m | m
   ·exact ⟨n0,List.mem_singleton.mp m⟩
   ·exact zmE m
  exact turn n σ' _ H4 p4 s3 s4
 ·rintro σ' H4 ⟨s4,p4⟩
  exact done σ' H4 p4 (s3.trans s4)
end
section
section
variable {prog:Program} {w:World} {A:Around} {E:Value->Shared->Prop} {R:Result->Shared->Prop} {s:Shared}
theorem ziu {elt target iter:Expr} {ifs:List Expr} {scope:Scope} {pos:Pos} {it acc:Value} {env:Env} (I:Nat->Shared->Prop)
  (turn:∀ n s,I n s->wpAny (model prog w) A (pyNext it) (fun r s₁=>match r with
   | none=>R (.ok .next) s₁
   | some v=>wpAny (model prog w) A (letOwnedTupleGo target it v) (fun _ s₀=>wpAny (model prog w) A (assign target env v) (fun _ s₂ =>
     wpAny (model prog w) A (forIn ifs true fun c r=>if r = true then do let ok <- isTrue c env (eval c env); pure (ForInStep.yield ok) else pure (ForInStep.yield r)) (fun ok s₃ =>
      if ok = true then wpAny (model prog w) A (eval elt env) (fun x s₄ =>
       wpAny (model prog w) A (call (.builtin "list.append") [acc,x]) (fun _ s₅=>∃ m,m < n/\I m s₅) (fun _ _=>False) s₄) (fun _ _=>False) s₃
      else ∃ m,m < n/\I m s₃) (fun _ _=>False) s₂) (fun _ _=>False) s₀) (fun _ _=>False) s₁) (fun _ _=>False) s)
  (n:Nat) (h:I n s) :
  codeAny (model prog w) A (.compLoop (.ListComp elt [⟨target,iter,ifs,0⟩] scope pos) 0 it acc env) R s:=by
 have up:∀ {α:Type} {t:Sem α} {Q:α->Shared->Prop} {E':Value->Shared->Prop} {s':Shared},wpAny (model prog w) A t Q (fun _ _=>False) s'->wpAny (model prog w) A t Q E' s':=fun h=>wpAny_mono h (fun _ _ q=>q) fun _ _ z=>z.elim
 refine codeAny_loop rfl I (fun n s hI=>?_) n h
 show wpAny _ A ((compTurn (.ListComp elt [⟨target,iter,ifs,0⟩] scope pos) 0 it acc env).onRaise (fun x=>do noteFrame x env; theTreesLotGoes x)) _ _ s
 refine wpAny_noted ?_
 rw [compTurn_list]
 refine wpAny_bind (wpAny_standAt (wpAny_bind (thn (up (turn n s hI)) fun r s₁ h₁=>?_)))
 cases r with
 | none=>exact wpAny_pure h₁
 | some v =>
  refine wpAny_bind (thn (up h₁) fun _ s₀ h₀=>?_)
  refine wpAny_bind (thn (up h₀) fun _ s₂ h₂=>wpAny_bind (thn (up h₂) fun ok s₃ h₃=>?_))
  cases ok with
  | false=>exact wpAny_pure ⟨rfl,h₃⟩
  | true =>
   exact wpAny_bind (wpAny_bind (thn (up h₃) fun x s₄ h₄=>wpAny_bind (thn (up h₄) fun _ s₅ h₅=>wpAny_pure (wpAny_pure ⟨rfl,h₅⟩))))
end
def zcR (X:Cx) (scope:Scope) (cl:List (Str × Addr)) (C:Addr) (s₃:Shared) (H₃:Hp) (fp:List Addr) (N:List Str):Cx where
 prog:=X.prog
 w:=X.w
 K:=X.K
 mg:=X.mg
 base:=X.base
 A:=X.A
 N:=N
 s₀:=s₃
 H₀:=H₃
 env:=compEnvC scope cl C X.env
 outer:=X.stack
 stack:=X.stack
 ex:=fp
 fn:=fun _=>false
 calm:=X.calm
 pn:=[]
 xe:=fun _ _=>False
def PTs (X:Cx) (ifs:List Expr) (t:TT):Prop :=
 ∀ (zo:List (Addr × Obj)) (s:Shared) (σ:St) (H:Hp) (Q:Bool->Hp->Prop),Inv X zo σ H s->t σ H Q ->
  wpAny (model X.prog X.w) X.A (forIn ifs true fun c r=>if r = true then do let ok <- isTrue c X.env (eval c X.env); pure (ForInStep.yield ok) else pure (ForInStep.yield r)) (TP X zo σ Q) X.xe s
def zqR:TT:=fun _ H Q=>Q true H
theorem zaA {X:Cx}:PTs X [] zqR:=fun _ _ _ H _ I h=>wpAny_tests_nil ⟨H,I,h⟩
theorem zpw {X:Cx} {c:Expr} {t:TT} (h:PT X c t):PTs X [c] t:=fun zo s σ H Q I hw=>wpAny_tests_one (h zo s σ H Q I hw)
def tau (caps:List (Option Nat)) (σ:St):St:=caps.map fun o=>o.bind fun i=>(σ[i]?).join
def zjn (caps:List (Option Nat)) (wi:TI) (g:TG) (tt:TT) (te:TE):TE:=fun σ H Q=>wi σ H fun J H1=>∀ D,H1 D = none->∃ W:Nat->Nat->St->Hp->Prop,(∃ m,W 0 m (tau caps σ) (upd H1 D (.lst []))) /\
 ∀ i m τ H2,W i m τ H2->(J.stop i H2/\Q (.ref D) H2)\/(J.go i H2/\∀ x H3,J.yld i H2 x H3->g x τ H3 fun τ4 H4=>tt τ4 H4 fun b H5 =>
  if b = true then te τ4 H5 fun v H6=>∃ xs,H6 D = some (.lst xs)/\xs.length < sizeLine/\∃ m',m' < m/\W (i + 1) m' τ4 (upd H6 D (.lst (xs ++ [v]))) else ∃ m',m' < m/\W (i + 1) m' τ4 H5)
structure CompOk (X:Cx) (scope:Scope) (cl:List (Str × Addr)) (N:List Str) (caps:List (Option Nat)):Prop where
 clos:closureFor scope X.env = pure cl
 sub:∀ x c,cl.lookup x = some c->X.env.cells.lookup x = some c
 kind:scope.kind = .function
 cell:∀ y ∈ scope.names,y.2 ≠ .cell
 names:∀ y ∈ scope.names,y.2 = .local->scope.names.lookup y.1 = some .local
 has:∀ x,((relabel scope X.env).names.lookup x = some .cell\/(relabel scope X.env).names.lookup x = some .free)->∃ c,cl.lookup x = some c
 cap:∀ (j i:Nat) (x:Str),caps[j]? = some (some i)->N[j]? = some x->X.N[i]? = some x/\Vis X.env.scope x/\¬ X.env.kindOf x = some .local/\∃ c,cl.lookup x = some c/\((relabel scope X.env).names.lookup x = some .cell\/(relabel scope X.env).names.lookup x = some .free)
 len:caps.length = N.length
section
variable {X:Cx} {scope:Scope} {cl:List (Str × Addr)} {N:List Str} {caps:List (Option Nat)} {tg iter elt:Expr} {ifs:List Expr} {pos:Pos} {wi:TI} {g:TG} {tt:TT} {te:TE}
theorem zku {zo:List (Addr × Obj)} {σ:St} {H:Hp} {s:Shared} {fp:List Addr} {h₁:Heap} {t':Nat} (c:CompOk X scope cl N caps) (I:Inv X zo σ H s) (f:∀ b ∈ fp,FpOk X zo H b) (fo:∀ b ∈ fp,∃ o,s.heap.get? b = some o)
  (hns:h₁.Ns s.heap.objs.size (fun _=>none)) (hk:∀ b o,s.heap.get? b = some o->h₁.get? b = some o) :
  Inv (zcR X scope cl s.heap.objs.size s H fp N) [] (tau caps σ) H { s with heap:=h₁,toks:=t' }:=by
 have lt:∀ b ∈ fp,b < s.heap.objs.size:=fun b hb=>by obtain ⟨o,e⟩:=fo b hb; exact Heap.lt_size e
 have cells:∀ x k,cl.lookup x = some k->∃ v,s.heap.IsCell k v:=fun x k e=>I.cell x k (c.sub x k e)
 refine ⟨⟨I.ok.mod,c.kind,I.ok.glob,I.ok.blt,Nat.le_refl _,fun x y k h1 h2=>I.ok.inj x y k (c.sub x k h1) (c.sub y k h2),fun x hx=>c.has x hx,fun x k h _=>absurd (show false = true from h) (by decide),I.ok.hd,I.ok.frames,.inl rfl,
  fun b hb=>⟨Nat.ne_of_lt (lt b hb),fun x k e=>(f b hb).2.2.2.2.1 x k (c.sub x k e)⟩,I.bs,Nat.le_trans I.ok.bsz I.sz,fun b o e hb=>?_,fun b hb z=>?_,I.stack,I.stkFree⟩,
  rfl,I.bare,Un.kept hk,⟨_,hns,fun j x v h1 h2 h3=>?_⟩,fun x k e=>?_,I.hok.fresh (Nat.le_refl _),fun x k e=>I.freeC x k (c.sub x k e),fun p hp=>absurd (show p ∈ ([]:List (Addr × Obj)) from hp) (by simp),I.hok.kept hk,?_⟩
 ·rcases (f b hb).2.2.2.1 with q | q
  ·exact I.ok.noex b o e q
  ·exact absurd (Nat.lt_of_lt_of_le (Heap.lt_size e) (Nat.le_trans I.ok.bsz q)) (Nat.lt_irrefl _)
 ·rcases List.mem_cons.mp (I.stkSub b z) with q | q
  ·exact (f b hb).2.1 q
  ·exact (f b hb).2.2.1 q
 ·have h2':(caps.map fun o=>o.bind fun i=>(σ[i]?).join)[j]? = some (some v):=h2
  rw [List.getElem?_map] at h2'
  cases e:caps[j]? with
  | none=>rw [e] at h2'; cases h2'
  | some oi =>
   rw [e] at h2'
   have h2'':(oi.bind fun i=>(σ[i]?).join) = some v:=Option.some.inj h2'
   cases oi with
   | none=>cases h2''
   | some i =>
    have h4:(σ[i]?).join = some v:=h2''
    have h5:σ[i]? = some (some v):=by
     cases q:σ[i]? with
     | none=>rw [q] at h4; cases h4
     | some w'=>rw [q] at h4; exact congrArg some h4
    obtain ⟨k1,k2,k3,cc,k4,k5⟩:=c.cap j i x e h1
    obtain ⟨m,hn,hl⟩:=I.loc
    obtain ⟨u,r,l⟩:=hl i x v k1 h5 k2
    refine ⟨u,r,.inr ⟨k5,cc,k4,?_⟩⟩
    rcases l with ⟨q,_⟩ | ⟨_,c',hc',hcell⟩
    ·exact (k3 q).elim
    ·rw [c.sub x cc k4] at hc'
     cases hc'
     exact hcell.keeps hk
 ·obtain ⟨v,q⟩:=cells x k e
  exact ⟨v,q.keeps hk⟩
 ·show (caps.map _).length = N.length
  rw [List.length_map]
  exact c.len
theorem zkS {zo:List (Addr × Obj)} {σ τ:St} {H H':Hp} {s s':Shared} {h':Heap} {fp:List Addr} (I:Inv X zo σ H s) (f:∀ b ∈ fp,FpOk X zo H b) (J:Inv (zcR X scope cl s.heap.objs.size s H fp N) [] τ H' s') (hs:Heap.SameBut s.heap.objs.size s'.heap h') :
  Inv X zo σ H' { s' with heap:=h' }:=by
 have hC:H' s.heap.objs.size = none:=J.free
 have keep:∀ b o,b ≠ s.heap.objs.size->s'.heap.get? b = some o->h'.get? b = some o:=fun b o nb e=>hs.extBut b o nb e
 have u1:Un (frs X.stack) (s.heap.objs.size :: fp) H H' s.heap s'.heap:=Un.mono J.base (fun b hb=>hb) (fun b hb=>List.mem_cons_of_mem _ hb)
 have u2:Un (frs X.stack) (s.heap.objs.size :: fp) H' H' s'.heap h' :=
  ⟨fun b o e _ _ hx=>keep b o (fun z=>hx (by rw [z]; exact List.mem_cons_self)) e,fun b o e _ _ hx=>⟨o.slots,keep b o (fun z=>hx (by rw [z]; exact List.mem_cons_self)) e⟩,fun _ _ _ n _=>n,fun b o e hx=>⟨o,keep b o (fun z=>hx (by rw [z]; exact List.mem_cons_self)) e⟩,fun _ _ q=>q,fun _ _ _ q=>q,fun _ ps q=>⟨#[],by rw [q]; simp⟩⟩
 have hok:HOk X.prog X.w H' h':=fun a o e=>(J.hok a o e).stay (fun b u hb q=>keep b u (fun z=>by
  rcases hb with hb | hb
  ·rw [<- hb,z,hC] at e; cases e
  ·rw [z,hC] at hb; cases hb) q) (fun b q=>q) fun b xs q=>q
 refine I.call' (s':={ s' with heap:=h' }) (ch:=s.heap.objs.size :: fp) J.os (u1.trans u2) hok J.bare fun b hb=>?_
 rcases List.mem_cons.mp hb with rfl | hb
 ·refine ⟨.inr I.sz,Nat.ne_of_gt I.lt,fun x k e z=>?_,fun p hp z=>?_⟩
  ·obtain ⟨v,q⟩:=I.cell x k e
   exact absurd q.lt (by rw [z]; exact Nat.lt_irrefl _)
  ·exact absurd (Heap.lt_size (I.pin p hp).1) (by rw [z]; exact Nat.lt_irrefl _)
 ·obtain ⟨f0,f1,f2,f3,f4,f5⟩:=f b hb
  exact ⟨f3,f1,f4,f5⟩
theorem zg9 {zo:List (Addr × Obj)} {σ:St} {H2:Hp} {s2:Shared} {it:Addr} {fp:List Addr} {tn:Nat->Heap->Prop} {J:It} {RR:Value->Addr->Result->Shared->Prop} {E:Value->Shared->Prop} (hc:X.calm = true) (c:CompOk X scope cl N caps)
  (I2:Inv X zo σ H2 s2) (T:Turn X.prog X.w X.K tg J fp it tn) (st2:tn 0 s2.heap) (f2:∀ b ∈ fp,FpOk X zo H2 b)
  (hg:∀ C s H fp,PG (zcR X scope cl C s H fp N) tg g) (ht:∀ C s H fp,PTs (zcR X scope cl C s H fp N) ifs tt) (he:∀ C s H fp,PE (zcR X scope cl C s H fp N) elt te)
  (Q:VK) (hq:∀ D,H2 D = none->∃ W:Nat->Nat->St->Hp->Prop,(∃ m,W 0 m (tau caps σ) (upd H2 D (.lst []))) /\
   ∀ i m τ H2,W i m τ H2->(J.stop i H2/\Q (.ref D) H2)\/(J.go i H2/\∀ x H3,J.yld i H2 x H3->g x τ H3 fun τ4 H4=>tt τ4 H4 fun b H5 =>
    if b = true then te τ4 H5 fun v H6=>∃ xs,H6 D = some (.lst xs)/\xs.length < sizeLine/\∃ m',m' < m/\W (i + 1) m' τ4 (upd H6 D (.lst (xs ++ [v]))) else ∃ m',m' < m/\W (i + 1) m' τ4 H5))
  (hRR:∀ (D C:Addr) (H':Hp) (s':Shared) (m:Str->Option Value),s'.heap.Ns C m->FpOk X zo H' C->(∀ h',Heap.SameBut C s'.heap h'->Inv X zo σ H' { s' with heap:=h' })->Q (.ref D) H'->RR (.ref D) C (.ok .next) s') :
  wpAny (model X.prog X.w) X.A (newList []) (fun acc s₃=>wpAny (model X.prog X.w) X.A (newFunctionEnv scope X.env.globals cl [] X.env.qual none .none (some X.env)) (fun cenv s₄ =>
   codeAny (model X.prog X.w) X.A (.compStart (.ListComp elt [⟨tg,iter,ifs,0⟩] scope pos) 0 (.ref it) acc { cenv with scope:=relabel scope X.env }) (RR acc cenv.locals) s₄) E s₃) E s2:=by
 have hD:H2 s2.heap.objs.size = none:=I2.hok.fresh (Nat.le_refl _)
 obtain ⟨W,⟨m0,w0⟩,turn⟩:=hq s2.heap.objs.size hD
 have I3:Inv X zo σ (upd H2 s2.heap.objs.size (.lst [])) { s2 with heap:=s2.heap.push { cls:=.type "list",data:=.seq ([]:List Value).toArray } }:=I2.laid (t':=s2.toks) (fun b u e=>Heap.get?_push_of_some _ e) (Nat.le_refl _) ⟨Nat.zero_le _,[],0,.nil,Heap.get?_push_size _ rfl⟩
 have fo:∀ b ∈ fp,∃ o,s2.heap.get? b = some o:=fun b hb=>by obtain ⟨o,e,_⟩:=T.obj 0 _ st2 b hb; exact ⟨o,e⟩
 have f3:∀ b ∈ fp,FpOk X zo (upd H2 s2.heap.objs.size (.lst [])) b:=fun b hb=>by
  obtain ⟨o,e⟩:=fo b hb
  refine ⟨?_,(f2 b hb).2⟩
  rw [zae (Nat.ne_of_lt (Heap.lt_size e))]
  exact (f2 b hb).1
 refine wpAny_newObj_type (wpAny_newFunctionEnv c.cell (by intro y hy; simp at hy) (fun h₁ hns₁ hsb₁=>?_) c.kind)
 have hk:∀ b o,(s2.heap.push { cls:=.type "list",data:=.seq ([]:List Value).toArray }).get? b = some o->h₁.get? b = some o:=fun b o e=>hsb₁.extBut b o (Nat.ne_of_lt (Heap.lt_size e)) (Heap.get?_push_of_some _ e)
 have st4:tn 0 h₁:=T.keep 0 _ _ st2 fun b _ o e=>hk b o (Heap.get?_push_of_some _ e)
 have I4:=zku (t':=s2.toks + ([]:List (Str × Value)).length) c I3 f3 (fun b hb=>by obtain ⟨o,e⟩:=fo b hb; exact ⟨o,Heap.get?_push_of_some _ e⟩) hns₁ hk
 have fpok:∀ {H':Hp},(∀ b ∈ fp,H' b = none)->∀ b ∈ fp,FpOk (zcR X scope cl (s2.heap.push { cls:=.type "list",data:=.seq ([]:List Value).toArray }).objs.size { s2 with heap:=s2.heap.push { cls:=.type "list",data:=.seq ([]:List Value).toArray } } (upd H2 s2.heap.objs.size (.lst [])) fp N) [] H' b:=fun hn b hb =>
  ⟨hn b hb,(I4.ok.exf b hb).1,I4.ok.exfs b hb,.inl hb,(I4.ok.exf b hb).2,fun p hp=>absurd (show p ∈ ([]:List (Addr × Obj)) from hp) (by simp)⟩
 have loop:codeAny (model X.prog X.w) X.A (.compLoop (.ListComp elt [⟨tg,iter,ifs,0⟩] scope pos) 0 (.ref it) (.ref s2.heap.objs.size) (compEnvC scope cl (s2.heap.push { cls:=.type "list",data:=.seq ([]:List Value).toArray }).objs.size X.env))
   (RR (.ref s2.heap.objs.size) (s2.heap.push { cls:=.type "list",data:=.seq ([]:List Value).toArray }).objs.size) { s2 with heap:=h₁,toks:=s2.toks + ([]:List (Str × Value)).length }:=by
  refine ziu (fun n s'=>∃ i τ H',Inv (zcR X scope cl (s2.heap.push { cls:=.type "list",data:=.seq ([]:List Value).toArray }).objs.size { s2 with heap:=s2.heap.push { cls:=.type "list",data:=.seq ([]:List Value).toArray } } (upd H2 s2.heap.objs.size (.lst [])) fp N) [] τ H' s'/\tn i s'.heap/\(∀ b ∈ fp,H' b = none)/\W i n τ H') ?_ m0 ⟨0,_,_,I4,st4,fun b hb=>(f3 b hb).1,w0⟩
  rintro n s5 ⟨i,τ,H5,I5,st5,fr5,w5⟩
  rcases turn i n τ H5 w5 with ⟨stop,qn⟩ | ⟨go,step⟩
  ·refine thn (T.done (zcR X scope cl (s2.heap.push { cls:=.type "list",data:=.seq ([]:List Value).toArray }).objs.size { s2 with heap:=s2.heap.push { cls:=.type "list",data:=.seq ([]:List Value).toArray } } (upd H2 s2.heap.objs.size (.lst [])) fp N) rfl rfl rfl hc i [] s5 τ H5 (fun _ _=>False) I5 (fpok fr5) st5 stop) fun r s6 ⟨hr,I6⟩=>?_
   subst hr
   obtain ⟨m,hn,_⟩:=id I6.loc
   exact hRR _ _ H5 s6 m hn (I3.fpOk (Nat.le_refl _) I6.free) (fun h' hs=>zkS I3 f3 I6 hs) qn
  ·refine thn (T.item (zcR X scope cl (s2.heap.push { cls:=.type "list",data:=.seq ([]:List Value).toArray }).objs.size { s2 with heap:=s2.heap.push { cls:=.type "list",data:=.seq ([]:List Value).toArray } } (upd H2 s2.heap.objs.size (.lst [])) fp N) rfl rfl rfl hc i [] s5 τ H5 (fun _ _=>False) I5 (fpok fr5) st5 go) fun r s6 ⟨u,hr,h6⟩=>?_
   subst hr
   refine thn h6 fun _ s7 ⟨x,H7,I7,r7,y7,st7,fr7⟩=>?_
   have I7':=I7.pinned (fpok fr7) (T.obj _ _ st7)
   refine thn (hg _ _ _ _ _ s7 τ H7 x u _ I7' r7 (step x H7 y7)) fun _ s8 ⟨τ8,H8,I8,q8⟩=>?_
   refine thn (ht _ _ _ _ _ s8 τ8 H8 _ I8 q8) fun ok s9 ⟨H9,I9,q9⟩=>?_
   have again:∀ {H':Hp} {s':Shared} {m:Nat},Inv (zcR X scope cl (s2.heap.push { cls:=.type "list",data:=.seq ([]:List Value).toArray }).objs.size { s2 with heap:=s2.heap.push { cls:=.type "list",data:=.seq ([]:List Value).toArray } } (upd H2 s2.heap.objs.size (.lst [])) fp N) ([] ++ ziV fp s7.heap) τ8 H' s'->(m < n/\W (i + 1) m τ8 H') ->
     ∃ m,m < n/\∃ i τ H',Inv (zcR X scope cl (s2.heap.push { cls:=.type "list",data:=.seq ([]:List Value).toArray }).objs.size { s2 with heap:=s2.heap.push { cls:=.type "list",data:=.seq ([]:List Value).toArray } } (upd H2 s2.heap.objs.size (.lst [])) fp N) [] τ H' s'/\tn i s'.heap/\(∀ b ∈ fp,H' b = none)/\W i m τ H':=fun {H' s' m} I' q=>by
    refine ⟨m,q.1,i + 1,τ8,H',I'.unpinned,T.keep _ _ _ st7 fun b hb o e=>(I'.pin (b,o) (List.mem_append_right _ (List.mem_append_right _ (zeD hb e)))).1,fun b hb=>?_,q.2⟩
    obtain ⟨o,e,d⟩:=T.obj _ _ st7 b hb
    exact (I'.pin (b,o) (List.mem_append_right _ (List.mem_append_right _ (zeD hb e)))).2.1
   cases ok with
   | false =>
    rw [if_neg Bool.false_ne_true] at q9 ⊢
    obtain ⟨m',hm,w9⟩:=q9
    exact again I9 ⟨hm,w9⟩
   | true =>
    rw [if_pos rfl] at q9 ⊢
    refine thn (he _ _ _ _ _ s9 τ8 H9 _ I9 q9) fun v s10 ⟨z,H10,I10,r10,xs,hx,hz,m',hm,w10⟩=>?_
    refine thn (zbX _ s10 τ8 H10 (.ref s2.heap.objs.size) [z] (.ref s2.heap.objs.size) [v] (fun _ H11=>W (i + 1) m' τ8 H11) I10 rfl (.cons r10 .nil) ⟨_,xs,z,rfl,rfl,hx,hz,w10⟩) fun _ s11 ⟨_,H11,I11,_,w11⟩=>?_
    exact again I11 ⟨hm,w11⟩
 exact codeAny_compStart_list loop (T.self _ 0 _ _ _ st4 loop)
theorem zaY (hx:∀ e s,X.xe e s->False) (hc:X.calm = true) (c:CompOk X scope cl N caps) (hi:PI X tg iter wi) (hg:∀ C s H fp,PG (zcR X scope cl C s H fp N) tg g) (ht:∀ C s H fp,PTs (zcR X scope cl C s H fp N) ifs tt) (he:∀ C s H fp,PE (zcR X scope cl C s H fp N) elt te)
  (hs:∀ x,foldedSetIterable iter X.env x = pure x:=by intro _; rfl):PE X (.ListComp elt [⟨tg,iter,ifs,0⟩] scope pos) (zjn caps wi g tt te):=by
 intro zo s σ H Q I h
 rw [eval_ListComp]
 refine wpAny_comprehension_free (use:=none) rfl hs c.clos c.kind c.names (thn (hi zo s σ H _ I h) fun v s1 h1=>thn h1 fun itv s2 h2=>?_)
 obtain ⟨it,fp,tn,J,H2,e,I2,T,st2,f2,q2⟩:=h2
 subst e
 exact zg9 (RR:=fun acc C=>compPost (model X.prog X.w) X.A X.xe none (EP X zo σ Q) acc C) hc c I2 T st2 f2 hg ht he Q q2 fun D C H' s' m hn _ hb q=>⟨m,hn,fun h' hs=>⟨.ref D,H',hb h' hs,rfl,q⟩⟩
theorem zgh {i:Nat} {y:Str} {py spos:Pos} (hx:∀ e s,X.xe e s->False) (hc:X.calm = true) (c:CompOk X scope cl N caps) (hN:X.N.Nodup) (hyi:X.N[i]? = some y) (hl:X.env.scope.names.lookup y = some .local) (hi:PI X tg iter wi) (hg:∀ C s H fp,PG (zcR X scope cl C s H fp N) tg g)
  (ht:∀ C s H fp,PTs (zcR X scope cl C s H fp N) ifs tt) (he:∀ C s H fp,PE (zcR X scope cl C s H fp N) elt te)
  (hsw:swapsWith (.ListComp elt [⟨tg,iter,ifs,0⟩] scope pos) (some (.Name y py)) spos.line X.env = pure true:=by rfl)
  (hs:∀ x,foldedSetIterable iter X.env x = pure x:=by intro _; rfl):PS X (.Assign [.Name y py] (.ListComp elt [⟨tg,iter,ifs,0⟩] scope pos) spos) (zrp (zjn caps wi g tt te) (zi7 i)):=by
 intro zo s σ H D I h
 rw [exec_Assign_Name_used _ _ _ _ hsw]
 refine wpAny_bind (wpAny_standAt (wpAny_bind ?_))
 show wpAny _ X.A (do let _ <- comprehension (.ListComp elt [⟨tg,iter,ifs,0⟩] scope pos) scope X.env _ (newList []) false (eval iter X.env) (some (assign (.Name y py) X.env))) _ _ s
 refine wpAny_bind (wpAny_mono (wpAny_comprehension_free (use:=some (assign (.Name y py) X.env)) (Q:=fun _ s'=>SP X zo D .next s') rfl hs c.clos c.kind c.names (thn (hi zo s σ H _ I h) fun v s1 h1=>thn h1 fun itv s2 h2=>?_)) (fun _ s' hq=>wpAny_pure (wpAny_pure hq)) fun _ _ e=>e)
 obtain ⟨it,fp,tn,J,H2,e,I2,T,st2,f2,q2⟩:=h2
 subst e
 refine zg9 (RR:=fun acc C=>compPost (model X.prog X.w) X.A X.xe (some (assign (.Name y py) X.env)) (fun _ s'=>SP X zo D .next s') acc C) hc c I2 T st2 f2 hg ht he (fun v H'=>D.nx (σ.set i (some v)) H') q2 fun Da C H' s' m hn f hb q=>?_
 obtain ⟨o,es,ep,ho,hd,r⟩:=hn
 have I':Inv X zo σ H' s':=hb s'.heap (Heap.SameBut.refl _ _)
 have I'':Inv X (zo ++ [(C,o)]) σ H' s':=I'.pins_of fun p hp=>(List.mem_append.mp hp).elim (fun z=>I'.pin p (List.mem_append_right _ z)) fun z=>by
  cases List.mem_singleton.mp z
  exact ⟨ho,f.1,f.2.1,f.2.2.1,fun v e=>by rw [hd] at e; cases e⟩
 refine wpAny_assign_Name (zht I'' hN hyi (.inl hl) (show RelV (V.ref Da) (Value.ref Da) from rfl) (fun s2 J2=>?_) (.inr hl))
 refine ⟨m,⟨o,es,ep,(J2.pin (C,o) (List.mem_append_right _ (List.mem_append_right _ (List.mem_singleton.mpr rfl)))).1,hd,r⟩,fun h' hs=>?_⟩
 exact ⟨_,H',J2.unpinned.turned (t':=s2.toks) (fun b ob nb e=>hs.extBut b ob nb e) f.1 f.2.1 f.2.2.2.1 f.2.2.2.2.1 f.2.2.2.2.2,q⟩
end
def zl2 (env:Env):List (Str × NameKind)->List (Str × Addr)->List (Str × Addr)
 | [],acc=>acc
 | (n,k) :: r,acc=>zl2 env r (if k == .free then (n,(env.cells.lookup n).getD 0) :: acc else acc)
theorem zjE {env:Env} {x:Str} {c:Addr}:∀ {names:List (Str × NameKind)} {acc:List (Str × Addr)},(x,c) ∈ zl2 env names acc->(x,c) ∈ acc\/((x,NameKind.free) ∈ names/\c = (env.cells.lookup x).getD 0)
 | [],_,h=>.inl h
 | (n,k) :: r,acc,h=>by
  rcases zjE (names:=r) h with h | ⟨h,e⟩
  ·by_cases hk:k == .free
   ·rw [if_pos hk] at h
    rcases List.mem_cons.mp h with h | h
    ·cases h
     have:k = .free:=by simpa using hk
     subst this
     exact .inr ⟨List.mem_cons_self,rfl⟩
    ·exact .inl h
   ·rw [if_neg hk] at h
    exact .inl h
  ·exact .inr ⟨List.mem_cons_of_mem _ h,e⟩
theorem zjY {env:Env} {p:Str × Addr}:∀ {names:List (Str × NameKind)} {acc:List (Str × Addr)},p ∈ acc->p ∈ zl2 env names acc
 | [],_,h=>h
 | (n,k) :: r,acc,h=>zjY (names:=r) (by split <;> first | exact List.mem_cons_of_mem _ h | exact h)
theorem zhO {env:Env} {x:Str}:∀ {names:List (Str × NameKind)} {acc:List (Str × Addr)},(x,NameKind.free) ∈ names->∃ c,(x,c) ∈ zl2 env names acc
 | (n,k) :: r,acc,h=>by
  rcases List.mem_cons.mp h with h | h
  ·cases h
   exact ⟨_,zjY (names:=r) (by rw [if_pos (by decide)]; exact List.mem_cons_self)⟩
  ·exact zhO (names:=r) h
theorem zd1 {β:Type} {x:Str} {c:β}:∀ {l:List (Str × β)},(x,c) ∈ l->∃ c',l.lookup x = some c'
 | (n,v) :: r,h=>by
  cases e:x == n with
  | true=>exact ⟨v,by rw [List.lookup_cons,e]⟩
  | false =>
   rcases List.mem_cons.mp h with h | h
   ·cases h
    simp at e
   ·obtain ⟨c',q⟩:=zd1 (l:=r) h
    exact ⟨c',by rw [List.lookup_cons,e]; exact q⟩
theorem zhF {env:Env} {scope:Scope} (h:∀ y ∈ scope.names,y.2 = .free->(env.cells.lookup y.1).isSome = true):closureFor scope env = pure (zl2 env scope.names []):=by
 have go:∀ (names:List (Str × NameKind)) (acc:List (Str × Addr)),(∀ y ∈ names,y.2 = .free->(env.cells.lookup y.1).isSome = true) ->
   (forIn names acc (fun (x:Str × NameKind) (cs:List (Str × Addr))=>(if x.2 == .free then (do let c <- cellOf env x.1; pure (ForInStep.yield ((x.1,c) :: cs))) else pure (ForInStep.yield cs):Sem (ForInStep (List (Str × Addr)))))) = (pure (zl2 env names acc):Sem (List (Str × Addr))):=by
  intro names
  induction names with
  | nil=>intro acc _; rfl
  | cons y r ih =>
   intro acc hy
   obtain ⟨n,k⟩:=y
   rw [List.forIn_cons]
   by_cases hk:k == .free
   ·have hs:=hy (n,k) List.mem_cons_self (by simpa using hk)
    obtain ⟨c,hc⟩:=Option.isSome_iff_exists.mp hs
    have hc':env.cells.lookup n = some c:=hc
    simp only [hk,if_true,cellOf,hc',pure_bind,zl2,Option.getD_some]
    exact ih _ fun y hy'=>hy y (List.mem_cons_of_mem _ hy')
   ·simp only [hk,Bool.false_eq_true,if_false,pure_bind,zl2]
    exact ih _ fun y hy'=>hy y (List.mem_cons_of_mem _ hy')
 have g:=go scope.names [] h
 exact (bind_pure _).trans g
def za3 (DN:List Str) (dsc sc:List (Str × NameKind)) (N:List Str) (caps:List (Option Nat)):Bool :=
 (caps.length == N.length) && sc.all (fun y=>y.2 != .cell && (y.2 != .free || dsc.lookup y.1 == some .cell) && (y.2 != .local || sc.lookup y.1 == some .local)) &&
 (caps.zip N).all fun p=>match p.1 with | none=>true | some i=>DN[i]? == some p.2 && dsc.lookup p.2 == some .cell && sc.lookup p.2 == some .free
theorem zeg {dsc:List (Str × NameKind)} {env:Env} {x:Str} {k:NameKind}:∀ {names:List (Str × NameKind)},(names.map fun (n,k)=>if (k == .free && env.scope.kind == .function && env.kindOf n == some .cell) then (n,.cell) else (n,k)).lookup x = some k ->
  ∃ k',names.lookup x = some k'/\(k' = k\/(k' = .free/\k = .cell))
 | [],h=>by simp at h
 | (n,k0) :: r,h=>by
  cases e:x == n with
  | true =>
   refine ⟨k0,by rw [List.lookup_cons,e],?_⟩
   rw [List.map_cons] at h
   dsimp only at h
   split at h
   ·rename_i hc
    rw [List.lookup_cons,e] at h
    have:k0 = .free:=by simp at hc; exact hc.1.1
    cases h
    exact .inr ⟨this,rfl⟩
   ·rw [List.lookup_cons,e] at h
    cases h
    exact .inl rfl
  | false =>
   rw [List.map_cons] at h
   dsimp only at h
   have h':(r.map fun (n,k)=>if (k == NameKind.free && env.scope.kind == .function && env.kindOf n == some .cell) then (n,NameKind.cell) else (n,k)).lookup x = some k:=by
    split at h <;> (rw [List.lookup_cons,e] at h; exact h)
   obtain ⟨k',q,z⟩:=zeg (dsc:=dsc) h'
   exact ⟨k',by rw [List.lookup_cons,e]; exact q,z⟩
theorem zhe {env:Env} {x:Str} (h1:env.scope.kind = .function) (h2:env.kindOf x = some .cell):∀ {names:List (Str × NameKind)},names.lookup x = some .free ->
  (names.map fun (n,k)=>if (k == .free && env.scope.kind == .function && env.kindOf n == some .cell) then (n,.cell) else (n,k)).lookup x = some .cell
 | [],h=>by simp at h
 | (n,k0) :: r,h=>by
  rw [List.map_cons]
  cases e:x == n with
  | true =>
   rw [List.lookup_cons,e] at h
   cases h
   have en:x = n:=by simpa using e
   subst en
   dsimp only
   rw [if_pos (by rw [h1,h2]; decide),List.lookup_cons,e]
  | false =>
   rw [List.lookup_cons,e] at h
   have ih:=zhe h1 h2 (names:=r) h
   dsimp only
   split <;> (rw [List.lookup_cons,e]; exact ih)
theorem zW {X:Cx} {dsc:Scope} {L:Nat} {scope:Scope} {N:List Str} {caps:List (Option Nat)} (hd:X.env.scope = dsc) (hc:X.env.cells = cellsFrom L dsc.names []) (hdk:dsc.kind = .function) (hk:scope.kind = .function) (h:za3 X.N dsc.names scope.names N caps = true) :
  CompOk X scope (zl2 X.env scope.names []) N caps:=by
 subst hd
 simp only [za3,Bool.and_eq_true,List.all_eq_true,beq_iff_eq] at h
 obtain ⟨⟨hl,hs⟩,hz⟩:=h
 have hfree:∀ y ∈ scope.names,y.2 = .free->X.env.scope.names.lookup y.1 = some .cell:=fun y hy e=>by
  have q:=(hs y hy).1.2
  rw [e] at q
  simpa using q
 have hcell:∀ y ∈ scope.names,y.2 ≠ .cell:=fun y hy e=>by
  have q:=(hs y hy).1.1
  rw [e] at q
  simp at q
 have hsome:∀ x,X.env.scope.names.lookup x = some .cell->(X.env.cells.lookup x).isSome = true:=fun x e=>by
  rw [hc]
  exact PySem.W.cellsFrom_some _ _ _ (.inl e)
 have sub:∀ x c,(zl2 X.env scope.names []).lookup x = some c->X.env.cells.lookup x = some c:=fun x c e=>by
  rcases zjE (PySem.mem_of_lookup e) with q | ⟨q,ec⟩
  ·cases q
  ·obtain ⟨c',hc'⟩:=Option.isSome_iff_exists.mp (hsome x (hfree _ q rfl))
   rw [ec,hc']
   rfl
 refine ⟨zhF fun y hy e=>hsome y.1 (hfree y hy e),sub,hk,hcell,fun y hy e=>?_,fun x hx=>?_,fun j i x h1 h2=>?_,hl⟩
 ·have q:=(hs y hy).2
  rw [e] at q
  simpa using q
 ·have fin:(x,NameKind.free) ∈ scope.names->∃ c,(zl2 X.env scope.names []).lookup x = some c:=fun m=>by
   obtain ⟨c,hm⟩:=zhO (env:=X.env) (acc:=[]) m
   exact zd1 hm
  rcases hx with hx | hx
  ·obtain ⟨k',q,z⟩:=zeg (dsc:=[]) hx
   rcases z with rfl | ⟨rfl,_⟩
   ·exact absurd rfl (hcell _ (PySem.mem_of_lookup q))
   ·exact fin (PySem.mem_of_lookup q)
  ·obtain ⟨k',q,z⟩:=zeg (dsc:=[]) hx
   rcases z with rfl | ⟨_,z⟩
   ·exact fin (PySem.mem_of_lookup q)
   ·cases z
 ·have hm:(some i,x) ∈ caps.zip N:=by
   have:(caps.zip N)[j]? = some (some i,x):=by rw [List.getElem?_zip_eq_some]; exact ⟨h1,h2⟩
   exact List.mem_of_getElem? this
  have q:=hz _ hm
  simp only [Bool.and_eq_true,beq_iff_eq] at q
  obtain ⟨⟨q1,q2⟩,q3⟩:=q
  obtain ⟨c,hmc⟩:=zhO (env:=X.env) (acc:=[]) (PySem.mem_of_lookup q3)
  obtain ⟨c',hc'⟩:=zd1 hmc
  refine ⟨q1,.inr (.inl q2),fun z=>?_,c',hc',.inl (zhe hdk q2 q3)⟩
  have z':X.env.scope.names.lookup x = some .local:=z
  rw [q2] at z'
  cases z'
end
section
section
variable {X:Cx}
def zqf:R2:=fun x y H Q=>∃ z n,x = .str z/\y = .int n/\z.length <= 1000/\n <= 1000/\-1000 <= n/\Q (.str (PySem.Txt.mul z n)) H
theorem zrr {z:Str} {n:Int} (h1:z.length <= 1000) (h2:n <= 1000) (h3:-1000 <= n):PySem.MulOk z n:=by
 refine ⟨by simp; omega,fun a _ b=>?_,fun a _=>?_⟩
 ·have e:(1000:Int) <= (2 ^ 63 - 1) / n:=by
   rw [Int.le_ediv_iff_mul_le (by omega)]
   have:=Int.mul_le_mul_of_nonneg_left h2 (show (0:Int) <= 1000 by decide)
   omega
  omega
 ·have e:z.length * n.toNat <= 1000 * 1000:=Nat.mul_le_mul h1 (by omega)
  unfold Builtin.Str.tooLong
  simp only [decide_eq_false_iff_not,Nat.not_lt]
  exact Nat.le_trans e (by decide)
theorem zo2:OpR X (binaryOp .Mult) zqf:=by
 intro zo s σ H x y v u Q I rx ry h
 obtain ⟨z,n,rfl,rfl,h1,h2,h3,q⟩:=h
 obtain ⟨t,rfl⟩:=rx
 obtain ⟨t',rfl⟩:=ry
 exact PySem.SB.mul (zrr h1 h2 h3) fun _ k=>⟨.str _,H,I.tok _,⟨_,rfl⟩,q⟩
def zsT:V->Option Int->Option Int->Hp->VK->Prop:=fun x lo hi H Q=>∃ z,x = .str z/\z.length <= sizeLine/\Q (.str (PySem.Txt.slice z lo hi)) H
theorem zrE:SlR X zsT:=by
 intro zo s σ H x v vl vu lo hi sl Q I rx hs pl pu h
 obtain ⟨z,rfl,hz,q⟩:=h
 obtain ⟨t,rfl⟩:=rx
 refine ⟨"str",_,F.slot_str_getitem.lookup,typeIs_str _ _ _,?_⟩
 have fin:∀ (a b:Option (Int × Tok)),a.map (·.1) = lo->b.map (·.1) = hi->s.heap.IsSlice sl a b none->wpAny (model X.prog X.w) X.A (getItem (.str z t) (.ref sl)) (EP X zo σ Q) X.xe s:=fun a b e1 e2 hsl=>by
  subst e1 e2
  exact wpAny_getItem_str_slice (l:=a) (u:=b) (st:=none) hsl rfl (post_val_or_str ⟨Nat.le_trans (PySem.Txt.slice_le z _ _) hz,fun _ k=>⟨.str _,H,I.tok _,⟨_,rfl⟩,q⟩⟩)
 cases pl with
 | none =>
  cases pu with
  | none=>exact fin none none rfl rfl hs
  | int j tj=>exact fin none (some (j,tj)) rfl rfl hs
 | int i ti =>
  cases pu with
  | none=>exact fin (some (i,ti)) none rfl rfl hs
  | int j tj=>exact fin (some (i,ti)) (some (j,tj)) rfl rfl hs
theorem zhh:∀ {zs:List Str} {us:List Value},Vals (zs.map V.str) us->StrsAre us zs
 | [],_,.nil=>.nil
 | z :: zs,_,.cons r t=>by
  obtain ⟨tk,rfl⟩:=r
  exact .cons z tk (zhh t)
def zqM (K:W.Frag):V->List V->Hp->VK->Prop:=fun x vs H Q=>∃ z a zs,x = .str z/\vs = [.ref a]/\SqL K H a (zs.map V.str)/\z.length <= 16/\zs.length <= 1000/\(∀ y ∈ zs,y.length <= 1000)/\Q (.str (PySem.Txt.join z zs)) H
theorem ziE {zs:List Str} (h:∀ y ∈ zs,y.length <= 1000):(zs.map (·.length)).sum <= zs.length * 1000:=by
 induction zs with
 | nil=>simp
 | cons z zs ih =>
  have h1:=h z List.mem_cons_self
  have h2:=ih fun y hy=>h y (List.mem_cons_of_mem _ hy)
  simp only [List.map_cons,List.sum_cons,List.length_cons,Nat.add_mul,Nat.one_mul]
  omega
theorem zoO:MtR X "str.join" (zqM X.K):=by
 intro zo s σ H x vs v us Q I rx rv h
 obtain ⟨z,a,zs,rfl,rfl,hq,hz,hn,hl,q⟩:=h
 obtain ⟨t,rfl⟩:=rx
 obtain ⟨u,rfl,r1⟩:=rv.one
 cases r1
 obtain ⟨its,r,pl,hsz⟩:=I.list hq
 have hs:=ziE hl
 refine join_listW pl.isList (by simpa using zhh r) hz (by omega) fun _ k=>⟨.str _,H,I.tok _,⟨_,rfl⟩,q⟩
end
section
variable {K:W.Frag} {o:List Addr} {σ:St} {H0:Hp} {t:TE} {ta:TA} {ds:List PyData}
def zfQ (lo:Int) (n:Nat):List PyData:=(List.range n).map fun k:Nat=>.int (lo + k)
theorem zam {lo:Int} {n:Nat}:(zfQ lo n).length = n:=by simp [zfQ]
theorem zbB {lo:Int} {n i:Nat} {d:PyData} (h:(zfQ lo n)[i]? = some d):i < n/\d = .int (lo + i):=by
 have hi:i < n:=by
  have:=List.getElem?_eq_some_iff.mp h
  obtain ⟨hl,_⟩:=this
  rwa [zam] at hl
 refine ⟨hi,?_⟩
 simp only [zfQ,List.getElem?_map,List.getElem?_range hi,Option.map_some,Option.some.injEq] at h
 exact h.symm
end
theorem zmT {y:Str} {zs:List Str} (hy:y.length <= 16) (hz:∀ z ∈ zs,z.length <= 1000):(PySem.Txt.join y zs).length <= zs.length * 1016:=by
 show (Builtin.Str.glued y zs).length <= _
 rw [StrLaws.glued_eq_join]
 cases zs with
 | nil=>exact Nat.zero_le _
 | cons a r =>
  rw [len_join_cons]
  have h1:=ziE hz
  have h2:r.length * y.length <= r.length * 16:=Nat.mul_le_mul_left _ hy
  simp only [List.length_cons] at h1 ⊢
  omega
def zc7 {α:Type} (xs:List α) (lo hi:Option Int):List α:=(xs.drop (HT.sIx xs.length 0 lo)).take (HT.sIx xs.length xs.length hi - HT.sIx xs.length 0 lo)
theorem zdn {α:Type} (xs:List α) (lo hi:Option Int):(zc7 xs lo hi).length <= xs.length:=by
 unfold zc7
 rw [List.length_take,List.length_drop]
 omega
theorem HasL.drop {H:Hp}:∀ {ds:List PyData} {vs:List V} (n:Nat),HasL H ds vs->HasL H (ds.drop n) (vs.drop n)
 | ds,vs,0,h=>h
 | [],vs,n + 1,h=>by rw [zT.mp h]; exact zT.mpr rfl
 | d :: ds,vs,n + 1,h=>by
  obtain ⟨v,r,rfl,_,l⟩:=zO.mp h
  exact HasL.drop n l
theorem HasL.take {H:Hp}:∀ {ds:List PyData} {vs:List V} (n:Nat),HasL H ds vs->HasL H (ds.take n) (vs.take n)
 | ds,vs,0,h=>zT.mpr rfl
 | [],vs,n + 1,h=>by rw [zT.mp h]; exact zT.mpr rfl
 | d :: ds,vs,n + 1,h=>by
  obtain ⟨v,r,rfl,q,l⟩:=zO.mp h
  exact zO.mpr ⟨v,_,rfl,q,HasL.take n l⟩
theorem HasL.cut {H:Hp} {ds:List PyData} {vs:List V} (lo hi:Option Int) (h:HasL H ds vs):HasL H (zc7 ds lo hi) (zjV vs lo hi):=by
 unfold zc7 zjV
 rw [h.length]
 exact (h.drop _).take _
theorem HasL.rev {H:Hp}:∀ {ds:List PyData} {vs:List V},HasL H ds vs->HasL H ds.reverse vs.reverse
 | [],vs,h=>by rw [zT.mp h]; exact zT.mpr rfl
 | d :: ds,vs,h=>by
  obtain ⟨v,r,rfl,q,l⟩:=zO.mp h
  rw [List.reverse_cons,List.reverse_cons]
  exact (HasL.rev l).append (zO.mpr ⟨v,[],rfl,q,zT.mpr rfl⟩)
end
section
theorem zn7:∀ {l:List Addr} {H:Hp} {b:Addr} {u:HO},vw l H b = some u ↔ b ∉ l/\H b = some u
 | [],H,b,u=>by simp [vw]
 | a :: r,H,b,u=>by
  show hid a (vw r H) b = some u ↔ _
  by_cases h:b = a
  ·subst h; simp [znm]
  ·rw [zrG h,zn7]; simp [h]
def vx (h o:List Addr) (H:Hp):Hp:=vw (h ++ o) H
theorem zay {h o:List Addr} {H:Hp} {b:Addr} {u:HO}:vx h o H b = some u ↔ b ∉ h/\b ∉ o/\H b = some u:=by
 unfold vx
 rw [zn7]
 simp [and_assoc]
theorem zbo {h o:List Addr} {H:Hp}:Same (vx h o H) H:=fun b u e=>(zay.mp e).2.2
theorem zfw {h o:List Addr} {H H':Hp} (s:Same H H'):Same (vx h o H) (vx h o H'):=fun b u e=>by
 obtain ⟨h1,h2,h3⟩:=zay.mp e
 exact zay.mpr ⟨h1,h2,s b u h3⟩
structure Ex (o:List Addr) (H:Hp) (o':List Addr) (H':Hp):Prop where
 pre:∃ r,o' = o ++ r
 kp:∀ b u,b ∉ o->H b = some u->b ∉ o'/\H' b = some u
section
variable {h o o' o'':List Addr} {H H' H'':Hp} {S:List (List PyData)} {p a:Addr}
theorem Ex.refl:Ex o H o H:=⟨⟨[],by simp⟩,fun _ _ a b=>⟨a,b⟩⟩
theorem Ex.trans (a:Ex o H o' H') (b:Ex o' H' o'' H''):Ex o H o'' H'':=by
 obtain ⟨⟨r,e⟩,ka⟩:=a
 obtain ⟨⟨t,e'⟩,kb⟩:=b
 refine ⟨⟨r ++ t,by rw [e',e,List.append_assoc]⟩,fun b u h1 h2=>?_⟩
 obtain ⟨h3,h4⟩:=ka b u h1 h2
 exact kb b u h3 h4
theorem Ex.vx (e:Ex o H o' H'):Same (L2.vx h o H) (L2.vx h o' H'):=fun b u q=>by
 obtain ⟨h1,h2,h3⟩:=zay.mp q
 obtain ⟨h4,h5⟩:=e.kp b u h2 h3
 exact zay.mpr ⟨h1,h4,h5⟩
structure ExH (h o:List Addr) (H:Hp) (o':List Addr) (H':Hp):Prop where
 pre:∃ r,o' = o ++ r
 kp:∀ b u,b ∉ h->b ∉ o->H b = some u->b ∉ o'/\H' b = some u
theorem Ex.hid (e:Ex o H o' H'):ExH h o H o' H':=⟨e.pre,fun b u _=>e.kp b u⟩
theorem ExH.refl:ExH h o H o H:=Ex.refl.hid
theorem ExH.trans (a:ExH h o H o' H') (b:ExH h o' H' o'' H''):ExH h o H o'' H'':=by
 obtain ⟨⟨r,e⟩,ka⟩:=a
 obtain ⟨⟨t,e'⟩,kb⟩:=b
 refine ⟨⟨r ++ t,by rw [e',e,List.append_assoc]⟩,fun b u h0 h1 h2=>?_⟩
 obtain ⟨h3,h4⟩:=ka b u h0 h1 h2
 exact kb b u h0 h3 h4
theorem ExH.vx (e:ExH h o H o' H'):Same (L2.vx h o H) (L2.vx h o' H'):=fun b u q=>by
 obtain ⟨h1,h2,h3⟩:=zay.mp q
 obtain ⟨h4,h5⟩:=e.kp b u h1 h2 h3
 exact zay.mpr ⟨h1,h4,h5⟩
theorem Ex.of_same (s:Same H H'):Ex o H o H':=⟨⟨[],by simp⟩,fun b u h e=>⟨h,s b u e⟩⟩
theorem zev {α:Type} {l t:List α} {k:Nat} {a:α} (q:l[k]? = some a):(l ++ t)[k]? = some a:=by
 obtain ⟨hk,_⟩:=List.getElem?_eq_some_iff.mp q
 rw [List.getElem?_append_left hk]
 exact q
def exO (a C:Addr) (d:Option Addr):HO:=.ext fun h=>∃ o,h.get? a = some o/\o.cls = .ref C/\o.dict = d/\∃ vs,o.data = .fields vs
def xw (dx:Addr) (fs:List (Str × V)):HO:=.ext fun h=>∃ mA,h.Ns1 dx mA/\(∀ f,RelO (fs.lookup f) (mA f))/\PySem.Within mA (fs.map (·.1))
def HasE (H:Hp) (C:Addr) (fs:List (Str × PyData)) (v:V):Prop:=∃ a d,v = .ref a/\H a = some (exO a C d)/\∀ f dt,fs.lookup f = some dt->∃ dx vs u,d = some dx/\H dx = some (xw dx vs)/\vs.lookup f = some u/\Has H dt u
theorem HasE.mono {H H':Hp} {C:Addr} {fs:List (Str × PyData)} {v:V} (s:Same H H') (q:HasE H C fs v):HasE H' C fs v:=by
 obtain ⟨a,d,e,ha,hf⟩:=q
 refine ⟨a,d,e,s _ _ ha,fun f dt l=>?_⟩
 obtain ⟨dx,vs,u,e1,e2,e3,e4⟩:=hf f dt l
 exact ⟨dx,vs,u,e1,s _ _ e2,e3,Has.mono s _ _ e4⟩
inductive XV where
 | d (d:PyData)
 | l (k:Nat)
 | o (v:V)
 | x (C:Addr) (fs:List (Str × PyData))
def HasX (h o:List Addr) (H:Hp):XV->V->Prop
 | .d d,v=>Has (vx h o H) d v
 | .l k,v=>∃ a,o[k]? = some a/\v = .ref a
 | .o w,v=>v = w
 | .x C fs,v=>HasE (vx h o H) C fs v
theorem HasX.mono (e:Ex o H o' H'):∀ {x:XV} {v:V},HasX h o H x v->HasX h o' H' x v
 | .d d,v,q=>Has.mono e.vx d v q
 | .l k,v,⟨a,q,r⟩=>by
  obtain ⟨t,rfl⟩:=e.pre
  exact ⟨a,zev q,r⟩
 | .o w,v,q=>q
 | .x C fs,v,q=>HasE.mono e.vx q
def HasXs (h o:List Addr) (H:Hp):List XV->List V->Prop
 | [],vs=>vs = []
 | x :: xs,vs=>∃ v r,vs = v :: r/\HasX h o H x v/\HasXs h o H xs r
abbrev Sto:=List (List PyData)
inductive MO where
 | l (vs:List V)
 | k (m:List (Key × V))
 | t (m:List (List Key × V))
def MO.ho:MO->HO
 | .l vs=>.lst vs
 | .k m=>.dK m
 | .t m=>.dT m
structure RepS (h o:List Addr) (H:Hp) (S:Sto):Prop where
 len:S.length = o.length
 nd:o.Nodup
 dis:∀ a ∈ o,a ∉ h
 hal:∀ b ∈ h,∃ u:MO,H b = some u.ho
 cont:∀ (k:Nat) (a:Addr) (ds:List PyData),o[k]? = some a->S[k]? = some ds->∃ vs,H a = some (.lst vs)/\HasL (vx h o H) ds vs
theorem zm1 {α β:Type} {l:List α} {t:List β} {k:Nat} {a:α} (hl:t.length = l.length) (q:l[k]? = some a):∃ b,t[k]? = some b:=by
 obtain ⟨hk,_⟩:=List.getElem?_eq_some_iff.mp q
 exact ⟨t[k]'(by omega),List.getElem?_eq_getElem _⟩
theorem RepS.oal (r:RepS h o H S):∀ a ∈ o,∃ u,H a = some (.lst u):=fun a ha=>by
 obtain ⟨k,hk⟩:=List.mem_iff_getElem?.mp ha
 obtain ⟨ds,e⟩:=zm1 r.len hk
 obtain ⟨vs,e',_⟩:=r.cont k a ds hk e
 exact ⟨_,e'⟩
theorem RepS.oam (r:RepS h o H S):∀ a ∈ o,∃ u:MO,H a = some u.ho:=fun a ha=>let ⟨u,e⟩:=r.oal a ha; ⟨.l u,e⟩
theorem RepS.fresh (r:RepS h o H S) (hp:H p = none):p ∉ h/\p ∉ o:=by
 constructor
 ·intro m
  obtain ⟨u,e⟩:=r.hal p m
  rw [hp] at e
  cases e
 ·intro m
  obtain ⟨u,e⟩:=r.oal p m
  rw [hp] at e
  cases e
theorem RepS.same (r:RepS h o H S) (s:Same H H'):RepS h o H' S where
 len:=r.len
 nd:=r.nd
 dis:=r.dis
 hal:=fun b m=>by obtain ⟨u,e⟩:=r.hal b m; exact ⟨u,s b _ e⟩
 cont:=fun k a ds e1 e2=>by
  obtain ⟨vs,e3,l⟩:=r.cont k a ds e1 e2
  exact ⟨vs,s _ _ e3,HasL.mono (zfw s) _ _ l⟩
theorem RepS.laid {u:HO} (r:RepS h o H S) (hp:H p = none):vx h o (upd H p u) p = some u:=by
 obtain ⟨h1,h2⟩:=r.fresh hp
 exact zay.mpr ⟨h1,h2,zaW⟩
theorem Ex.new {u:HO} (r:RepS h o H S) (hp:H p = none):Ex o H (o ++ [p]) (upd H p u):=by
 refine ⟨⟨[p],rfl⟩,fun b w hb e=>?_⟩
 have ne:b ≠ p:=zan e hp
 exact ⟨by simp [hb,ne],by rw [zae ne]; exact e⟩
theorem zc8 {α:Type} {l:List α} {a:α} (h:l.Nodup) (n:a ∉ l):(l ++ [a]).Nodup:=by
 rw [List.nodup_append]
 refine ⟨h,by simp,fun x hx y hy e=>?_⟩
 rw [List.mem_singleton] at hy
 subst hy
 subst e
 exact n hx
theorem RepS.new {ds:List PyData} {vs:List V} (r:RepS h o H S) (hp:H p = none) (l:HasL (vx h o H) ds vs):RepS h (o ++ [p]) (upd H p (.lst vs)) (S ++ [ds]):=by
 obtain ⟨h1,h2⟩:=r.fresh hp
 have ex:Ex o H (o ++ [p]) (upd H p (.lst vs)):=Ex.new r hp
 refine ⟨by simp [r.len],zc8 r.nd h2,fun a ha=>?_,fun b hb=>?_,fun k a es e1 e2=>?_⟩
 ·rcases List.mem_append.mp ha with ha | ha
  ·exact r.dis a ha
  ·rw [List.mem_singleton.mp ha]; exact h1
 ·obtain ⟨u,e⟩:=r.hal b hb
  exact ⟨u,by rw [zae (zan e hp)]; exact e⟩
 ·by_cases hk:k < o.length
  ·rw [List.getElem?_append_left hk] at e1
   rw [List.getElem?_append_left (by rw [r.len]; exact hk)] at e2
   obtain ⟨ws,e3,l3⟩:=r.cont k a es e1 e2
   refine ⟨ws,?_,l3.mono ex.vx⟩
   rw [zae (zan e3 hp)]
   exact e3
  ·have hk':k = o.length:=by
    obtain ⟨q,_⟩:=List.getElem?_eq_some_iff.mp e1
    rw [List.length_append,List.length_singleton] at q
    omega
   subst hk'
   rw [List.getElem?_concat_length] at e1
   rw [<- r.len,List.getElem?_concat_length] at e2
   cases e1
   cases e2
   exact ⟨vs,zaW,l.mono ex.vx⟩
theorem Ex.upd {k:Nat} {u:HO} (e:o[k]? = some a):Ex o H o (L2.upd H a u) :=
 ⟨⟨[],by simp⟩,fun b w hb eb=>⟨hb,by rw [zae (fun z=>hb (by rw [z]; exact List.mem_of_getElem? e))]; exact eb⟩⟩
theorem zfc {l:List Addr} (h:l.Nodup) {i j:Nat} {a:Addr} (e1:l[i]? = some a) (e2:l[j]? = some a):i = j:=by
 obtain ⟨hi,e1⟩:=List.getElem?_eq_some_iff.mp e1
 obtain ⟨hj,e2⟩:=List.getElem?_eq_some_iff.mp e2
 exact (List.getElem_inj h).mp (e1.trans e2.symm)
theorem RepS.upd {k:Nat} {ds:List PyData} {vs:List V} (r:RepS h o H S) (e:o[k]? = some a) (l:HasL (vx h o H) ds vs):RepS h o (L2.upd H a (.lst vs)) (S.set k ds):=by
 have ex:Ex o H o (L2.upd H a (.lst vs)):=Ex.upd e
 refine ⟨by simp [r.len],r.nd,r.dis,fun b hb=>?_,fun j b es e1 e2=>?_⟩
 ·obtain ⟨u,eb⟩:=r.hal b hb
  have ne:b ≠ a:=fun z=>r.dis a (List.mem_of_getElem? e) (z ▸ hb)
  exact ⟨u,by rw [zae ne]; exact eb⟩
 ·by_cases hj:j = k
  ·subst hj
   rw [e1] at e
   cases e
   obtain ⟨hk,_⟩:=List.getElem?_eq_some_iff.mp e1
   rw [List.getElem?_set_self (by rw [r.len]; exact hk)] at e2
   cases e2
   exact ⟨vs,zaW,l.mono ex.vx⟩
  ·rw [List.getElem?_set_ne (Ne.symm hj)] at e2
   obtain ⟨ws,e3,l3⟩:=r.cont j b es e1 e2
   have ne:b ≠ a:=fun z=>hj (zfc r.nd e1 (z ▸ e))
   exact ⟨ws,by rw [zae ne]; exact e3,l3.mono ex.vx⟩
abbrev XE:=List (Option XV)
structure RepE (h o:List Addr) (H:Hp) (δ:XE) (σ:St):Prop where
 len:δ.length = σ.length
 get:∀ (i:Nat) x,δ[i]? = some (some x)->∃ v,σ[i]? = some (some v)/\HasX h o H x v
variable {δ:XE} {σ:St}
theorem RepE.mono (r:RepE h o H δ σ) (e:Ex o H o' H'):RepE h o' H' δ σ:=⟨r.len,fun i x q=>by
 obtain ⟨v,e1,e2⟩:=r.get i x q
 exact ⟨v,e1,e2.mono e⟩⟩
theorem RepE.set {i:Nat} {x:XV} {v:V} (r:RepE h o H δ σ) (q:HasX h o H x v):RepE h o H (δ.set i (some x)) (σ.set i (some v)):=by
 refine ⟨by simp [r.len],fun j y e=>?_⟩
 rw [List.getElem?_set] at e ⊢
 by_cases hij:i = j
 ·rw [if_pos hij] at e ⊢
  by_cases hl:i < δ.length
  ·rw [if_pos hl] at e
   rw [if_pos (by rw [<- r.len]; exact hl)]
   cases e
   exact ⟨v,rfl,q⟩
  ·rw [if_neg hl] at e
   cases e
 ·rw [if_neg hij] at e ⊢
  exact r.get j y e
def zmJ (caps:List (Option Nat)) (δ:XE):XE:=caps.map fun o=>o.bind fun i=>(δ[i]?).join
theorem RepE.tau {caps:List (Option Nat)} (r:RepE h o H δ σ):RepE h o H (zmJ caps δ) (L2.tau caps σ):=by
 refine ⟨by simp [zmJ,L2.tau],fun i x e=>?_⟩
 unfold zmJ at e
 unfold L2.tau
 rw [List.getElem?_map] at e ⊢
 cases hc:caps[i]? with
 | none=>rw [hc] at e; cases e
 | some c =>
  rw [hc] at e
  cases c with
  | none=>cases e
  | some j =>
   have e':(δ[j]?).join = some x:=by simpa using e
   have e2:δ[j]? = some (some x):=by
    cases hd:δ[j]? with
    | none=>rw [hd] at e'; cases e'
    | some y=>rw [hd] at e'; exact congrArg some (by simpa using e')
   obtain ⟨v,e3,e4⟩:=r.get j x e2
   exact ⟨v,by simp [e3],e4⟩
end
abbrev RX:=XV->Sto->Prop
abbrev DE:=XE->Sto->RX->Prop
abbrev DT:=XE->Sto->(Bool->Sto->Prop)->Prop
abbrev DA:=XE->Sto->(List XV->Sto->Prop)->Prop
abbrev D2:=XV->XV->Sto->RX->Prop
def Cn (h o:List Addr) (H:Hp) (R:RX) (Q:VK):Prop:=∀ o' H' S' x v,Ex o H o' H'->RepS h o' H' S'->HasX h o' H' x v->R x S'->Q v H'
theorem Cn.pre {h o o':List Addr} {H H':Hp} {R:RX} {Q:VK} (c:Cn h o H R Q) (e:Ex o H o' H'):Cn h o' H' R Q:=fun o2 H2 S2 x v e2=>c o2 H2 S2 x v (e.trans e2)
def RE (t:TE) (dt:DE):Prop:=∀ (h o:List Addr) (H:Hp) (δ:XE) (σ:St) (S:Sto) (R:RX) (Q:VK),RepE h o H δ σ->RepS h o H S->dt δ S R->Cn h o H R Q->t σ H Q
def RT (t:TT) (dt:DT):Prop:=∀ (h o:List Addr) (H:Hp) (δ:XE) (σ:St) (S:Sto) (R:Bool->Sto->Prop) (Q:Bool->Hp->Prop),RepE h o H δ σ->RepS h o H S->dt δ S R ->
 (∀ o' H' S' b,Ex o H o' H'->RepS h o' H' S'->R b S'->Q b H')->t σ H Q
def RA (t:TA) (dt:DA):Prop:=∀ (h o:List Addr) (H:Hp) (δ:XE) (σ:St) (S:Sto) (R:List XV->Sto->Prop) (Q:List V->Hp->Prop),RepE h o H δ σ->RepS h o H S->dt δ S R ->
 (∀ o' H' S' xs vs,Ex o H o' H'->RepS h o' H' S'->HasXs h o' H' xs vs->R xs S'->Q vs H')->t σ H Q
def RO (r:R2) (rd:D2):Prop:=∀ (h o:List Addr) (H:Hp) (S:Sto) (x y:XV) (v u:V) (R:RX) (Q:VK),RepS h o H S->HasX h o H x v->HasX h o H y u->rd x y S R->Cn h o H R Q->r v u H Q
def RU (r:V->Hp->VK->Prop) (rd:XV->Sto->RX->Prop):Prop:=∀ (h o:List Addr) (H:Hp) (S:Sto) (x:XV) (v:V) (R:RX) (Q:VK),RepS h o H S->HasX h o H x v->rd x S R->Cn h o H R Q->r v H Q
def RC (r:List V->Hp->VK->Prop) (rd:List XV->Sto->RX->Prop):Prop:=∀ (h o:List Addr) (H:Hp) (S:Sto) (xs:List XV) (vs:List V) (R:RX) (Q:VK),RepS h o H S->HasXs h o H xs vs->rd xs S R->Cn h o H R Q->r vs H Q
def asI:XV->(Int->Prop)->Prop
 | .d (.int i),k=>k i
 | _,_=>False
def asB:XV->(Bool->Prop)->Prop
 | .d (.bool i),k=>k i
 | _,_=>False
def asS:XV->(Str->Prop)->Prop
 | .d (.str i),k=>k i
 | _,_=>False
def asT:XV->(List PyData->Prop)->Prop
 | .d (.tuple i),k=>k i
 | _,_=>False
def zlK (S:Sto):XV->Option (List PyData)
 | .d (.list ds)=>some ds
 | .l k=>S[k]?
 | _=>none
def asL (S:Sto) (x:XV) (k:List PyData->Prop):Prop:=∃ ds,zlK S x = some ds/\k ds
def zhy (S:Sto):XV->Option PyData
 | .d d=>some d
 | .l k=>(S[k]?).map .list
 | .o _=>none
 | .x _ _=>none
def asD (x:XV) (k:PyData->Prop):Prop:=match x with
 | .d d=>k d
 | _=>False
theorem zbv {x:XV} {k:Int->Prop} (h:asI x k):∃ i,x = .d (.int i)/\k i:=by
 unfold asI at h
 split at h
 ·exact ⟨_,rfl,h⟩
 ·exact h.elim
theorem zid {x:XV} {k:Bool->Prop} (h:asB x k):∃ i,x = .d (.bool i)/\k i:=by
 unfold asB at h
 split at h
 ·exact ⟨_,rfl,h⟩
 ·exact h.elim
theorem zof {x:XV} {k:Str->Prop} (h:asS x k):∃ i,x = .d (.str i)/\k i:=by
 unfold asS at h
 split at h
 ·exact ⟨_,rfl,h⟩
 ·exact h.elim
theorem zeL {x:XV} {k:List PyData->Prop} (h:asT x k):∃ i,x = .d (.tuple i)/\k i:=by
 unfold asT at h
 split at h
 ·exact ⟨_,rfl,h⟩
 ·exact h.elim
theorem zfH {x:XV} {k:PyData->Prop} (h:asD x k):∃ i,x = .d i/\k i:=by
 unfold asD at h
 split at h
 ·exact ⟨_,rfl,h⟩
 ·exact h.elim
section
variable {h o:List Addr} {H:Hp} {S:Sto} {x:XV} {v:V} {i:Int} {b:Bool} {z:Str} {ds:List PyData} {d:PyData}
theorem zbr (q:HasX h o H (.d (.int i)) v):v = .int i:=(zen (H:=vx h o H)).mp q
theorem ze0 (q:HasX h o H (.d (.bool b)) v):v = .bl b:=(zez (H:=vx h o H)).mp q
theorem ze4 (q:HasX h o H (.d (.str z)) v):v = .str z:=(zeO (H:=vx h o H)).mp q
theorem zdA (q:HasX h o H (.d (.tuple ds)) v):∃ a vs,v = .ref a/\H a = some (.tup vs)/\HasL (vx h o H) ds vs:=by
 obtain ⟨a,vs,e,q,l⟩:=zbx.mp (show Has _ _ _ from q)
 exact ⟨a,vs,e,zbo _ _ q,l⟩
theorem zbP (r:RepS h o H S) (e:zlK S x = some ds) (q:HasX h o H x v):∃ a vs,v = .ref a/\H a = some (.lst vs)/\HasL (vx h o H) ds vs:=by
 unfold zlK at e
 split at e
 ·cases e
  obtain ⟨a,vs,e,q,l⟩:=zbI.mp (show Has _ _ _ from q)
  exact ⟨a,vs,e,zbo _ _ q,l⟩
 ·obtain ⟨a,e1,rfl⟩:=q
  obtain ⟨vs,e2,l⟩:=r.cont _ a ds e1 e
  exact ⟨a,vs,rfl,e2,l⟩
 ·cases e
theorem zgf (r:RepS h o H S) (e:zhy S x = some d) (q:HasX h o H x v):Has H d v:=by
 unfold zhy at e
 split at e
 ·cases e
  exact Has.mono zbo _ _ q
 ·rename_i k
  obtain ⟨a,e1,rfl⟩:=q
  cases hs:S[k]? with
  | none=>rw [hs] at e; cases e
  | some es =>
   rw [hs] at e
   cases e
   obtain ⟨vs,e2,l⟩:=r.cont k a es e1 hs
   exact zbI.mpr ⟨a,vs,rfl,e2,HasL.mono zbo _ _ l⟩
 ·cases e
 ·cases e
theorem xI (i:Int):HasX h o H (.d (.int i)) (.int i):=(zen (H:=vx h o H)).mpr rfl
theorem xB (i:Bool):HasX h o H (.d (.bool i)) (.bl i):=(zez (H:=vx h o H)).mpr rfl
theorem xS (i:Str):HasX h o H (.d (.str i)) (.str i):=(zeO (H:=vx h o H)).mpr rfl
theorem xN:HasX h o H (.d .none) .non:=(zfn (H:=vx h o H)).mpr rfl
theorem zk1 {vs:List V} {R:RX} {Q:VK} (r:RepS h o H S) (l:HasL (vx h o H) ds vs) (c:Cn h o H R Q) (q:R (.d (.tuple ds)) S):∀ p,H p = none->Q (.ref p) (upd H p (.tup vs)):=fun p hp =>
 c o _ S (.d (.tuple ds)) _ (Ex.of_same (Same.laid hp)) (r.same (Same.laid hp)) (zbx.mpr ⟨p,vs,rfl,r.laid hp,l.mono (zfw (Same.laid hp))⟩) q
theorem zjp {vs:List V} {R:RX} {Q:VK} (r:RepS h o H S) (l:HasL (vx h o H) ds vs) (c:Cn h o H R Q) (q:R (.d (.list ds)) S):∀ p,H p = none->Q (.ref p) (upd H p (.lst vs)):=fun p hp =>
 c o _ S (.d (.list ds)) _ (Ex.of_same (Same.laid hp)) (r.same (Same.laid hp)) (zbI.mpr ⟨p,vs,rfl,r.laid hp,l.mono (zfw (Same.laid hp))⟩) q
theorem zoC {vs:List V} {R:RX} {Q:VK} (r:RepS h o H S) (l:HasL (vx h o H) ds vs) (c:Cn h o H R Q) (q:R (.l S.length) (S ++ [ds])):∀ p,H p = none->Q (.ref p) (upd H p (.lst vs)):=fun p hp =>
 c (o ++ [p]) _ (S ++ [ds]) (.l S.length) _ (Ex.new r hp) (r.new hp l) ⟨p,by rw [r.len,List.getElem?_concat_length],rfl⟩ q
theorem zf3:∀ {xs:List XV} {vs:List V} {ds:List PyData},HasXs h o H xs vs->xs = ds.map XV.d->HasL (vx h o H) ds vs
 | [],vs,[],q,_=>zT.mpr q
 | x :: xs,vs,d :: ds,⟨v,r,e,q,l⟩,e2=>by
  rw [List.map_cons] at e2
  cases e2
  exact zO.mpr ⟨v,r,e,q,zf3 l rfl⟩
 | x :: xs,vs,[],_,e2=>by cases e2
 | [],vs,d :: ds,_,e2=>by cases e2
end
def datas:List XV->Option (List PyData)
 | []=>some []
 | .d d :: r=>(datas r).map (d :: ·)
 | _ :: _=>none
theorem zd4:∀ {xs:List XV} {ds:List PyData},datas xs = some ds->xs = ds.map XV.d
 | [],ds,e=>by cases e; rfl
 | .d d :: r,ds,e=>by
  unfold datas at e
  cases hr:datas r with
  | none=>rw [hr] at e; cases e
  | some es =>
   rw [hr] at e
   cases e
   rw [zd4 hr]
   rfl
 | .l _ :: _,_,e=>by cases e
 | .o _ :: _,_,e=>by cases e
 | .x _ _ :: _,_,e=>by cases e
def zm (i:Nat):DE:=fun δ S R=>∃ x,δ[i]? = some (some x)/\R x S
def dC (d:PyData):DE:=fun _ S R=>R (.d d) S
def dO (v:V):DE:=fun _ S R=>R (.o v) S
def dOp (rd:D2) (a b:DE):DE:=fun δ S R=>a δ S fun x S1=>b δ S1 fun y S2=>rd x y S2 R
def dUn (rd:XV->Sto->RX->Prop) (a:DE):DE:=fun δ S R=>a δ S fun x S1=>rd x S1 R
def zt:DA:=fun _ S R=>R [] S
def ze (a:DE) (b:DA):DA:=fun δ S R=>a δ S fun x S1=>b δ S1 fun xs S2=>R (x :: xs) S2
def dCB (rd:List XV->Sto->RX->Prop) (a:DA):DE:=fun δ S R=>a δ S fun xs S1=>rd xs S1 R
def zaG (a:DA):DE:=fun δ S R=>a δ S fun xs S1=>∃ ds,datas xs = some ds/\ds.length <= 1000/\R (.d (.tuple ds)) S1
def zcu (a:DA):DE:=fun δ S R=>a δ S fun xs S1=>∃ ds,datas xs = some ds/\ds.length <= 1000/\R (.d (.list ds)) S1
def zdJ (a:DA):DE:=fun δ S R=>a δ S fun xs S1=>∃ ds,datas xs = some ds/\ds.length <= 1000/\R (.l S1.length) (S1 ++ [ds])
section
variable {t ta tb tc:TE} {da db dc:DE} {tl:TA} {dl:DA} {tt tu:TT} {dt du:DT}
theorem zd {i:Nat}:RE (zmw i) (zm i):=fun h o H δ σ S R Q he hs ⟨x,e,q⟩ c=>by
 obtain ⟨v,e1,e2⟩:=he.get i x e
 exact ⟨v,e1,c o H S x v Ex.refl hs e2 q⟩
theorem zi {i:Int}:RE (tC (.int i)) (dC (.int i)):=fun h o H δ σ S R Q he hs q c=>c o H S _ _ Ex.refl hs (xI i) q
theorem zdq {i:Bool}:RE (tC (.bl i)) (dC (.bool i)):=fun h o H δ σ S R Q he hs q c=>c o H S _ _ Ex.refl hs (xB i) q
theorem zas {i:Str}:RE (tC (.str i)) (dC (.str i)):=fun h o H δ σ S R Q he hs q c=>c o H S _ _ Ex.refl hs (xS i) q
theorem zgx:RE (tC .non) (dC .none):=fun h o H δ σ S R Q he hs q c=>c o H S _ _ Ex.refl hs xN q
theorem zkC {v:V}:RE (tC v) (dO v):=fun h o H δ σ S R Q he hs q c=>c o H S (.o v) v Ex.refl hs rfl q
theorem zp {r:R2} {rd:D2} (hr:RO r rd) (ha:RE ta da) (hb:RE tb db):RE (tOp r ta tb) (dOp rd da db):=fun h o H δ σ S R Q he hs q c =>
 ha h o H δ σ S _ _ he hs q fun o1 H1 S1 x v e1 s1 x1 d1=>hb h o1 H1 δ σ S1 _ _ (he.mono e1) s1 d1 fun o2 H2 S2 y u e2 s2 y2 d2 =>
  hr h o2 H2 S2 x y v u R Q s2 (x1.mono e2) y2 d2 (c.pre (e1.trans e2))
theorem zeb {r:V->Hp->VK->Prop} {rd:XV->Sto->RX->Prop} (hr:RU r rd) (ha:RE ta da):RE (tUn r ta) (dUn rd da):=fun h o H δ σ S R Q he hs q c =>
 ha h o H δ σ S _ _ he hs q fun o1 H1 S1 x v e1 s1 x1 d1=>hr h o1 H1 S1 x v R Q s1 x1 d1 (c.pre e1)
theorem zf:RA zpU zt:=fun h o H δ σ S R Q he hs q c=>c o H S [] [] Ex.refl hs rfl q
theorem za (ha:RE ta da) (hb:RA tl dl):RA (zgV ta tl) (ze da dl):=fun h o H δ σ S R Q he hs q c =>
 ha h o H δ σ S _ _ he hs q fun o1 H1 S1 x v e1 s1 x1 d1=>hb h o1 H1 δ σ S1 _ _ (he.mono e1) s1 d1 fun o2 H2 S2 xs vs e2 s2 x2 d2 =>
  c o2 H2 S2 (x :: xs) (v :: vs) (e1.trans e2) s2 ⟨v,vs,rfl,x1.mono e2,x2⟩ d2
theorem zR {r:List V->Hp->VK->Prop} {rd:List XV->Sto->RX->Prop} (hr:RC r rd) (ha:RA tl dl):RE (tCB r tl) (dCB rd dl):=fun h o H δ σ S R Q he hs q c =>
 ha h o H δ σ S _ _ he hs q fun o1 H1 S1 xs vs e1 s1 x1 d1=>hr h o1 H1 S1 xs vs R Q s1 x1 d1 (c.pre e1)
theorem zz (ha:RA tl dl):RE (zsh tl) (zaG dl):=fun h o H δ σ S R Q he hs q c =>
 ha h o H δ σ S _ _ he hs q fun o1 H1 S1 xs vs e1 s1 x1 ⟨ds,e,hl,d1⟩=>by
  have l:=zf3 x1 (zd4 e)
  exact ⟨by rw [l.length]; exact Nat.le_of_lt (small1000 hl),zk1 s1 l (c.pre e1) d1⟩
theorem zak (ha:RA tl dl):RE (zn0 tl) (zcu dl):=fun h o H δ σ S R Q he hs q c =>
 ha h o H δ σ S _ _ he hs q fun o1 H1 S1 xs vs e1 s1 x1 ⟨ds,e,hl,d1⟩=>by
  have l:=zf3 x1 (zd4 e)
  exact ⟨by rw [l.length]; exact Nat.le_of_lt (small1000 hl),zjp s1 l (c.pre e1) d1⟩
theorem zb7 (ha:RA tl dl):RE (zn0 tl) (zdJ dl):=fun h o H δ σ S R Q he hs q c =>
 ha h o H δ σ S _ _ he hs q fun o1 H1 S1 xs vs e1 s1 x1 ⟨ds,e,hl,d1⟩=>by
  have l:=zf3 x1 (zd4 e)
  exact ⟨by rw [l.length]; exact Nat.le_of_lt (small1000 hl),zoC s1 l (c.pre e1) d1⟩
def dB (a:DE):DT:=fun δ S R=>a δ S fun x S1=>asB x fun b=>R b S1
def zgE (a:DT):DT:=fun δ S R=>a δ S fun b S1=>R (!b) S1
def dOr (a b:DT):DT:=fun δ S R=>a δ S fun x S1=>if x = true then R true S1 else b δ S1 R
def zfx (a b:DE):DE:=fun δ S R=>a δ S fun x S1=>asB x fun c=>if c = true then b δ S1 R else R (.d (.bool false)) S1
def zrX (a b:DE):DE:=fun δ S R=>a δ S fun x S1=>asB x fun c=>if c = true then R (.d (.bool true)) S1 else b δ S1 R
def zmh (a:DE):DE:=fun δ S R=>a δ S fun x S1=>asB x fun c=>R (.d (.bool (!c))) S1
def dIf (c:DT) (a b:DE):DE:=fun δ S R=>c δ S fun x S1=>if x = true then a δ S1 R else b δ S1 R
theorem zeI (ha:RE ta da):RT (zlg ta) (dB da):=fun h o H δ σ S R Q he hs q c =>
 ha h o H δ σ S _ _ he hs q fun o1 H1 S1 x v e1 s1 x1 d1=>by
  replace d1:=zid d1
  obtain ⟨b,rfl,d1⟩:=d1
  exact ⟨b,ze0 x1,c o1 H1 S1 b e1 s1 d1⟩
theorem zcv (ha:RT tt dt):RT (zsu tt) (zgE dt):=fun h o H δ σ S R Q he hs q c =>
 ha h o H δ σ S _ _ he hs q fun o1 H1 S1 b e1 s1 d1=>c o1 H1 S1 _ e1 s1 d1
theorem zfT (ha:RT tt dt) (hb:RT tu du):RT (tOr tt tu) (dOr dt du):=fun h o H δ σ S R Q he hs q c =>
 ha h o H δ σ S _ _ he hs q fun o1 H1 S1 b e1 s1 d1=>by
  cases b with
  | false=>exact zmq (hb h o1 H1 δ σ S1 R Q (he.mono e1) s1 (by simpa using d1) fun o2 H2 S2 b e2=>c o2 H2 S2 b (e1.trans e2))
  | true=>exact zmr (c o1 H1 S1 true e1 s1 (by simpa using d1))
theorem zfL (ha:RE ta da) (hb:RE tb db):RE (zq6 ta tb) (zfx da db):=fun h o H δ σ S R Q he hs q c =>
 ha h o H δ σ S _ _ he hs q fun o1 H1 S1 x v e1 s1 x1 d1=>by
  replace d1:=zid d1
  obtain ⟨b,rfl,d1⟩:=d1
  refine ⟨b,ze0 x1,?_⟩
  cases b with
  | true=>exact zmr (hb h o1 H1 δ σ S1 R Q (he.mono e1) s1 (by simpa using d1) (c.pre e1))
  | false=>exact zmq (c o1 H1 S1 _ _ e1 s1 (xB false) (by simpa using d1))
theorem zsx (ha:RE ta da) (hb:RE tb db):RE (zsW ta tb) (zrX da db):=fun h o H δ σ S R Q he hs q c =>
 ha h o H δ σ S _ _ he hs q fun o1 H1 S1 x v e1 s1 x1 d1=>by
  replace d1:=zid d1
  obtain ⟨b,rfl,d1⟩:=d1
  refine ⟨b,ze0 x1,?_⟩
  cases b with
  | false=>exact zmq (hb h o1 H1 δ σ S1 R Q (he.mono e1) s1 (by simpa using d1) (c.pre e1))
  | true=>exact zmr (c o1 H1 S1 _ _ e1 s1 (xB true) (by simpa using d1))
theorem znQ (ha:RE ta da):RE (zro ta) (zmh da):=fun h o H δ σ S R Q he hs q c =>
 ha h o H δ σ S _ _ he hs q fun o1 H1 S1 x v e1 s1 x1 d1=>by
  replace d1:=zid d1
  obtain ⟨b,rfl,d1⟩:=d1
  exact ⟨b,ze0 x1,c o1 H1 S1 _ _ e1 s1 (xB _) d1⟩
theorem zsq (hc:RT tt dt) (ha:RE ta da) (hb:RE tb db):RE (tIf tt ta tb) (dIf dt da db):=fun h o H δ σ S R Q he hs q c =>
 hc h o H δ σ S _ _ he hs q fun o1 H1 S1 b e1 s1 d1=>by
  cases b with
  | true=>exact zmr (ha h o1 H1 δ σ S1 R Q (he.mono e1) s1 (by simpa using d1) (c.pre e1))
  | false=>exact zmq (hb h o1 H1 δ σ S1 R Q (he.mono e1) s1 (by simpa using d1) (c.pre e1))
def zhn (rd rd':D2) (a b e:DE):DE:=fun δ S R=>a δ S fun x S1=>b δ S1 fun y S2=>rd x y S2 fun z S3=>asB z fun k=>if k = true then e δ S3 fun u S4=>rd' y u S4 R else R (.d (.bool false)) S3
theorem zh1 {r r':R2} {rd rd':D2} (hr:RO r rd) (hr':RO r' rd') (ha:RE ta da) (hb:RE tb db) (hc:RE tc dc):RE (zlR r r' ta tb tc) (zhn rd rd' da db dc):=fun h o H δ σ S R Q he hs q c =>
 ha h o H δ σ S _ _ he hs q fun o1 H1 S1 x v e1 s1 x1 d1=>hb h o1 H1 δ σ S1 _ _ (he.mono e1) s1 d1 fun o2 H2 S2 y u e2 s2 y2 d2 =>
  hr h o2 H2 S2 x y v u _ _ s2 (x1.mono e2) y2 d2 fun o3 H3 S3 z w e3 s3 z3 d3=>by
   replace d3:=zid d3
   obtain ⟨b,rfl,d3⟩:=d3
   refine ⟨b,ze0 z3,?_⟩
   cases b with
   | false=>exact zmq (c o3 H3 S3 _ _ ((e1.trans e2).trans e3) s3 (xB false) (by simpa using d3))
   | true=>exact zmr (hc h o3 H3 δ σ S3 _ _ (((he.mono e1).mono e2).mono e3) s3 (by simpa using d3) fun o4 H4 S4 k w' e4 s4 k4 d4=>hr' h o4 H4 S4 y k u w' R Q s4 ((y2.mono e3).mono e4) k4 d4 (c.pre (((e1.trans e2).trans e3).trans e4)))
end
def dI (C:Int->Int->Prop) (g:Int->Int->Int):D2:=fun x y S R=>asI x fun i=>asI y fun j=>C i j/\R (.d (.int (g i j))) S
def dI0 (g:Int->Int->Int):D2:=fun x y S R=>asI x fun i=>asI y fun j=>R (.d (.int (g i j))) S
def dIb (g:Int->Int->Bool):D2:=fun x y S R=>asI x fun i=>asI y fun j=>R (.d (.bool (g i j))) S
def dUI (g:Int->Int):XV->Sto->RX->Prop:=fun x S R=>asI x fun i=>R (.d (.int (g i))) S
def zgl:D2:=fun x y S R=>∃ d,zhy S x = some d/\∃ e,zhy S y = some e/\SeqAt.shaped d = true/\SeqAt.shaped e = true/\R (.d (.bool (PyData.eqv d e))) S
def zmt:D2:=fun x y S R=>∃ d,zhy S x = some d/\∃ e,zhy S y = some e/\SeqAt.shaped d = true/\SeqAt.shaped e = true/\R (.d (.bool (!PyData.eqv d e))) S
def zrL:D2:=fun x _ S R=>asD x fun d=>R (.d (.bool (zmS d))) S
def ztc:D2:=fun x y S R=>asT x fun ds=>asI y fun i=>∃ d,atI ds i = some d/\R (.d d) S
def ztf:D2:=fun x y S R=>asL S x fun ds=>asI y fun i=>∃ d,atI ds i = some d/\R (.d d) S
def ztb:D2:=fun x y S R=>asL S x fun ds=>asL S y fun es=>ds.length + es.length <= 1000/\R (.d (.list (ds ++ es))) S
def zsi:D2:=fun x y S R=>asT x fun ds=>asT y fun es=>ds ≠ []/\ds.length + es.length <= 1000/\R (.d (.tuple (ds ++ es))) S
section
theorem zh6 {C:Int->Int->Prop} {g:Int->Int->Int}:RO (rI C fun i j=>.int (g i j)) (dI C g):=fun h o H S x y v u R Q hs hx hy q c=>by
 replace q:=zbv q
 obtain ⟨i,rfl,q⟩:=q
 replace q:=zbv q
 obtain ⟨j,rfl,hc,q⟩:=q
 exact ⟨i,j,zbr hx,zbr hy,hc,c o H S _ _ Ex.refl hs (xI _) q⟩
theorem zdQ {g:Int->Int->Int}:RO (rI0 fun i j=>.int (g i j)) (dI0 g):=fun h o H S x y v u R Q hs hx hy q c=>by
 replace q:=zbv q
 obtain ⟨i,rfl,q⟩:=q
 replace q:=zbv q
 obtain ⟨j,rfl,q⟩:=q
 exact ⟨i,j,zbr hx,zbr hy,c o H S _ _ Ex.refl hs (xI _) q⟩
theorem zdD {g:Int->Int->Bool}:RO (rI0 fun i j=>.bl (g i j)) (dIb g):=fun h o H S x y v u R Q hs hx hy q c=>by
 replace q:=zbv q
 obtain ⟨i,rfl,q⟩:=q
 replace q:=zbv q
 obtain ⟨j,rfl,q⟩:=q
 exact ⟨i,j,zbr hx,zbr hy,c o H S _ _ Ex.refl hs (xB _) q⟩
theorem zh7 {g:Int->Int}:RU (rU fun i=>.int (g i)) (dUI g):=fun h o H S x v R Q hs hx q c=>by
 replace q:=zbv q
 obtain ⟨i,rfl,q⟩:=q
 exact ⟨i,zbr hx,c o H S _ _ Ex.refl hs (xI _) q⟩
theorem zcK:RO zsO zgl:=fun h o H S x y v u R Q hs hx hy q c=>by
 obtain ⟨d,q1,e,q2,q3,q4,q⟩:=q
 exact ⟨d,e,zgf hs q1 hx,zgf hs q2 hy,q3,q4,c o H S _ _ Ex.refl hs (xB _) q⟩
theorem zf4:RO zsV zmt:=fun h o H S x y v u R Q hs hx hy q c=>by
 obtain ⟨d,q1,e,q2,q3,q4,q⟩:=q
 exact ⟨d,e,zgf hs q1 hx,zgf hs q2 hy,q3,q4,c o H S _ _ Ex.refl hs (xB _) q⟩
theorem zqt {ta:TE} {da:DE} (ha:RE ta da):RE (tOp zsX ta (tC .non)) (dOp zrL da (dC .none)):=fun h o H δ σ S R Q he hs q c =>
 ha h o H δ σ S _ _ he hs q fun o1 H1 S1 x v e1 s1 x1 d1=>by
  replace d1:=zfH d1
  obtain ⟨d,rfl,d1⟩:=d1
  have e:=zla (show Has _ d v from x1)
  exact ⟨rfl,by rw [e]; exact c o1 H1 S1 _ _ e1 s1 (xB _) d1⟩
theorem HasL.atI {H:Hp} {ds:List PyData} {vs:List V} {i:Int} {d:PyData} (l:HasL H ds vs) (e:L2.atI ds i = some d):∃ v,L2.atI vs i = some v/\Has H d v:=by
 unfold L2.atI at e ⊢
 rw [l.length]
 cases hn:ixN ds.length i with
 | none=>rw [hn] at e; cases e
 | some j =>
  rw [hn] at e
  exact l.get (show ds[j]? = some d from e)
theorem zrB {K:W.Frag}:RO (zsr K) ztc:=fun h o H S x y v u R Q hs hx hy q c=>by
 replace q:=zeL q
 obtain ⟨ds,rfl,q⟩:=q
 replace q:=zbv q
 obtain ⟨i,rfl,d,e,q⟩:=q
 obtain ⟨a,vs,rfl,ea,l⟩:=zdA hx
 obtain ⟨w,ew,hw⟩:=l.atI e
 exact ⟨a,vs,i,w,rfl,zbr hy,.of ea,ew,c o H S (.d d) w Ex.refl hs hw q⟩
theorem zn8 {K:W.Frag}:RO (zsk K) ztf:=fun h o H S x y v u R Q hs hx hy q c=>by
 obtain ⟨ds,e0,q⟩:=q
 replace q:=zbv q
 obtain ⟨i,rfl,d,e,q⟩:=q
 obtain ⟨a,vs,rfl,ea,l⟩:=zbP hs e0 hx
 obtain ⟨w,ew,hw⟩:=l.atI e
 exact ⟨a,vs,i,w,rfl,zbr hy,.of ea,ew,c o H S (.d d) w Ex.refl hs hw q⟩
theorem zp7:RO zpT ztb:=fun h o H S x y v u R Q hs hx hy q c=>by
 obtain ⟨ds,e0,es,e1,hl,q⟩:=q
 obtain ⟨a,vs,rfl,ea,la⟩:=zbP hs e0 hx
 obtain ⟨b,us,rfl,eb,lb⟩:=zbP hs e1 hy
 exact ⟨a,b,vs,us,rfl,rfl,ea,eb,by rw [la.length,lb.length]; exact Nat.le_of_lt (small1000 hl),zjp hs (la.append lb) c q⟩
theorem zoV {K:W.Frag}:RO (zoK K) zsi:=fun h o H S x y v u R Q hs hx hy q c=>by
 replace q:=zeL q
 obtain ⟨ds,rfl,q⟩:=q
 replace q:=zeL q
 obtain ⟨es,rfl,hn,hl,q⟩:=q
 obtain ⟨a,vs,rfl,ea,la⟩:=zdA hx
 obtain ⟨b,us,rfl,eb,lb⟩:=zdA hy
 refine ⟨a,b,vs,us,rfl,rfl,.of ea,.of eb,fun z=>?_,by rw [la.length,lb.length]; exact Nat.le_of_lt (small1000 hl),fun z=>?_,fun _=>zk1 hs (la.append lb) c q⟩
 ·subst z
  have:=la.length
  exact hn (List.eq_nil_of_length_eq_zero this.symm)
 ·subst z
  have e:es = []:=List.eq_nil_of_length_eq_zero lb.length.symm
  subst e
  rw [List.append_nil] at q
  exact c o H S (.d (.tuple ds)) _ Ex.refl hs hx q
end
abbrev DO:=XE->Sto->(Option Int->Sto->Prop)->Prop
def RP (t:TO) (dt:DO):Prop:=∀ (h o:List Addr) (H:Hp) (δ:XE) (σ:St) (S:Sto) (R:Option Int->Sto->Prop) (Q:Option Int->Hp->Prop),RepE h o H δ σ->RepS h o H S->dt δ S R ->
 (∀ o' H' S' b,Ex o H o' H'->RepS h o' H' S'->R b S'->Q b H')->t σ H Q
def zaD:DO:=fun _ S R=>R none S
def zc3 (a:DE):DO:=fun δ S R=>a δ S fun x S1=>asI x fun i=>R (some i) S1
theorem za2:RP zl6 zaD:=fun h o H δ σ S R Q he hs q c=>c o H S none Ex.refl hs q
theorem za1 {t:TE} {da:DE} (ha:RE t da):RP (zkf t) (zc3 da):=fun h o H δ σ S R Q he hs q c =>
 ha h o H δ σ S _ _ he hs q fun o1 H1 S1 x v e1 s1 x1 d1=>by
  replace d1:=zbv d1
  obtain ⟨i,rfl,d1⟩:=d1
  exact ⟨i,zbr x1,c o1 H1 S1 _ e1 s1 d1⟩
abbrev D3:=XV->Option Int->Option Int->Sto->RX->Prop
def RL (r:V->Option Int->Option Int->Hp->VK->Prop) (rd:D3):Prop:=∀ (h o:List Addr) (H:Hp) (S:Sto) (x:XV) (v:V) (a b:Option Int) (R:RX) (Q:VK),RepS h o H S->HasX h o H x v->rd x a b S R->Cn h o H R Q->r v a b H Q
def dSl (rd:D3) (e:DE) (a b:DO):DE:=fun δ S R=>e δ S fun x S1=>a δ S1 fun i S2=>b δ S2 fun j S3=>rd x i j S3 R
theorem zdE {r:V->Option Int->Option Int->Hp->VK->Prop} {rd:D3} {te:TE} {de:DE} {ta tb:TO} {da db:DO} (hr:RL r rd) (he':RE te de) (ha:RP ta da) (hb:RP tb db):RE (tSl r te ta tb) (dSl rd de da db):=fun h o H δ σ S R Q he hs q c =>
 he' h o H δ σ S _ _ he hs q fun o1 H1 S1 x v e1 s1 x1 d1=>ha h o1 H1 δ σ S1 _ _ (he.mono e1) s1 d1 fun o2 H2 S2 i e2 s2 d2=>hb h o2 H2 δ σ S2 _ _ ((he.mono e1).mono e2) s2 d2 fun o3 H3 S3 j e3 s3 d3 =>
  hr h o3 H3 S3 x v i j R Q s3 ((x1.mono e2).mono e3) d3 (c.pre ((e1.trans e2).trans e3))
def zta:D3:=fun x i j S R=>asL S x fun ds=>R (.d (.list (zc7 ds i j))) S
def ztd:D3:=fun x i j S R=>asT x fun ds=>¬ (HT.sIx ds.length 0 i = 0/\HT.sIx ds.length ds.length j = ds.length)/\R (.d (.tuple (zc7 ds i j))) S
theorem zlz {K:W.Frag}:RL (zqH K) zta:=fun h o H S x v a b R Q hs hx q c=>by
 obtain ⟨ds,e0,q⟩:=q
 obtain ⟨p,vs,rfl,ea,l⟩:=zbP hs e0 hx
 exact ⟨p,vs,rfl,.of ea,zjp hs (l.cut a b) c q⟩
theorem zrd {K:W.Frag}:RL (zr2 K) ztd:=fun h o H S x v a b R Q hs hx q c=>by
 replace q:=zeL q
 obtain ⟨ds,rfl,hn,q⟩:=q
 obtain ⟨p,vs,rfl,ea,l⟩:=zdA hx
 exact ⟨p,vs,rfl,.of ea,by rw [l.length]; exact hn,zk1 hs (l.cut a b) c q⟩
def asQ (S:Sto):XV->Option (List PyData)
 | .d (.tuple ds)=>some ds
 | .d (.list ds)=>some ds
 | .l k=>S[k]?
 | _=>none
theorem zhg {h o:List Addr} {H:Hp} {S:Sto} {x:XV} {v:V} {ds:List PyData} (r:RepS h o H S) (e:asQ S x = some ds) (q:HasX h o H x v):∃ a vs,v = .ref a/\(H a = some (.tup vs)\/H a = some (.lst vs))/\HasL (vx h o H) ds vs:=by
 unfold asQ at e
 split at e
 ·cases e
  obtain ⟨a,vs,e,q,l⟩:=zdA q
  exact ⟨a,vs,e,.inl q,l⟩
 ·cases e
  obtain ⟨a,vs,e,q,l⟩:=zbP (x:=.d (.list ds)) (ds:=ds) r rfl q
  exact ⟨a,vs,e,.inr q,l⟩
 ·rename_i k
  obtain ⟨a,vs,e,q,l⟩:=zbP (x:=.l k) r e q
  exact ⟨a,vs,e,.inr q,l⟩
 ·cases e
def arg1:List XV->(XV->Prop)->Prop
 | [x],k=>k x
 | _,_=>False
def arg2:List XV->(XV->XV->Prop)->Prop
 | [x,y],k=>k x y
 | _,_=>False
theorem zbE {xs:List XV} {k:XV->Prop} (h:arg1 xs k):∃ x,xs = [x]/\k x:=by
 unfold arg1 at h
 split at h
 ·exact ⟨_,rfl,h⟩
 ·exact h.elim
theorem zgg {xs:List XV} {k:XV->XV->Prop} (h:arg2 xs k):∃ x y,xs = [x,y]/\k x y:=by
 unfold arg2 at h
 split at h
 ·exact ⟨_,_,rfl,h⟩
 ·exact h.elim
theorem hxs1 {h o:List Addr} {H:Hp} {x:XV} {vs:List V} (q:HasXs h o H [x] vs):∃ v,vs = [v]/\HasX h o H x v:=by
 obtain ⟨v,r,e,hx,hr⟩:=q
 cases hr
 exact ⟨v,e,hx⟩
theorem hxs2 {h o:List Addr} {H:Hp} {x y:XV} {vs:List V} (q:HasXs h o H [x,y] vs):∃ v u,vs = [v,u]/\HasX h o H x v/\HasX h o H y u:=by
 obtain ⟨v,r,e,hx,q⟩:=q
 obtain ⟨u,e',hy⟩:=hxs1 q
 subst e'
 exact ⟨v,u,e,hx,hy⟩
def zsC:XV->(String->Prop)->Prop
 | .o v,k=>∃ c,v = .ty c/\k c
 | _,_=>False
def zr8:XV->(Int->Prop)->Prop
 | .d d,k=>match d with
  | .int i=>k i
  | .bool b=>k (if b then 1 else 0)
  | _=>False
 | _,_=>False
theorem zpx {x:XV} {k:String->Prop} (h:zsC x k):∃ c,x = .o (.ty c)/\k c:=by
 cases x with
 | o v =>
  obtain ⟨c,rfl,h⟩:=h
  exact ⟨c,rfl,h⟩
 | d d=>exact h.elim
 | l j=>exact h.elim
 | x _ _=>exact h.elim
theorem zoR {x:XV} {k:Int->Prop} (h:zr8 x k):(∃ i,x = .d (.int i)/\k i)\/∃ b,x = .d (.bool b)/\k (if b then 1 else 0):=by
 cases x with
 | d d =>
  cases d with
  | int i=>exact .inl ⟨i,rfl,h⟩
  | bool b=>exact .inr ⟨b,rfl,h⟩
  | _=>exact h.elim
 | _=>exact h.elim
def zs8:List XV->Sto->RX->Prop:=fun xs S R=>arg1 xs fun x=>∃ ds,asQ S x = some ds/\R (.d (.int ds.length)) S
theorem zmo {K:W.Frag}:RC (zse K) zs8:=fun h o H S xs vs R Q hs hx q c=>by
 obtain ⟨x,rfl,ds,hd,q1⟩:=zbE q
 obtain ⟨v,rfl,hx1⟩:=hxs1 hx
 obtain ⟨a,ws,rfl,ea,l⟩:=zhg hs hd hx1
 refine ⟨a,ws,rfl,ea.elim (fun z=>.inr (.of z)) (fun z=>.inl (.of z)),?_⟩
 rw [l.length]
 exact c o H S _ _ Ex.refl hs (xI _) q1
def zh9:List XV->Sto->RX->Prop:=fun xs S R=>arg2 xs fun x y=>zsC y fun cl=>∃ d,zhy S x = some d/\cl ∈ zmF/\R (.d (.bool (zoY d cl))) S
theorem zdS:RC zsp zh9:=fun h o H S xs vs R Q hs hx q c=>by
 obtain ⟨x,y,rfl,q1⟩:=zgg q
 obtain ⟨cl,rfl,d,hd,hc,q2⟩:=zpx q1
 obtain ⟨v,u,rfl,hx1,hu⟩:=hxs2 hx
 cases hu
 exact zpK (zgf hs hd hx1) hc (c o H S _ _ Ex.refl hs (xB _) q2)
def zni:List XV->Sto->RX->Prop:=fun xs S R=>arg1 xs fun x=>zr8 x fun i=>R (.d (.int i)) S
theorem zpc:RC (fun xs H Q=>(∃ i,xs = [.int i]/\Q (.int i) H)\/∃ k,xs = [.bl k]/\Q (.int (if k then 1 else 0)) H) zni:=fun h o H S xs vs R Q hs hx q c=>by
 obtain ⟨x,rfl,q1⟩:=zbE q
 obtain ⟨v,rfl,hx1⟩:=hxs1 hx
 rcases zoR q1 with ⟨i,rfl,q2⟩ | ⟨b,rfl,q2⟩
 ·exact .inl ⟨_,by rw [zbr hx1],c o H S _ _ Ex.refl hs (xI _) q2⟩
 ·exact .inr ⟨_,by rw [ze0 hx1],c o H S _ _ Ex.refl hs (xI _) q2⟩
def dI2 (g:Int->Int->Int):List XV->Sto->RX->Prop:=fun xs S R=>arg2 xs fun x y=>asI x fun i=>asI y fun j=>R (.d (.int (g i j))) S
theorem zlX {g:Int->Int->Int}:RC (fun xs H Q=>∃ i j,xs = [.int i,.int j]/\Q (.int (g i j)) H) (dI2 g):=fun h o H S xs vs R Q hs hx q c=>by
 obtain ⟨x,y,rfl,q1⟩:=zgg q
 obtain ⟨v,u,rfl,hx1,hu⟩:=hxs2 hx
 obtain ⟨i,rfl,q2⟩:=zbv q1
 obtain ⟨j,rfl,q3⟩:=zbv q2
 exact ⟨i,j,by rw [zbr hx1,zbr hu],c o H S _ _ Ex.refl hs (xI _) q3⟩
def zcP:List XV->Sto->RX->Prop:=fun xs S R=>arg1 xs fun x=>∃ ds,asQ S x = some ds/\R (.d (.tuple ds)) S
theorem zb0 {K:W.Frag}:RC (fun xs H Q=>∃ p ys,xs = [.ref p]/\((SqL K H p ys/\∀ l,H l = none->Q (.ref l) (upd H l (.tup ys)))\/(SqT K H p ys/\Q (.ref p) H))) zcP:=fun h o H S xs vs R Q hs hx q c=>by
 obtain ⟨x,rfl,ds,hd,q1⟩:=zbE q
 obtain ⟨v,rfl,hx1⟩:=hxs1 hx
 obtain ⟨a,ws,rfl,ea,l⟩:=zhg hs hd hx1
 refine ⟨a,ws,rfl,ea.elim (fun z=>.inr ⟨.of z,?_⟩) (fun z=>.inl ⟨.of z,zk1 hs l c q1⟩)⟩
 have hh:HasX h o H (.d (.tuple ds)) (.ref a):=by
  unfold asQ at hd
  split at hd
  ·cases hd
   exact hx1
  ·obtain ⟨a',us,e1,e2,_⟩:=zbP (x:=.d (.list _)) hs rfl hx1
   cases e1
   rw [z] at e2
   cases e2
  ·rename_i k
   obtain ⟨a',us,e1,e2,_⟩:=zbP (x:=.l k) hs hd hx1
   cases e1
   rw [z] at e2
   cases e2
  ·cases hd
 exact c o H S _ _ Ex.refl hs hh q1
def zjJ:List XV->Sto->RX->Prop:=fun xs S R=>arg1 xs fun x=>∃ ds,asQ S x = some ds/\R (.d (.list ds)) S
def zhL:List XV->Sto->RX->Prop:=fun xs S R=>arg1 xs fun x=>∃ ds,asQ S x = some ds/\R (.l S.length) (S ++ [ds])
theorem zmL {K:W.Frag}:RC (fun xs H Q=>∃ p ys,xs = [.ref p]/\(SqL K H p ys\/SqT K H p ys)/\∀ l,H l = none->Q (.ref l) (upd H l (.lst ys))) zjJ:=fun h o H S xs vs R Q hs hx q c=>by
 obtain ⟨x,rfl,ds,hd,q1⟩:=zbE q
 obtain ⟨v,rfl,hx1⟩:=hxs1 hx
 obtain ⟨a,ws,rfl,ea,l⟩:=zhg hs hd hx1
 exact ⟨a,ws,rfl,ea.elim (fun z=>.inr (.of z)) (fun z=>.inl (.of z)),zjp hs l c q1⟩
theorem zl7 {K:W.Frag}:RC (fun xs H Q=>∃ p ys,xs = [.ref p]/\(SqL K H p ys\/SqT K H p ys)/\∀ l,H l = none->Q (.ref l) (upd H l (.lst ys))) zhL:=fun h o H S xs vs R Q hs hx q c=>by
 obtain ⟨x,rfl,ds,hd,q1⟩:=zbE q
 obtain ⟨v,rfl,hx1⟩:=hxs1 hx
 obtain ⟨a,ws,rfl,ea,l⟩:=zhg hs hd hx1
 exact ⟨a,ws,rfl,ea.elim (fun z=>.inr (.of z)) (fun z=>.inl (.of z)),zoC hs l c q1⟩
theorem zbK {H:Hp}:∀ {ns:List Int} {vs:List V},HasL H (ns.map PyData.int) vs->vs = ns.map V.int
 | [],vs,h=>zT.mp h
 | n :: ns,vs,h=>by
  obtain ⟨v,r,rfl,h1,h2⟩:=zO.mp h
  rw [zen.mp h1,zbK h2]
  rfl
def zsF:List XV->Sto->RX->Prop:=fun xs S R=>arg1 xs fun x=>∃ ds,asQ S x = some ds/\∃ ns,ds = ns.map PyData.int/\ns ≠ []/\∀ m,m ∈ ns->(∀ a,a ∈ ns->m <= a)->R (.d (.int m)) S
def zrD:List XV->Sto->RX->Prop:=fun xs S R=>arg1 xs fun x=>∃ ds,asQ S x = some ds/\∃ ns,ds = ns.map PyData.int/\ns ≠ []/\∀ m,m ∈ ns->(∀ a,a ∈ ns->a <= m)->R (.d (.int m)) S
theorem zrq {K:W.Frag}:RC (zsa K) zsF:=fun h o H S xs vs R Q hs hx q c=>by
 obtain ⟨x,rfl,ds,hd,ns,rfl,hn,q1⟩:=zbE q
 obtain ⟨v,rfl,hx1⟩:=hxs1 hx
 obtain ⟨a,ws,rfl,ea,l⟩:=zhg hs hd hx1
 rw [zbK l] at ea
 exact ⟨a,ns,rfl,ea.elim (fun z=>.inr (.of z)) (fun z=>.inl (.of z)),hn,fun m m1 m2=>c o H S _ _ Ex.refl hs (xI _) (q1 m m1 m2)⟩
theorem zos {K:W.Frag}:RC (zsE K) zrD:=fun h o H S xs vs R Q hs hx q c=>by
 obtain ⟨x,rfl,ds,hd,ns,rfl,hn,q1⟩:=zbE q
 obtain ⟨v,rfl,hx1⟩:=hxs1 hx
 obtain ⟨a,ws,rfl,ea,l⟩:=zhg hs hd hx1
 rw [zbK l] at ea
 exact ⟨a,ns,rfl,ea.elim (fun z=>.inr (.of z)) (fun z=>.inl (.of z)),hn,fun m m1 m2=>c o H S _ _ Ex.refl hs (xI _) (q1 m m1 m2)⟩
def dBM (rd:XV->List XV->Sto->RX->Prop) (e:DE) (a:DA):DE:=fun δ S R=>e δ S fun x S1=>∃ k,x = .l k/\k < S1.length/\a δ S1 fun xs S2=>rd x xs S2 R
def zrR (rd:XV->List XV->Sto->RX->Prop) (e:DE):DE:=fun δ S R=>e δ S fun x S1=>∃ k,x = .l k/\k < S1.length/\rd x [] S1 R
def RM (r:V->List V->Hp->VK->Prop) (rd:XV->List XV->Sto->RX->Prop):Prop:=∀ (h o:List Addr) (H:Hp) (S:Sto) (x:XV) (v:V) (xs:List XV) (vs:List V) (R:RX) (Q:VK),RepS h o H S->HasX h o H x v->HasXs h o H xs vs->rd x xs S R->Cn h o H R Q->r v vs H Q
theorem zjI {K:W.Frag} {H:Hp} {a:Addr} {vs:List V} (e:H a = some (.lst vs)):tyV K "list" (.ref a) H:=.inl ⟨rfl,vs,.of e⟩
theorem zoi {h o:List Addr} {H:Hp} {S:Sto} {k:Nat} {v:V} (hs:RepS h o H S) (hk:k < S.length) (hx:HasX h o H (.l k) v):∃ a vs,v = .ref a/\H a = some (.lst vs):=by
 obtain ⟨a,e,rfl⟩:=hx
 obtain ⟨vs,e2,_⟩:=hs.cont k a _ e (List.getElem?_eq_getElem hk)
 exact ⟨a,vs,rfl,e2⟩
theorem zf5 {K:W.Frag} {r:V->List V->Hp->VK->Prop} {rd:XV->List XV->Sto->RX->Prop} {te:TE} {de:DE} {tl:TA} {dl:DA} (hr:RM r rd) (he':RE te de) (ha:RA tl dl):RE (tBM K "list" r te tl) (dBM rd de dl):=fun h o H δ σ S R Q he hs q c =>
 he' h o H δ σ S _ _ he hs q fun o1 H1 S1 x v e1 s1 x1 ⟨k,ek,hk,d1⟩=>by
  subst ek
  obtain ⟨a,ws,rfl,ea⟩:=zoi s1 hk x1
  exact ⟨zjI ea,ha h o1 H1 δ σ S1 _ _ (he.mono e1) s1 d1 fun o2 H2 S2 xs vs e2 s2 x2 d2=>hr h o2 H2 S2 (.l k) _ xs vs R Q s2 (x1.mono e2) x2 d2 (c.pre (e1.trans e2))⟩
theorem zp1 {K:W.Frag} {r:V->List V->Hp->VK->Prop} {rd:XV->List XV->Sto->RX->Prop} {te:TE} {de:DE} (hr:RM r rd) (he':RE te de):RE (zs1 K "list" r te) (zrR rd de):=fun h o H δ σ S R Q he hs q c =>
 he' h o H δ σ S _ _ he hs q fun o1 H1 S1 x v e1 s1 x1 ⟨k,ek,hk,d1⟩=>by
  subst ek
  obtain ⟨a,ws,rfl,ea⟩:=zoi s1 hk x1
  exact ⟨zjI ea,hr h o1 H1 S1 (.l k) _ [] [] R Q s1 x1 rfl d1 (c.pre e1)⟩
def zcg:XV->List XV->Sto->RX->Prop:=fun x xs S R=>∃ k,x = .l k/\∃ ds,S[k]? = some ds/\arg1 xs fun y=>asD y fun d=>ds.length < 1000/\R (.d .none) (S.set k (ds ++ [d]))
theorem zcf:RM zlo zcg:=fun h o H S x v xs vs R Q hs hx hxs q c=>by
 obtain ⟨k,rfl,ds,e,q1⟩:=q
 obtain ⟨y,rfl,q2⟩:=zbE q1
 obtain ⟨d,rfl,hl,q3⟩:=zfH q2
 obtain ⟨a,ea,rfl⟩:=hx
 obtain ⟨u,rfl,hu⟩:=hxs1 hxs
 obtain ⟨ws,ew,l⟩:=hs.cont k a ds ea e
 exact ⟨a,ws,u,rfl,rfl,ew,by rw [l.length]; exact small1000 (Nat.le_of_lt hl),c o _ _ (.d .none) _ (Ex.upd ea) (hs.upd ea (l.append (zO.mpr ⟨u,[],rfl,hu,zT.mpr rfl⟩))) xN q3⟩
def zf0:XV->List XV->Sto->RX->Prop:=fun x xs S R=>∃ k,x = .l k/\∃ ds,S[k]? = some ds/\xs = []/\R (.d .none) (S.set k ds.reverse)
theorem zko:RM zjZ zf0:=fun h o H S x v xs vs R Q hs hx hxs q c=>by
 obtain ⟨k,rfl,ds,e,rfl,q1⟩:=q
 obtain ⟨a,ea,rfl⟩:=hx
 obtain ⟨ws,ew,l⟩:=hs.cont k a ds ea e
 cases hxs
 exact ⟨a,ws,rfl,rfl,ew,c o _ _ (.d .none) _ (Ex.upd ea) (hs.upd ea l.rev) xN q1⟩
def zgo:XV->List XV->Sto->RX->Prop:=fun x xs S R=>∃ k,x = .l k/\∃ ds,S[k]? = some ds/\arg1 xs fun y=>∃ es,zlK S y = some es/\ds.length + es.length <= 1000/\R (.d .none) (S.set k (ds ++ es))
theorem ziz:RM zlG zgo:=fun h o H S x v xs vs R Q hs hx hxs q c=>by
 obtain ⟨k,rfl,ds,e,q1⟩:=q
 obtain ⟨y,rfl,es,ey,hl,q3⟩:=zbE q1
 obtain ⟨a,ea,rfl⟩:=hx
 obtain ⟨u,rfl,hu⟩:=hxs1 hxs
 obtain ⟨ws,ew,l⟩:=hs.cont k a ds ea e
 obtain ⟨b,zs,rfl,eb,lb⟩:=zbP hs ey hu
 exact ⟨a,b,ws,zs,rfl,rfl,ew,eb,by rw [l.length,lb.length]; exact Nat.le_of_lt (small1000 hl),c o _ _ (.d .none) _ (Ex.upd ea) (hs.upd ea (l.append lb)) xN q3⟩
def ret0 (S:Sto) (R:RX):RX:=fun y S'=>match y,S' with
 | .d d,[]=>R (.d d) S
 | .l 0,[ds]=>R (.l S.length) (S ++ [ds])
 | _,_=>False
def zrO (k:Nat) (S:Sto) (R:RX):RX:=fun y S'=>match y,S' with
 | .d d,[p]=>R (.d d) (S.set k p)
 | .l 1,[p,ds]=>R (.l S.length) (S.set k p ++ [ds])
 | _,_=>False
section
variable {h o:List Addr} {H:Hp} {S:Sto} {R:RX} {Q:VK}
theorem zjj {h o h' o':List Addr} {H:Hp} (e:∀ b,(b ∈ h'\/b ∈ o') ↔ (b ∈ h\/b ∈ o)):vx h' o' H = vx h o H:=by
 funext b
 have iff:∀ u,vx h' o' H b = some u ↔ vx h o H b = some u:=fun u=>by
  rw [zay,zay]
  have:=e b
  constructor
  ·rintro ⟨a1,a2,a3⟩
   exact ⟨fun m=>(this.mpr (.inl m)).elim a1 a2,fun m=>(this.mpr (.inr m)).elim a1 a2,a3⟩
  ·rintro ⟨a1,a2,a3⟩
   exact ⟨fun m=>(this.mp (.inl m)).elim a1 a2,fun m=>(this.mp (.inr m)).elim a1 a2,a3⟩
 cases e1:vx h' o' H b with
 | some u=>exact ((iff u).mp e1).symm
 | none =>
  cases e2:vx h o H b with
  | none=>rfl
  | some u=>rw [(iff u).mpr e2] at e1; cases e1
theorem rep0 (hs:RepS h o H S):RepS (h ++ o) [] H [] where
 len:=rfl
 nd:=List.nodup_nil
 dis:=fun a ha=>by cases ha
 hal:=fun b hb=>(List.mem_append.mp hb).elim (hs.hal b) (hs.oam b)
 cont:=fun k a ds e=>by simp at e
theorem hx0 {d:PyData} {v:V} (hx:HasX h o H (.d d) v):HasX (h ++ o) [] H (.d d) v:=by
 show Has (vx (h ++ o) [] H) d v
 rw [zjj (h:=h) (o:=o) fun b=>by simp]
 exact hx
theorem hx0' {d:PyData} {v:V} (hx:HasX (h ++ o) [] H (.d d) v):HasX h o H (.d d) v:=by
 show Has (vx h o H) d v
 rw [<- zjj (h':=h ++ o) (o':=[]) (h:=h) (o:=o) fun b=>by simp]
 exact hx
theorem cn0 (hs:RepS h o H S) (c:Cn h o H R Q):Cn (h ++ o) [] H (ret0 S R) Q:=fun o' H' S' y v e s' hy q=>by
 have sm:Same H (vx [] o' H'):=fun b u eb=>by
  obtain ⟨a1,a2⟩:=e.kp b u (by simp) eb
  exact zay.mpr ⟨by simp,a1,a2⟩
 have sH:Same H H':=fun b u eb=>(zay.mp (sm b u eb)).2.2
 unfold ret0 at q
 split at q
 ·have e0:o' = []:=List.eq_nil_of_length_eq_zero s'.len.symm
  subst e0
  exact c o H' S _ v (Ex.of_same sH) (hs.same sH) (hx0' hy) q
 ·rename_i ds
  obtain ⟨a,rfl⟩:∃ a,o' = [a]:=List.length_eq_one_iff.mp s'.len.symm
  obtain ⟨a',ea,rfl⟩:=hy
  cases ea
  obtain ⟨vs,ev,l⟩:=s'.cont 0 a ds rfl rfl
  have na:a ∉ h ++ o:=s'.dis a (by simp)
  have hn:H a = none:=by
   cases eh:H a with
   | none=>rfl
   | some u=>exact absurd (e.kp a u (by simp) eh).1 (by simp)
  have e2:Ex o H (o ++ [a]) H':=⟨⟨[a],rfl⟩,fun b u hb eb=>by
   obtain ⟨a1,a2⟩:=e.kp b u (by simp) eb
   exact ⟨by simp only [List.mem_append,not_or]; exact ⟨hb,a1⟩,a2⟩⟩
  have ev':vx (h ++ o) [a] H' = vx h (o ++ [a]) H':=zjj fun b=>by simp [or_assoc]
  rw [ev'] at l
  refine c (o ++ [a]) H' (S ++ [ds]) (.l S.length) _ e2 ⟨by simp [hs.len],zc8 hs.nd fun m=>na (List.mem_append_right _ m),fun b hb=>?_,fun b hb=>?_,fun k b es q1 q2=>?_⟩ ⟨a,by rw [hs.len,List.getElem?_concat_length],rfl⟩ q
  ·rcases List.mem_append.mp hb with hb | hb
   ·exact hs.dis b hb
   ·rw [List.mem_singleton.mp hb]; exact fun m=>na (List.mem_append_left _ m)
  ·obtain ⟨u,eb⟩:=hs.hal b hb
   exact ⟨u,sH b _ eb⟩
  ·by_cases hk:k < o.length
   ·rw [List.getElem?_append_left hk] at q1
    rw [List.getElem?_append_left (by rw [hs.len]; exact hk)] at q2
    obtain ⟨ws,e3,l3⟩:=hs.cont k b es q1 q2
    exact ⟨ws,sH _ _ e3,l3.mono e2.vx⟩
   ·have hk':k = o.length:=by
     obtain ⟨q,_⟩:=List.getElem?_eq_some_iff.mp q1
     rw [List.length_append,List.length_singleton] at q
     omega
    subst hk'
    rw [List.getElem?_concat_length] at q1
    rw [<- hs.len,List.getElem?_concat_length] at q2
    cases q1
    cases q2
    exact ⟨vs,ev,l⟩
 ·exact q.elim
theorem zr0 {k:Nat} {a:Addr} {p:List PyData} (hs:RepS h o H S) (ea:o[k]? = some a) (ep:S[k]? = some p):RepS (h ++ o.filter (fun b=>b ≠ a)) [a] H [p] where
 len:=rfl
 nd:=by simp
 dis:=fun b hb=>by
  rw [List.mem_singleton.mp hb]
  intro m
  rcases List.mem_append.mp m with m | m
  ·exact hs.dis a (List.mem_of_getElem? ea) m
  ·have:=(List.mem_filter.mp m).2
   simp at this
 hal:=fun b hb=>(List.mem_append.mp hb).elim (hs.hal b) fun m=>hs.oam b (List.mem_filter.mp m).1
 cont:=fun j b ds e1 e2=>by
  cases j with
  | succ j=>simp at e1
  | zero =>
   cases e1
   cases e2
   obtain ⟨vs,e3,l⟩:=hs.cont k a p ea ep
   refine ⟨vs,e3,?_⟩
   rw [zjj (h:=h) (o:=o) (mem_pen ea)]
   exact l
where
 mem_pen {h o:List Addr} {k:Nat} {a:Addr} (ea:o[k]? = some a) (b:Addr):(b ∈ h ++ o.filter (fun b=>b ≠ a)\/b ∈ [a]) ↔ (b ∈ h\/b ∈ o):=by
  have ma:=List.mem_of_getElem? ea
  by_cases e:b = a
  ·subst e
   simp [ma]
  ·simp [e]
theorem hxP {k:Nat} {a:Addr} {d:PyData} {v:V} (ea:o[k]? = some a) (hx:HasX h o H (.d d) v):HasX (h ++ o.filter (fun b=>b ≠ a)) [a] H (.d d) v:=by
 show Has (vx _ _ H) d v
 rw [zjj (h:=h) (o:=o) (zr0.mem_pen ea)]
 exact hx
theorem cnP {k:Nat} {a:Addr} {p:List PyData} (hs:RepS h o H S) (ea:o[k]? = some a) (ep:S[k]? = some p) (c:Cn h o H R Q):Cn (h ++ o.filter (fun b=>b ≠ a)) [a] H (zrO k S R) Q:=fun o' H' S' y v e s' hy q=>by
 have ma:=List.mem_of_getElem? ea
 have hk:k < o.length:=(List.getElem?_eq_some_iff.mp ea).1
 unfold zrO at q
 split at q
 ·rename_i d p'
  obtain ⟨r,rfl⟩:=e.pre
  have er:r = []:=by
   have:=s'.len
   simp at this
   exact this
  subst er
  have ex:Ex o H o H':=⟨⟨[],by simp⟩,fun b u hb eb=>⟨hb,(e.kp b u (fun m=>hb (by rw [List.mem_singleton.mp m]; exact ma)) eb).2⟩⟩
  obtain ⟨vs,ev,l⟩:=s'.cont 0 a p' rfl rfl
  have ev':vx (h ++ o.filter (fun b=>b ≠ a)) ([a] ++ []) H' = vx h o H':=zjj (zr0.mem_pen ea)
  rw [ev'] at l
  refine c o H' (S.set k p') (.d d) v ex ⟨by simp [hs.len],hs.nd,hs.dis,fun b hb=>?_,fun j b es q1 q2=>?_⟩ (by
   have hy':Has (vx (h ++ o.filter (fun b=>b ≠ a)) ([a] ++ []) H') d v:=hy
   rw [ev'] at hy'
   exact hy') q
  ·obtain ⟨u,eb⟩:=hs.hal b hb
   exact ⟨u,(e.kp b _ (fun m=>hs.dis a ma (by rw [<- List.mem_singleton.mp m]; exact hb)) eb).2⟩
  ·by_cases hj:j = k
   ·subst hj
    rw [q1] at ea
    cases ea
    rw [List.getElem?_set_self (by rw [hs.len]; exact hk)] at q2
    cases q2
    exact ⟨vs,ev,l⟩
   ·rw [List.getElem?_set_ne (Ne.symm hj)] at q2
    obtain ⟨ws,e3,l3⟩:=hs.cont j b es q1 q2
    have ne:b ≠ a:=fun z=>hj (zfc hs.nd q1 (z ▸ ea))
    exact ⟨ws,(e.kp b _ (by simp [ne]) e3).2,l3.mono ex.vx⟩
 ·rename_i p' ds
  obtain ⟨r,rfl⟩:=e.pre
  obtain ⟨a2,rfl⟩:∃ a2,r = [a2]:=by
   have:=s'.len
   simp at this
   exact List.length_eq_one_iff.mp this
  obtain ⟨b2,eb2,rfl⟩:=hy
  cases eb2
  obtain ⟨vs,ev,l⟩:=s'.cont 0 a p' rfl rfl
  obtain ⟨vs2,ev2,l2⟩:=s'.cont 1 a2 ds rfl rfl
  have n2:a2 ∉ h ++ o.filter (fun b=>b ≠ a):=s'.dis a2 (by simp)
  have n3:a ≠ a2:=by
   have:=s'.nd
   simp at this
   exact this
  have n4:a2 ∉ o:=fun m=>n2 (List.mem_append_right _ (List.mem_filter.mpr ⟨m,by simp [Ne.symm n3]⟩))
  have ex:Ex o H (o ++ [a2]) H':=⟨⟨[a2],rfl⟩,fun b u hb eb=>by
   obtain ⟨z1,z2⟩:=e.kp b u (fun m=>hb (by rw [List.mem_singleton.mp m]; exact ma)) eb
   refine ⟨?_,z2⟩
   simp only [List.mem_append,not_or]
   exact ⟨hb,fun m=>z1 (by simp at m ⊢; exact .inr m)⟩⟩
  have ev':vx (h ++ o.filter (fun b=>b ≠ a)) ([a] ++ [a2]) H' = vx h (o ++ [a2]) H':=zjj fun b=>by
   have:=zr0.mem_pen (h:=h) ea b
   simp only [List.mem_append] at this ⊢
   rw [<- or_assoc,this,or_assoc]
  rw [ev'] at l l2
  refine c (o ++ [a2]) H' (S.set k p' ++ [ds]) (.l S.length) _ ex ⟨by simp [hs.len],zc8 hs.nd n4,fun b hb=>?_,fun b hb=>?_,fun j b es q1 q2=>?_⟩ ⟨a2,by rw [hs.len,List.getElem?_concat_length],rfl⟩ q
  ·rcases List.mem_append.mp hb with hb | hb
   ·exact hs.dis b hb
   ·rw [List.mem_singleton.mp hb]; exact fun m=>n2 (List.mem_append_left _ m)
  ·obtain ⟨u,eb⟩:=hs.hal b hb
   exact ⟨u,(e.kp b _ (fun m=>hs.dis a ma (by rw [<- List.mem_singleton.mp m]; exact hb)) eb).2⟩
  ·by_cases hjo:j < o.length
   ·rw [List.getElem?_append_left hjo] at q1
    rw [List.getElem?_append_left (by rw [List.length_set,hs.len]; exact hjo)] at q2
    by_cases hj:j = k
    ·subst hj
     rw [q1] at ea
     cases ea
     rw [List.getElem?_set_self (by rw [hs.len]; exact hk)] at q2
     cases q2
     exact ⟨vs,ev,l⟩
    ·rw [List.getElem?_set_ne (Ne.symm hj)] at q2
     obtain ⟨ws,e3,l3⟩:=hs.cont j b es q1 q2
     have ne:b ≠ a:=fun z=>hj (zfc hs.nd q1 (z ▸ ea))
     exact ⟨ws,(e.kp b _ (by simp [ne]) e3).2,l3.mono ex.vx⟩
   ·have hk':j = o.length:=by
     obtain ⟨q,_⟩:=List.getElem?_eq_some_iff.mp q1
     rw [List.length_append,List.length_singleton] at q
     omega
    subst hk'
    rw [List.getElem?_concat_length] at q1
    rw [<- hs.len,<- List.length_set (i:=k) (a:=p'),List.getElem?_concat_length] at q2
    cases q1
    cases q2
    exact ⟨vs2,ev2,l2⟩
 ·exact q.elim
end
structure DEnds where
 nx:XE->Sto->Prop
 rt:RX
 bk:XE->Sto->Prop:=fun _ _=>False
 ct:XE->Sto->Prop:=fun _ _=>False
abbrev DS:=DEnds->XE->Sto->Prop
abbrev DG:=XV->XE->Sto->(XE->Sto->Prop)->Prop
abbrev DGs:=List PyData->XE->Sto->(XE->Sto->Prop)->Prop
def Nx (h o:List Addr) (H:Hp) (N:XE->Sto->Prop) (M:St->Hp->Prop):Prop:=∀ o' H' δ' S' σ',Ex o H o' H'->RepE h o' H' δ' σ'->RepS h o' H' S'->N δ' S'->M σ' H'
theorem Nx.pre {h o o':List Addr} {H H':Hp} {N:XE->Sto->Prop} {M:St->Hp->Prop} (c:Nx h o H N M) (e:Ex o H o' H'):Nx h o' H' N M:=fun o2 H2 δ2 S2 σ2 e2=>c o2 H2 δ2 S2 σ2 (e.trans e2)
structure EOk (h o:List Addr) (H:Hp) (E:DEnds) (D:Ends):Prop where
 nx:Nx h o H E.nx D.nx
 rt:Cn h o H E.rt D.rt
 bk:Nx h o H E.bk D.bk
 ct:Nx h o H E.ct D.ct
theorem EOk.pre {h o o':List Addr} {H H':Hp} {E:DEnds} {D:Ends} (c:EOk h o H E D) (e:Ex o H o' H'):EOk h o' H' E D:=⟨c.nx.pre e,c.rt.pre e,c.bk.pre e,c.ct.pre e⟩
def RS (t:TS) (dt:DS):Prop:=∀ (h o:List Addr) (H:Hp) (δ:XE) (σ:St) (S:Sto) (E:DEnds) (D:Ends),RepE h o H δ σ->RepS h o H S->dt E δ S->EOk h o H E D->t D σ H
def RG (t:TG) (dt:DG):Prop:=∀ (h o:List Addr) (H:Hp) (δ:XE) (σ:St) (S:Sto) (x:XV) (v:V) (N:XE->Sto->Prop) (M:St->Hp->Prop),RepE h o H δ σ->RepS h o H S->HasX h o H x v->dt x δ S N->Nx h o H N M->t v σ H M
def RGs (t:TGs) (dt:DGs):Prop:=∀ (h o:List Addr) (H:Hp) (δ:XE) (σ:St) (S:Sto) (ds:List PyData) (vs:List V) (N:XE->Sto->Prop) (M:St->Hp->Prop),RepE h o H δ σ->RepS h o H S->HasL (vx h o H) ds vs->dt ds δ S N->Nx h o H N M->t vs σ H M
def zn (i:Nat):DG:=fun x δ S N=>N (δ.set i (some x)) S
def zdV:DGs:=fun ds δ S N=>ds = []/\N δ S
def hdD:List PyData->(PyData->List PyData->Prop)->Prop
 | d :: es,k=>k d es
 | [],_=>False
theorem zqU {ds:List PyData} {k:PyData->List PyData->Prop} (h:hdD ds k):∃ d es,ds = d :: es/\k d es:=by
 cases ds with
 | nil=>exact h.elim
 | cons d es=>exact ⟨d,es,rfl,h⟩
theorem zqO {d:PyData} {es:List PyData} {k:PyData->List PyData->Prop}:hdD (d :: es) k = k d es:=rfl
def zau (g:DG) (r:DGs):DGs:=fun ds δ S N=>hdD ds fun d es=>g (.d d) δ S fun δ' S'=>r es δ' S' N
def zdr (n:Nat) (r:DGs):DG:=fun x δ S N=>asT x fun ds=>ds.length = n/\r ds δ S N
def zks (a b:DE):DG:=fun x δ S N=>a δ S fun y S1=>b δ S1 fun z S2=>asD x fun d=>∃ k,y = .l k/\∃ ds,S2[k]? = some ds/\asI z fun i=>∃ j,ixN ds.length i = some j/\N δ (S2.set k (ds.set j d))
theorem zk {i:Nat}:RG (zi7 i) (zn i):=fun h o H δ σ S x v N M he hs hx q c=>c o H _ S _ Ex.refl (he.set hx) hs q
theorem zb6:RGs zsR zdV:=fun h o H δ σ S ds vs N M he hs l ⟨e,q⟩ c=>by
 subst e
 exact ⟨zT.mp l,c o H δ S σ Ex.refl he hs q⟩
theorem zX {t:TG} {u:TGs} {g:DG} {r:DGs} (h1:RG t g) (h2:RGs u r):RGs (zqQ t u) (zau g r):=fun h o H δ σ S ds vs N M he hs l q0 c=>by
 obtain ⟨d,es,rfl,q⟩:=zqU q0
 obtain ⟨v,ws,rfl,hv,l⟩:=zO.mp l
 exact ⟨v,ws,rfl,h1 h o H δ σ S (.d d) v _ _ he hs hv q fun o1 H1 δ1 S1 σ1 e1 he1 hs1 q1=>h2 h o1 H1 δ1 σ1 S1 es ws N M he1 hs1 (l.mono e1.vx) q1 (c.pre e1)⟩
theorem zdg {K:W.Frag} {n:Nat} {t:TGs} {r:DGs} (h1:RGs t r):RG (zs3 K n t) (zdr n r):=fun h o H δ σ S x v N M he hs hx q c=>by
 replace q:=zeL q
 obtain ⟨ds,rfl,hn,q⟩:=q
 obtain ⟨a,vs,rfl,ea,l⟩:=zdA hx
 exact ⟨a,vs,rfl,.of ea,by rw [l.length]; exact hn,h1 h o H δ σ S ds vs N M he hs l q c⟩
theorem HasL.setAt {H:Hp}:∀ {ds:List PyData} {vs:List V} {j:Nat} {d:PyData} {v:V},HasL H ds vs->Has H d v->HasL H (ds.set j d) (vs.set j v)
 | [],vs,j,d,v,l,_=>by rw [zT.mp l]; exact zT.mpr rfl
 | c :: ds,vs,0,d,v,l,q=>by
  obtain ⟨u,r,rfl,_,l⟩:=zO.mp l
  exact zO.mpr ⟨v,r,rfl,q,l⟩
 | c :: ds,vs,j + 1,d,v,l,q=>by
  obtain ⟨u,r,rfl,hu,l⟩:=zO.mp l
  exact zO.mpr ⟨u,r.set j v,rfl,hu,HasL.setAt l q⟩
theorem zkT {ta tb:TE} {da db:DE} (ha:RE ta da) (hb:RE tb db):RG (zsM ta tb zqh) (zks da db):=fun h o H δ σ S x v N M he hs hx q c =>
 ha h o H δ σ S _ _ he hs q fun o1 H1 S1 y u e1 s1 y1 d1=>hb h o1 H1 δ σ S1 _ _ (he.mono e1) s1 d1 fun o2 H2 S2 z w e2 s2 z2 d0=>by
  obtain ⟨d,rfl,k,rfl,ds,es,d2⟩:=zfH d0
  replace d2:=zbv d2
  obtain ⟨i,rfl,j,ej,d2⟩:=d2
  obtain ⟨a,ea,rfl⟩:=y1.mono e2
  obtain ⟨ws,ew,l⟩:=s2.cont k a ds ea es
  refine ⟨a,ws,i,j,rfl,zbr z2,ew,by rw [l.length]; exact ej,?_⟩
  exact c o2 _ δ _ σ ((e1.trans e2).trans (Ex.upd ea)) (((he.mono e1).mono e2).mono (Ex.upd ea)) (s2.upd ea (l.setAt (hx.mono (e1.trans e2)))) d2
def za0:DS:=fun E δ S=>E.nx δ S
def zac (t u:DS):DS:=fun E δ S=>t { E with nx:=u E } δ S
def zaC (e:DE) (g:DG):DS:=fun E δ S=>e δ S fun x S1=>g x δ S1 E.nx
def zej (e:DE):DS:=fun E δ S=>e δ S fun _ S1=>E.nx δ S1
def zbe (e:DE):DS:=fun E δ S=>e δ S E.rt
def zdK (c:DT) (t u:DS):DS:=fun E δ S=>c δ S fun b S1=>if b = true then t E δ S1 else u E δ S1
section
variable {t u:TS} {dt du:DS} {te:TE} {de:DE}
theorem zaa:RS zoL za0:=fun h o H δ σ S E D he hs q c=>c.nx o H δ S σ Ex.refl he hs q
theorem zu (ht:RS t dt) (hu:RS u du):RS (zf1 t u) (zac dt du):=fun h o H δ σ S E D he hs q c =>
 ht h o H δ σ S _ _ he hs q ⟨fun o1 H1 δ1 S1 σ1 e1 he1 hs1 q1=>hu h o1 H1 δ1 σ1 S1 E D he1 hs1 q1 (c.pre e1),c.rt,c.bk,c.ct⟩
theorem zC {g:TG} {dg:DG} (he':RE te de) (hg:RG g dg):RS (zrp te g) (zaC de dg):=fun h o H δ σ S E D he hs q c =>
 he' h o H δ σ S _ _ he hs q fun o1 H1 S1 x v e1 s1 x1 d1=>hg h o1 H1 δ σ S1 x v _ _ (he.mono e1) s1 x1 d1 (c.nx.pre e1)
theorem zcW (he':RE te de):RS (zrg te) (zej de):=fun h o H δ σ S E D he hs q c =>
 he' h o H δ σ S _ _ he hs q fun o1 H1 S1 x v e1 s1 x1 d1=>c.nx o1 H1 δ S1 σ e1 (he.mono e1) s1 d1
theorem zJ (he':RE te de):RS (zr6 te) (zbe de):=fun h o H δ σ S E D he hs q c=>he' h o H δ σ S _ _ he hs q c.rt
theorem zbu {tc:TT} {dc:DT} (hc:RT tc dc) (ht:RS t dt) (hu:RS u du):RS (zrT tc t u) (zdK dc dt du):=fun h o H δ σ S E D he hs q c =>
 hc h o H δ σ S _ _ he hs q fun o1 H1 S1 b e1 s1 d1=>by
  cases b with
  | true=>exact zmr (ht h o1 H1 δ σ S1 E D (he.mono e1) s1 (by simpa using d1) (c.pre e1))
  | false=>exact zmq (hu h o1 H1 δ σ S1 E D (he.mono e1) s1 (by simpa using d1) (c.pre e1))
def frz (n:Nat) (ds:List PyData):Option XV->Option XV
 | some (.l k)=>if k = n then some (.d (.list ds)) else some (.l k)
 | y=>y
end
abbrev DI:=XE->Sto->(List PyData->Sto->Prop)->Prop
structure WalkX (h o:List Addr) (H:Hp) (J:It) (ds:List PyData):Prop where
 stop:∀ (i:Nat) o2 H2,ExH h o H o2 H2->ds.length <= i->J.stop i H2
 go:∀ (i:Nat) d o2 H2,ExH h o H o2 H2->ds[i]? = some d->J.go i H2
 yld:∀ (i:Nat) d o2 H2 x H3 S2,ExH h o H o2 H2->RepS h o2 H2 S2->ds[i]? = some d->J.yld i H2 x H3->Same H2 H3/\Has (vx h o2 H3) d x
def RI (w:TI) (di:DI):Prop:=∀ (h o:List Addr) (H:Hp) (δ:XE) (σ:St) (S:Sto) (R:List PyData->Sto->Prop) (Q:It->Hp->Prop),RepE h o H δ σ->RepS h o H S->di δ S R ->
 (∀ o' H' S' ds J,Ex o H o' H'->RepS h o' H' S'->WalkX h o' H' J ds->R ds S'->Q J H')->w σ H Q
theorem ziJ {h o:List Addr} {H:Hp} {lo:Int} {n:Nat}:WalkX h o H (Itr lo n) (zfQ lo n) where
 stop:=fun i _ _ _ hi=>by rw [zam] at hi; exact hi
 go:=fun i d _ _ _ hi=>(zbB hi).1
 yld:=fun i d o2 H2 x H3 S2 _ _ hi y=>by
  obtain ⟨e,ex⟩:=y
  subst e ex
  rw [(zbB hi).2]
  exact ⟨Same.refl _,zen.mpr rfl⟩
def zki (g:DG) (b:DS):List PyData->DS
 | [],E,δ,S=>E.nx δ S
 | d :: ds,E,δ,S=>g (.d d) δ S fun δ1 S1=>b { nx:=fun δ2 S2=>zki g b ds E δ2 S2,ct:=fun δ2 S2=>zki g b ds E δ2 S2,bk:=E.nx,rt:=E.rt } δ1 S1
def zff (i:DI) (g:DG) (b:DS):DS:=fun E δ S=>i δ S fun ds S1=>zki g b ds E δ S1
theorem zbH {wi:TI} {g:TG} {tb:TS} {di:DI} {dg:DG} {db:DS} (hi:RI wi di) (hg:RG g dg) (hb:RS tb db):RS (zpV wi g tb) (zff di dg db):=fun h o H δ σ S E D he hs q c =>
 hi h o H δ σ S _ _ he hs q fun o1 H1 S1 ds J e1 s1 wk d1=>by
  refine ⟨fun i m σ2 H2=>m = ds.length - i/\i <= ds.length/\∃ o2 δ2 S2,Ex o1 H1 o2 H2/\RepE h o2 H2 δ2 σ2/\RepS h o2 H2 S2/\zki dg db (ds.drop i) E δ2 S2,⟨ds.length,by simp,Nat.zero_le _,o1,δ,S1,Ex.refl,he.mono e1,s1,d1⟩,?_⟩
  rintro i m σ2 H2 ⟨rfl,hi,o2,δ2,S2,e2,he2,hs2,d2⟩
  by_cases hlt:i < ds.length
  ·have ed:ds[i]? = some ds[i]:=List.getElem?_eq_getElem hlt
   rw [List.drop_eq_getElem_cons hlt] at d2
   refine .inr ⟨wk.go i _ o2 H2 e2.hid ed,fun σ3 H3=>∃ o3 δ3 S3,Ex o1 H1 o3 H3/\RepE h o3 H3 δ3 σ3/\RepS h o3 H3 S3/\zki dg db (ds.drop (i + 1)) E δ3 S3,fun σ3 H3 n=>⟨ds.length - (i + 1),by omega,rfl,hlt,n⟩,fun x H3 y=>?_⟩
   obtain ⟨s3,hx⟩:=wk.yld i _ o2 H2 x H3 S2 e2.hid hs2 ed y
   have e23:Ex o2 H2 o2 H3:=Ex.of_same s3
   refine hg h o2 H3 δ2 σ2 S2 (.d ds[i]) x _ _ (he2.mono e23) (hs2.same s3) hx d2 fun o4 H4 δ4 S4 σ4 e4 he4 hs4 d4=>?_
   have e14:Ex o1 H1 o4 H4:=(e2.trans e23).trans e4
   have ce:=(c.pre e1).pre e14
   exact hb h o4 H4 δ4 σ4 S4 _ _ he4 hs4 d4 ⟨fun o5 H5 δ5 S5 σ5 e5 he5 hs5 d5=>⟨o5,δ5,S5,e14.trans e5,he5,hs5,d5⟩,ce.rt,ce.nx,fun o5 H5 δ5 S5 σ5 e5 he5 hs5 d5=>⟨o5,δ5,S5,e14.trans e5,he5,hs5,d5⟩⟩
  ·have ei:i = ds.length:=by omega
   subst ei
   rw [List.drop_length] at d2
   exact .inl ⟨wk.stop _ o2 H2 e2.hid (Nat.le_refl _),c.nx o2 H2 δ2 S2 σ2 (e1.trans e2) he2 hs2 d2⟩
def zaN:DT:=fun _ S R=>R true S
theorem zaz:RT zqR zaN:=fun h o H δ σ S R Q he hs q c=>c o H S true Ex.refl hs q
def zfq (n:Nat) (g:DG) (tt:DT) (te:DE) (fin:Sto->Prop):List PyData->XE->Sto->Prop
 | [],_,S=>fin S
 | d :: ds,τ,S=>g (.d d) τ S fun τ1 S1=>tt τ1 S1 fun b S2=>if b = true then te τ1 S2 fun x S3=>asD x fun e=>∃ acc,S3[n]? = some acc/\acc.length < 1000/\zfq n g tt te fin ds τ1 (S3.set n (acc ++ [e])) else zfq n g tt te fin ds τ1 S2
def zfK (caps:List (Option Nat)) (i:DI) (g:DG) (tt:DT) (te:DE):DE:=fun δ S R=>i δ S fun ds S1=>zfq S1.length g tt te (fun S2=>R (.l S1.length) S2) ds (zmJ caps δ) (S1 ++ [[]])
def zcO (caps:List (Option Nat)) (i:DI) (g:DG) (tt:DT) (te:DE):DE:=fun δ S R=>i δ S fun ds S1=>zfq S1.length g tt te (fun S2=>∃ S0 acc,S2 = S0 ++ [acc]/\S0.length = S1.length/\R (.d (.list acc)) S0) ds (zmJ caps δ) (S1 ++ [[]])
theorem RepS.pop {h o r:List Addr} {H:Hp} {S0 T:Sto} (hs:RepS h (o ++ r) H (S0 ++ T)) (hl:S0.length = o.length):RepS h o H S0 where
 len:=hl
 nd:=(List.nodup_append.mp hs.nd).1
 dis:=fun a ha=>hs.dis a (List.mem_append_left _ ha)
 hal:=hs.hal
 cont:=fun k a ds e1 e2=>by
  obtain ⟨vs,e3,l⟩:=hs.cont k a ds (zev e1) (zev e2)
  exact ⟨vs,e3,l.mono fun b u e=>by
   obtain ⟨z1,z2,z3⟩:=zay.mp e
   exact zay.mpr ⟨z1,fun m=>z2 (List.mem_append_left _ m),z3⟩⟩
theorem zfD {h o r:List Addr} {H:Hp}:Same (vx h (o ++ r) H) (vx h o H):=fun b u e=>by
 obtain ⟨z1,z2,z3⟩:=zay.mp e
 exact zay.mpr ⟨z1,fun m=>z2 (List.mem_append_left _ m),z3⟩
theorem Ex.pop {o o' r:List Addr} {H H':Hp} (e:Ex o H (o ++ r) H'):Ex o H o H':=⟨⟨[],by simp⟩,fun b u hb eb=>⟨hb,(e.kp b u hb eb).2⟩⟩
theorem zik {caps:List (Option Nat)} {wi:TI} {g:TG} {tt:TT} {te:TE} {di:DI} {dg:DG} {dtt:DT} {dte:DE} (hi:RI wi di) (hg:RG g dg) (ht:RT tt dtt) (he':RE te dte)
  {h o:List Addr} {H:Hp} {δ:XE} {σ:St} {S:Sto} {Q:VK} {fin:Nat->Sto->Prop} (he:RepE h o H δ σ) (hs:RepS h o H S) (q:di δ S fun ds S1=>zfq S1.length dg dtt dte (fin S1.length) ds (zmJ caps δ) (S1 ++ [[]]))
  (c:∀ o1 H1 D o2 H2 S2,Ex o H o1 H1->H1 D = none->Ex (o1 ++ [D]) (upd H1 D (.lst [])) o2 H2->RepS h o2 H2 S2->fin o1.length S2->Q (.ref D) H2):zjn caps wi g tt te σ H Q:=by
 refine hi h o H δ σ S _ _ he hs q fun o1 H1 S1 ds J e1 s1 wk d1 D hD=>?_
 have eN:Ex o1 H1 (o1 ++ [D]) (upd H1 D (.lst [])):=Ex.new s1 hD
 have sN:RepS h (o1 ++ [D]) (upd H1 D (.lst [])) (S1 ++ [[]]):=s1.new hD (zT.mpr rfl)
 have hn:S1.length = o1.length:=s1.len
 refine ⟨fun i m τ H2=>m = ds.length - i/\i <= ds.length/\∃ o2 δ2 S2,Ex (o1 ++ [D]) (upd H1 D (.lst [])) o2 H2/\RepE h o2 H2 δ2 τ/\RepS h o2 H2 S2/\zfq S1.length dg dtt dte (fin S1.length) (ds.drop i) δ2 S2,⟨ds.length,by simp,Nat.zero_le _,_,_,_,Ex.refl,((he.mono e1).mono eN).tau,sN,d1⟩,?_⟩
 rintro i m τ H2 ⟨rfl,hi,o2,δ2,S2,e2,he2,hs2,d2⟩
 by_cases hlt:i < ds.length
 ·have ed:ds[i]? = some ds[i]:=List.getElem?_eq_getElem hlt
  rw [List.drop_eq_getElem_cons hlt] at d2
  refine .inr ⟨wk.go i _ o2 H2 (eN.trans e2).hid ed,fun x H3 y=>?_⟩
  obtain ⟨s3,hx⟩:=wk.yld i _ o2 H2 x H3 S2 (eN.trans e2).hid hs2 ed y
  have e23:Ex o2 H2 o2 H3:=Ex.of_same s3
  refine hg h o2 H3 δ2 τ S2 (.d ds[i]) x _ _ (he2.mono e23) (hs2.same s3) hx d2 fun o4 H4 δ4 S4 τ4 e4 he4 hs4 d4=>?_
  refine ht h o4 H4 δ4 τ4 S4 _ _ he4 hs4 d4 fun o5 H5 S5 b e5 s5 d5=>?_
  have e15:=((e2.trans e23).trans e4).trans e5
  cases b with
  | false=>exact zmq ⟨ds.length - (i + 1),by omega,rfl,hlt,o5,δ4,S5,e15,he4.mono e5,s5,by simpa using d5⟩
  | true =>
   refine zmr (he' h o5 H5 δ4 τ4 S5 _ _ (he4.mono e5) s5 (by simpa using d5) fun o6 H6 S6 z v e6 s6 z6 d6=>?_)
   replace d6:=zfH d6
   obtain ⟨e,rfl,acc,ea,hl,d6⟩:=d6
   have e16:=e15.trans e6
   have eD:o6[S1.length]? = some D:=by
    obtain ⟨r,rfl⟩:=e16.pre
    rw [hn]
    exact zev (by rw [List.getElem?_concat_length])
   obtain ⟨vs,ev,l⟩:=s6.cont _ D acc eD ea
   refine ⟨vs,ev,by rw [l.length]; exact small1000 (Nat.le_of_lt hl),ds.length - (i + 1),by omega,rfl,hlt,o6,δ4,_,e16.trans (Ex.upd eD),((he4.mono e5).mono e6).mono (Ex.upd eD),s6.upd eD (l.append (zO.mpr ⟨v,[],rfl,z6,zT.mpr rfl⟩)),d6⟩
 ·have ei:i = ds.length:=by omega
  subst ei
  rw [List.drop_length] at d2
  exact .inl ⟨wk.stop _ o2 H2 (eN.trans e2).hid (Nat.le_refl _),c o1 H1 D o2 H2 S2 e1 hD e2 hs2 (hn ▸ d2)⟩
theorem zfa {caps:List (Option Nat)} {wi:TI} {g:TG} {tt:TT} {te:TE} {di:DI} {dg:DG} {dtt:DT} {dte:DE} (hi:RI wi di) (hg:RG g dg) (ht:RT tt dtt) (he':RE te dte):RE (zjn caps wi g tt te) (zfK caps di dg dtt dte):=fun h o H δ σ S R Q he hs q c=>by
 refine zik (fin:=fun n S2=>R (.l n) S2) hi hg ht he' he hs q fun o1 H1 D o2 H2 S2 e1 hD e2 s2 f=>?_
 have eN:Ex o1 H1 (o1 ++ [D]) (upd H1 D (.lst [])):=⟨⟨[D],rfl⟩,fun b w hb e=>by
  have ne:b ≠ D:=zan e hD
  exact ⟨by simp [hb,ne],by rw [zae ne]; exact e⟩⟩
 refine c o2 H2 S2 (.l o1.length) _ ((e1.trans eN).trans e2) s2 ⟨D,?_,rfl⟩ f
 obtain ⟨r,rfl⟩:=e2.pre
 exact zev (by rw [List.getElem?_concat_length])
theorem zbb {caps:List (Option Nat)} {wi:TI} {g:TG} {tt:TT} {te:TE} {di:DI} {dg:DG} {dtt:DT} {dte:DE} (hi:RI wi di) (hg:RG g dg) (ht:RT tt dtt) (he':RE te dte):RE (zjn caps wi g tt te) (zcO caps di dg dtt dte):=fun h o H δ σ S R Q he hs q c=>by
 refine zik (fin:=fun n S2=>∃ (S0:Sto) (acc:List PyData),S2 = S0 ++ [acc]/\S0.length = n/\R (.d (.list acc)) S0) hi hg ht he' he hs q fun o1 H1 D o2 H2 S2 e1 hD e2 s2 ⟨S0,acc,eS,hl,f⟩=>?_
 subst eS
 have eN:Ex o1 H1 (o1 ++ [D]) (upd H1 D (.lst [])):=⟨⟨[D],rfl⟩,fun b w hb e=>by
  have ne:b ≠ D:=zan e hD
  exact ⟨by simp [hb,ne],by rw [zae ne]; exact e⟩⟩
 have e12:=eN.trans e2
 obtain ⟨r,rfl⟩:=e2.pre
 have er:r = []:=by
  have:=s2.len
  simp only [List.length_append,List.length_singleton,hl] at this
  exact List.eq_nil_of_length_eq_zero (by omega)
 subst er
 rw [List.append_nil] at s2 e12
 have s0:RepS h o1 H2 S0:=s2.pop hl
 refine c o1 H2 S0 (.d (.list acc)) _ (e1.trans (Ex.pop (o':=o1) e12)) s0 ?_ f
 obtain ⟨vs,ev,l⟩:=s2.cont o1.length D acc (by rw [List.getElem?_concat_length]) (by rw [<- hl,List.getElem?_concat_length])
 have nD:D ∉ o1:=by
  have:=(List.nodup_append.mp s2.nd).2.2
  intro m
  exact this D m D (by simp) rfl
 exact zbI.mpr ⟨D,vs,rfl,zay.mpr ⟨s2.dis D (by simp),nD,ev⟩,l.mono zfD⟩
def fin (n:Nat) (R:RX):RX:=fun y S'=>match y with
 | .l k=>if k < n then R (.l k) (S'.take n) else ∃ ds,S'[k]? = some ds/\(R (.d (.list ds)) (S'.take n)\/R (.l n) (S'.take n ++ [ds]))
 | y=>R y (S'.take n)
theorem znY {h o:List Addr} {H:Hp} {S:Sto} {R:RX} {Q:VK} (hs:RepS h o H S) (c:Cn h o H R Q):Cn h o H (fin S.length R) Q:=fun o' H' S' y v e s' hy q=>by
 obtain ⟨r,rfl⟩:=e.pre
 have eS:S' = S'.take S.length ++ S'.drop S.length:=(List.take_append_drop _ _).symm
 have hl:(S'.take S.length).length = o.length:=by
  have:=s'.len
  rw [List.length_append] at this
  rw [List.length_take,this,hs.len]
  omega
 have s0:RepS h o H' (S'.take S.length):=by
  rw [eS] at s'
  exact s'.pop hl
 have e0:Ex o H o H':=Ex.pop (o':=o) e
 cases y with
 | d d=>exact c o H' _ (.d d) v e0 s0 (Has.mono zfD d v hy) q
 | o w=>exact c o H' _ (.o w) v e0 s0 hy q
 | x C fs=>exact c o H' _ (.x C fs) v e0 s0 (HasE.mono zfD hy) q
 | l k =>
  unfold fin at q
  by_cases hk:k < S.length
  ·simp only [hk,↓reduceIte] at q
   obtain ⟨a,ea,rfl⟩:=hy
   exact c o H' _ (.l k) _ e0 s0 ⟨a,by rw [List.getElem?_append_left (by rw [<- hs.len]; exact hk)] at ea; exact ea,rfl⟩ q
  ·simp only [hk,↓reduceIte] at q
   obtain ⟨ds,eds,q⟩:=q
   obtain ⟨a,ea,rfl⟩:=hy
   obtain ⟨vs,ev,l⟩:=s'.cont k a ds ea eds
   have na:a ∉ o:=fun m=>by
    obtain ⟨j,ej⟩:=List.mem_iff_getElem?.mp m
    have hj:j < o.length:=(List.getElem?_eq_some_iff.mp ej).1
    have:=zfc s'.nd (zev (t:=r) ej) ea
    rw [hs.len] at hk
    omega
   have nh:a ∉ h:=s'.dis a (List.mem_of_getElem? ea)
   rcases q with q | q
   ·exact c o H' _ (.d (.list ds)) _ e0 s0 (zbI.mpr ⟨a,vs,rfl,zay.mpr ⟨nh,na,ev⟩,l.mono zfD⟩) q
   ·have hn:H a = none:=by
     cases eh:H a with
     | none=>rfl
     | some u=>exact absurd (List.mem_of_getElem? ea) (e.kp a u na eh).1
    have e1:Ex o H (o ++ [a]) H':=⟨⟨[a],rfl⟩,fun b u hb eb=>⟨by simp only [List.mem_append,List.mem_singleton,not_or]; exact ⟨hb,zan eb hn⟩,(e0.kp b u hb eb).2⟩⟩
    have sub:Same (vx h (o ++ r) H') (vx h (o ++ [a]) H'):=fun b u eb=>by
     obtain ⟨z1,z2,z3⟩:=zay.mp eb
     refine zay.mpr ⟨z1,?_,z3⟩
     simp only [List.mem_append,List.mem_singleton,not_or]
     exact ⟨fun m=>z2 (List.mem_append_left _ m),fun z=>z2 (by rw [z]; exact List.mem_of_getElem? ea)⟩
    refine c (o ++ [a]) H' _ (.l S.length) _ e1 ⟨by rw [List.length_append,List.length_append,hl]; rfl,zc8 hs.nd na,fun b hb=>?_,s0.hal,fun j b es q1 q2=>?_⟩ ⟨a,by rw [hs.len,List.getElem?_concat_length],rfl⟩ q
    ·rcases List.mem_append.mp hb with hb | hb
     ·exact hs.dis b hb
     ·rw [List.mem_singleton.mp hb]; exact nh
    ·by_cases hj:j < o.length
     ·rw [List.getElem?_append_left hj] at q1
      rw [List.getElem?_append_left (by rw [hl]; exact hj),List.getElem?_take_of_lt (by rw [hs.len]; exact hj)] at q2
      obtain ⟨ws,e3,l3⟩:=s'.cont j b es (zev q1) q2
      exact ⟨ws,e3,l3.mono sub⟩
     ·have hj':j = o.length:=by
       obtain ⟨q,_⟩:=List.getElem?_eq_some_iff.mp q1
       rw [List.length_append,List.length_singleton] at q
       omega
      subst hj'
      rw [List.getElem?_concat_length] at q1
      rw [<- hl,List.getElem?_concat_length] at q2
      cases q1
      cases q2
      exact ⟨vs,ev,l.mono sub⟩
def zcS (n:Nat) (R:RX):DEnds:={ nx:=fun _ S'=>fin n R (.d .none) S',rt:=fin n R }
theorem eok {h o:List Addr} {H:Hp} {S:Sto} {R:RX} {Q:VK} (hs:RepS h o H S) (c:Cn h o H R Q):EOk h o H (zcS S.length R) { nx:=fun _ H'=>Q .non H',rt:=Q } :=
 ⟨fun o' H' δ' S' σ' e he hs' q=>znY hs c o' H' S' _ _ e hs' xN q,znY hs c,fun _ _ _ _ _ _ _ _ q=>q.elim,fun _ _ _ _ _ _ _ _ q=>q.elim⟩
def za6 (p:List PyData):Prop:=∃ l g s:Int,p = [.int l,.int g,.int s]/\0 <= l
end
section
def zsY (K:W.Frag):List V->Hp->VK->Prop:=fun xs H Q=>∃ (p:Addr) (ns:List Int),xs = [.ref p]/\SqL K H p (ns.map V.int)/\Q (.int ns.sum) H
def zsN (K:W.Frag):List V->Hp->VK->Prop:=fun xs H Q=>∃ (p:Addr) (bs:List Bool),xs = [.ref p]/\SqL K H p (bs.map V.bl)/\Q (.bl (bs.all id)) H
theorem zn1:bootBuiltins "sum" = some (.builtin "sum"):=by decide +kernel
theorem zhc:bootBuiltins "all" = some (.builtin "all"):=by decide +kernel
section
variable {X:Cx}
theorem ziY (hc:X.calm = true):CallR X (.builtin "sum") (zsY X.K):=by
 intro zo s σ H xs us Q I r h
 obtain ⟨p,ns,rfl,hq,q⟩:=h
 obtain ⟨u,rfl,rx⟩:=vals1 r
 cases (show u = Value.ref p from rx)
 obtain ⟨its,rv,pl,_⟩:=I.list hq
 obtain ⟨ys,e,hns⟩:=zgr (za8 rv)
 refine sum_intListG (I.ok.hd hc) (by rw [<- e]; exact pl.isList) fun h' tk t' hk=>⟨.int ns.sum,H,I.kept (t':=tk) hk,⟨t',?_⟩,q⟩
 have es:preSum (numAt ys) ys.size = ns.sum:=by
  rw [preSum_eq,hns,List.take_of_length_le (by simp)]
 rw [es]
theorem zh0:∀ {bs:List Bool} {us:List Value} {i:Nat} {v:Value},Vals (bs.map V.bl) us->us[i]? = some v->∃ b,bs[i]? = some b/\v = .bool b
 | [],_,i,v,.nil,e=>by simp at e
 | b :: bs,_,0,v,.cons r _,e=>by
  rw [List.getElem?_cons_zero] at e
  cases e
  exact ⟨b,rfl,r⟩
 | b :: bs,_,i + 1,v,.cons _ t,e=>by
  obtain ⟨c,e1,e2⟩:=zh0 (i:=i) (v:=v) t (by simpa using e)
  exact ⟨c,by simpa using e1,e2⟩
theorem zpF (bs:List Bool):((List.range bs.length).all fun i=>(bs[i]?).getD true) = bs.all id:=by
 rw [Bool.eq_iff_iff,List.all_eq_true,List.all_eq_true]
 constructor
 ·intro h b hb
  obtain ⟨i,hi⟩:=List.mem_iff_getElem?.mp hb
  have hl:=(List.getElem?_eq_some_iff.mp hi).1
  have:=h i (List.mem_range.mpr hl)
  rw [hi] at this
  exact this
 ·intro h i hi
  have hl:=List.mem_range.mp hi
  rw [List.getElem?_eq_getElem hl]
  exact h _ (List.getElem_mem hl)
theorem zdP (hc:X.calm = true):CallR X (.builtin "all") (zsN X.K):=by
 intro zo s σ H xs us Q I r h
 obtain ⟨p,bs,rfl,hq,q⟩:=h
 obtain ⟨u,rfl,rx⟩:=vals1 r
 cases (show u = Value.ref p from rx)
 obtain ⟨its,rv,pl,_⟩:=I.list hq
 have hl:=pl.isList
 have hlt:p < s.heap.objs.size:=by
  obtain ⟨_,e,_⟩:=hl
  exact Heap.lt_size e
 refine call_all_walk (x:=Value.ref p) (wpAny_pyIter_list hl ?_)
 refine ⟨s.heap.objs.size,[s.heap.objs.size,p],[s.heap.objs.size],its.toArray.size,_,_,fun i=>(bs[i]?).getD true,rfl,
  Walks.list (A:=X.A.in1) (I.ok.hd hc) _ p (Nat.ne_of_lt hlt) its.toArray,⟨⟨_,Heap.get?_push_size _ rfl,rfl,rfl⟩,hl.push _⟩,fun i v s' Q' E' hP hQ=>?_,fun h' tk hk=>?_⟩
 ·obtain ⟨b,e,rfl⟩:=zh0 (i:=i) (v:=v) rv (by simpa using hP)
  have hQ':Q' b s':=by simpa [e] using hQ
  exact wpAny_truthy_bool hQ'
 ·have hz:its.toArray.size = bs.length:=by
   have:=rv.length
   rw [List.length_map] at this
   simp [this]
  rw [hz,zpF]
  refine ⟨.bl _,H,I.kept (t':=tk) fun b o e=>hk b o (fun hm=>?_) (Heap.get?_push_of_some _ e),rfl,q⟩
  rw [List.mem_singleton.mp hm] at e
  exact Nat.lt_irrefl _ (Heap.lt_size e)
end
def zqm:List XV->Sto->RX->Prop:=fun xs S R=>arg1 xs fun x=>∃ ds,zlK S x = some ds/\∃ ns:List Int,ds = ns.map PyData.int/\R (.d (.int ns.sum)) S
theorem znV {K:W.Frag}:RC (zsY K) zqm:=fun h o H S xs vs R Q hs hx q c=>by
 obtain ⟨x,rfl,ds,hd,ns,rfl,q1⟩:=zbE q
 obtain ⟨v,rfl,hx1⟩:=hxs1 hx
 obtain ⟨a,ws,rfl,ea,l⟩:=zbP hs hd hx1
 rw [zbK l] at ea
 exact ⟨a,ns,rfl,.of ea,c o H S _ _ Ex.refl hs (xI _) q1⟩
theorem zf7 {H:Hp}:∀ {ns:List Bool} {vs:List V},HasL H (ns.map PyData.bool) vs->vs = ns.map V.bl
 | [],vs,h=>zT.mp h
 | n :: ns,vs,h=>by
  obtain ⟨v,r,rfl,h1,h2⟩:=zO.mp h
  rw [zez.mp h1,zf7 h2]
  rfl
def zm0:List XV->Sto->RX->Prop:=fun xs S R=>arg1 xs fun x=>∃ ds,zlK S x = some ds/\∃ ns:List Bool,ds = ns.map PyData.bool/\R (.d (.bool (ns.all id))) S
theorem zhl {K:W.Frag}:RC (zsN K) zm0:=fun h o H S xs vs R Q hs hx q c=>by
 obtain ⟨x,rfl,ds,hd,ns,rfl,q1⟩:=zbE q
 obtain ⟨v,rfl,hx1⟩:=hxs1 hx
 obtain ⟨a,ws,rfl,ea,l⟩:=zbP hs hd hx1
 rw [zf7 l] at ea
 exact ⟨a,ns,rfl,.of ea,c o H S _ _ Ex.refl hs (xB _) q1⟩
section
variable {S:Sto} {i:Int} {b:Bool} {z:Str} {ds:List PyData} {d:PyData} {k:Nat} {x y:XV} {R:RX} {c:String} {p:List PyData} {n:Nat} {v:V}
theorem zrb {K:Int->Prop}:asI (.d (.int i)) K = K i:=rfl
theorem zre {K:Bool->Prop}:asB (.d (.bool b)) K = K b:=rfl
theorem zqP {K:Str->Prop}:asS (.d (.str z)) K = K z:=rfl
theorem zqJ {K:List PyData->Prop}:asT (.d (.tuple ds)) K = K ds:=rfl
theorem zqz {K:PyData->Prop}:asD (.d d) K = K d:=rfl
theorem znG:zlK S (.d (.list ds)) = some ds:=rfl
theorem znJ:zlK S (.l k) = S[k]?:=rfl
theorem zq8:asQ S (.d (.list ds)) = some ds:=rfl
theorem zqn:asQ S (.d (.tuple ds)) = some ds:=rfl
theorem zri:asQ S (.l k) = S[k]?:=rfl
theorem zmf:zhy S (.d d) = some d:=rfl
theorem zk9:zhy S (.l k) = (S[k]?).map .list:=rfl
theorem zn9:ret0 S R (.d d) [] = R (.d d) S:=rfl
theorem zom:ret0 S R (.l 0) [ds] = R (.l S.length) (S ++ [ds]):=rfl
theorem zoc:zrO k S R (.d d) [p] = R (.d d) (S.set k p):=rfl
theorem zqd:fin n R (.d d) S = R (.d d) (S.take n):=rfl
theorem zqL:fin n R (.l k) S = if k < n then R (.l k) (S.take n) else ∃ ds,S[k]? = some ds/\(R (.d (.list ds)) (S.take n)\/R (.l n) (S.take n ++ [ds])):=rfl
theorem zot {K:XV->Prop}:arg1 [x] K = K x:=rfl
theorem zok {K:XV->XV->Prop}:arg2 [x,y] K = K x y:=rfl
theorem znS {K:String->Prop}:zsC (.o (.ty c)) K ↔ K c:=⟨fun ⟨_,e,q⟩=>by cases e; exact q,fun q=>⟨c,rfl,q⟩⟩
theorem znB {K:Int->Prop}:zr8 (.d (.bool b)) K = K (if b then 1 else 0):=rfl
theorem zlt:(zcS n R).rt x S = fin n R x S:=rfl
theorem zi1:datas [] = some []:=rfl
theorem zhf {r:List XV}:datas (.d d :: r) = (datas r).map (d :: ·):=rfl
end
theorem zqY {α:Type} {a:α} {l:List α}:atI (a :: l) 0 = some a:=zcp (j:=0) rfl
theorem zrt {α:Type} {a b:α} {l:List α}:atI (a :: b :: l) 1 = some b:=zcp (j:=1) rfl
theorem zq9 {α:Type} {a b c:α} {l:List α}:atI (a :: b :: c :: l) 2 = some c:=zcp (j:=2) rfl
theorem zp3 {α:Type} {a b c d:α} {l:List α}:atI (a :: b :: c :: d :: l) 3 = some d:=zcp (j:=3) rfl
theorem zra {α:Type} {a b c d e:α} {l:List α}:atI (a :: b :: c :: d :: e :: l) 4 = some e:=zcp (j:=4) rfl
def Shp (n:Nat) (d:PyData):Prop:=d.canLay0 = true/\d.depth <= n
theorem zdI {n:Nat} {i:Int}:Shp n (.int i):=⟨rfl,Nat.zero_le _⟩
theorem znn {n:Nat} {i:Bool}:Shp n (.bool i):=⟨rfl,Nat.zero_le _⟩
theorem zjc {n:Nat}:∀ {ds:List PyData},(∀ d ∈ ds,Shp n d)->PyData.canLayAll0 ds = true/\PyData.depthAll ds <= n
 | [],_=>⟨by simp only [PyData.canLayAll0],by simp only [PyData.depthAll]; exact Nat.zero_le _⟩
 | d :: ds,h=>by
  obtain ⟨h1,h2⟩:=h d List.mem_cons_self
  obtain ⟨h3,h4⟩:=zjc (ds:=ds) fun e m=>h e (List.mem_cons_of_mem _ m)
  simp only [PyData.canLayAll0,PyData.depthAll,h1,h3,Bool.and_true,true_and]
  omega
theorem zka {n:Nat} {ds:List PyData} (h:∀ d ∈ ds,Shp n d):Shp (n + 1) (.list ds):=by
 obtain ⟨h1,h2⟩:=zjc h
 exact ⟨by simp only [PyData.canLay0]; exact h1,by simp only [PyData.depth]; omega⟩
theorem zgt {n:Nat} {ds:List PyData} (h:∀ d ∈ ds,Shp n d):Shp (n + 1) (.tuple ds):=by
 obtain ⟨h1,h2⟩:=zjc h
 exact ⟨by simp only [PyData.canLay0]; exact h1,by simp only [PyData.depth]; omega⟩
theorem zjs {α:Type} {n:Nat} {f:α->PyData} {l:List α} (h:∀ x ∈ l,Shp n (f x)):∀ d ∈ l.map f,Shp n d:=fun d m=>by
 obtain ⟨x,hx,rfl⟩:=List.mem_map.mp m
 exact h x hx
theorem zo0 {n:Nat} {a b:PyData} (h1:Shp n a) (h2:Shp n b):∀ d ∈ [a,b],Shp n d:=by
 intro d m
 simp only [List.mem_cons,List.not_mem_nil,or_false] at m
 rcases m with rfl | rfl
 ·exact h1
 ·exact h2
theorem Shp.ok {n:Nat} {d:PyData} (h:Shp n d) (hn:n <= 64:=by decide):SeqAt.shaped d = true:=by
 unfold SeqAt.shaped
 rw [h.1,decide_eq_true (Nat.le_trans h.2 hn)]
 rfl
theorem zao {g:DG} {b:DS} {E:DEnds}:∀ {ds:List PyData} {δ:XE} {S:Sto} (I:Nat->XE->Sto->Prop),I 0 δ S ->
  (∀ i d δ S (N:XE->Sto->Prop),ds[i]? = some d->I i δ S->(∀ δ' S',I (i + 1) δ' S'->N δ' S')->g (.d d) δ S fun δ1 S1=>b { nx:=N,ct:=N,bk:=E.nx,rt:=E.rt } δ1 S1) ->
  (∀ δ S,I ds.length δ S->E.nx δ S)->zki g b ds E δ S
 | [],δ,S,I,h0,_,fin=>fin δ S h0
 | d :: ds,δ,S,I,h0,step,fin=>by
  show g (.d d) δ S fun δ1 S1=>b _ δ1 S1
  refine step 0 d δ S _ rfl h0 fun δ' S' h1=>?_
  exact zao (ds:=ds) (fun i=>I (i + 1)) h1 (fun i e δ S N hi=>step (i + 1) e δ S N (by simpa using hi)) fin
theorem zhY {α:Type} {l:List α} {a b:α} {n:Nat} (h:l.length = n):(l ++ [a]).set n b = l ++ [b]:=by
 subst h
 rw [List.set_append_right _ _ (Nat.le_refl _),Nat.sub_self]
 rfl
theorem zl9 {H:Hp}:RepS [] [] H []:=⟨rfl,List.nodup_nil,fun _ h=>(nomatch h),fun _ h=>(nomatch h),fun _ _ _ e=>(by simp at e)⟩
theorem Ex.same_nil {o':List Addr} {H H':Hp} (e:Ex [] H o' H'):Same H H':=fun b u q=>(e.kp b u (by simp) q).2
theorem zoM {K:W.Frag} {a:Addr} {ns:List Int} {N:Int} {j m:Nat} {tb:TS} {db:DS} {D:Ends} {σ:St} {H:Hp} (hb:RS tb db) (h0:σ[0]? = some (some (.ref a))) (hl:σ.length = m + 1) (hS:SqL K H a (ns.map V.int)) (hlen:ns.length <= 63)
  (turn:∀ n:Int,db { nx:=fun δ _=>δ[0]? = some (some (.o (.ref a)))/\δ.length = m + 1,ct:=fun δ _=>δ[0]? = some (some (.o (.ref a)))/\δ.length = m + 1,rt:=fun _ _=>False } ((some (.o (.ref a)) :: List.replicate m none).set j (some (.d (.int n)))) [])
  (hj:j ≠ 0) (done:∀ (σ:St) (H1:Hp),Same H H1->D.nx σ H1) :
  zpV (zpS K (tOp zpT (zn0 (zgV (tC2 (zoQ K) (zmw 0) (tC (.int 0))) zpU)) (tSl (zqH K) (zmw 0) (zkf (tC (.int 1))) (zkf (tC (.int N)))))) (zi7 j) tb D σ H:=by
 refine zk5 (a:=a) (ns:=ns) (fun σ=>σ[0]? = some (some (.ref a))/\σ.length = m + 1) h0 hS hlen ⟨h0,hl⟩ ?_ fun σ H1 _ s=>done σ H1 s
 rintro n σ1 H1 H2 ⟨z0,z1⟩ s1 s2
 refine hb [] [] H2 _ _ [] _ _ ⟨by simp [z1],fun i x e=>?_⟩ zl9 (turn n) ⟨?_,fun _ _ _ _ _ _ _ _ q=>q.elim,fun _ _ _ _ _ _ _ _ q=>q.elim,?_⟩
 ·rw [List.getElem?_set] at e ⊢
  by_cases hij:j = i
  ·rw [if_pos hij] at e ⊢
   by_cases hjl:j < m + 1
   ·rw [if_pos (by simpa using hjl)] at e
    rw [if_pos (by rw [z1]; exact hjl)]
    cases e
    exact ⟨.int n,rfl,xI n⟩
   ·rw [if_neg (by simpa using hjl)] at e
    cases e
  ·rw [if_neg hij] at e ⊢
   cases i with
   | zero =>
    cases e
    exact ⟨.ref a,z0,rfl⟩
   | succ i =>
    rw [List.getElem?_cons_succ,List.getElem?_replicate] at e
    split at e <;> cases e
 ·rintro o' H' δ' S' σ' e he hs ⟨q1,q2⟩
  obtain ⟨v,ev,hv⟩:=he.get 0 _ q1
  cases hv
  exact ⟨s2.trans e.same_nil,ev,by rw [<- he.len]; exact q2⟩
 ·rintro o' H' δ' S' σ' e he hs ⟨q1,q2⟩
  obtain ⟨v,ev,hv⟩:=he.get 0 _ q1
  cases hv
  exact ⟨s2.trans e.same_nil,ev,by rw [<- he.len]; exact q2⟩
theorem zst {a:Addr} {m:Nat} {t u:TS} {dt:DS} {D:Ends} {σ:St} {H:Hp} (ht:RS t dt) (h0:σ[0]? = some (some (.ref a))) (hl:σ.length = m + 1)
  (go:dt { nx:=fun δ _=>δ[0]? = some (some (.o (.ref a)))/\δ.length = m + 1,rt:=fun _ _=>False } (some (.o (.ref a)) :: List.replicate m none) [])
  (next:∀ (σ:St) (H1:Hp),σ[0]? = some (some (.ref a))->σ.length = m + 1->Same H H1->u D σ H1):zf1 t u D σ H:=by
 refine ht [] [] H _ _ [] _ _ ⟨by simp [hl],fun i x e=>?_⟩ zl9 go ⟨?_,fun _ _ _ _ _ _ _ _ q=>q.elim,fun _ _ _ _ _ _ _ _ q=>q.elim,fun _ _ _ _ _ _ _ _ q=>q.elim⟩
 ·cases i with
  | zero =>
   cases e
   exact ⟨.ref a,h0,rfl⟩
  | succ i =>
   rw [List.getElem?_cons_succ,List.getElem?_replicate] at e
   split at e <;> cases e
 ·rintro o' H' δ' S' σ' e he hs ⟨q1,q2⟩
  obtain ⟨v,ev,hv⟩:=he.get 0 _ q1
  cases hv
  exact next σ' H' ev (by rw [<- he.len]; exact q2) e.same_nil
end
section
theorem zlf {P:Program} {w:World} {K:W.Frag} {tg:Expr} (it:Addr) (lo:Int) (n:Nat):Turn P w K tg (Itr lo n) [it] it (fun i h=>IsLongIter h it (lo + (i:Nat) * 1) ((n:Int) - (i:Nat)) 1) where
 mem:=by simp
 obj:=fun i h st b hb=>by
  have e:b = it:=by simpa using hb
  subst e
  exact ⟨_,st,fun v z=>by
   have z':Data.fields _ = Data.cell v:=z
   cases z'⟩
 keep:=fun i h h' st k=>k it (by simp) _ st
 item:=by
  intro X hP hw hK hc i zo s σ H E I hf st hg
  subst hP hw hK
  obtain ⟨f0,f1,f2,f3,f4,f5⟩:=hf it (by simp)
  have W:=Walks.longrange (prog:=X.prog) (w:=X.w) (I.ok.hd hc) it lo 1 n
  refine W.item i s _ _ hg st fun v h' tk hv st' kk=>?_
  obtain ⟨t,rfl⟩:=hv
  have I1:Inv X zo σ H { s with heap:=h',toks:=tk }:=I.turned (fun b o hb e=>kk b o (by simpa using hb) e) f0 f1 f3 f4 f5
  refine ⟨_,rfl,zmP (s:={ s with heap:=h',toks:=tk }) (n:="longrange_iterator") st' rfl rfl (by decide) ⟨.int (lo + i),H,I1,⟨t,?_⟩,⟨rfl,rfl⟩,st',fun b hb=>(hf b hb).1⟩⟩
  rw [Int.mul_one]
 done:=by
  intro X hP hw hK hc i zo s σ H E I hf st hg
  subst hP hw hK
  obtain ⟨f0,f1,f2,f3,f4,f5⟩:=hf it (by simp)
  exact wpAny_pyNext_long_end (I.ok.hd hc) st (by have:n <= i:=hg; omega) fun h' eb=>⟨rfl,I.turned (t':=s.toks) (fun b o hb e=>eb b o hb e) f0 f1 f3 f4 f5⟩
 self:=fun _ _ _ _ _ st h=>wpAny_pyIter_longiter st h
section
variable {X:Cx} {tg:Expr}
theorem ziH {zo:List (Addr × Obj)} {σ:St} {H:Hp} {s:Shared} {R:It->Hp->Prop} {E:Value->Shared->Prop} {lo hi:Int} {t u v:Tok} {tk:Nat} (I:Inv X zo σ H s)
  (q:R (Itr lo (hi - lo).toNat) H):wpAny (model X.prog X.w) X.A (pyIter (.ref s.heap.objs.size)) (PIE X zo σ tg R) E { s with heap:=s.heap.push { cls:=.type "range",data:=.fields #[.int lo t,.int hi u,.int 1 v] },toks:=tk }:=by
 have I1:Inv X zo σ H { s with heap:=s.heap.push { cls:=.type "range",data:=.fields #[.int lo t,.int hi u,.int 1 v] },toks:=tk }:=I.kept fun b o e=>Heap.get?_push_of_some _ e
 have e1:lo + ((0:Nat):Int) * 1 = lo:=by simp
 have e2:(((hi - lo).toNat:Nat):Int) - ((0:Nat):Int) = Builtin.Range.rangeSize lo hi 1:=by rw [rangeSize_one]; split <;> omega
 cases hsm:Builtin.Range.small lo hi 1 with
 | true =>
  refine wpAny_pyIter_range (IsRange.new ..) hsm ?_
  refine ⟨(s.heap.push { cls:=.type "range",data:=.fields #[.int lo t,.int hi u,.int 1 v] }).objs.size,[(s.heap.push { cls:=.type "range",data:=.fields #[.int lo t,.int hi u,.int 1 v] }).objs.size],_,_,H,rfl,
   I1.kept (t':=tk) fun b o e=>Heap.get?_push_of_some _ e,zkL _ lo (hi - lo).toNat,?_,fun b hb=>?_,q⟩
  ·show IsRangeIter _ _ (lo + ((0:Nat):Int) * 1) ((((hi - lo).toNat:Nat):Int) - ((0:Nat):Int)) 1
   rw [e1,e2]
   exact Heap.get?_push_size _ rfl
  ·have e:b = (s.heap.push { cls:=.type "range",data:=.fields #[.int lo t,.int hi u,.int 1 v] }).objs.size:=by simpa using hb
   subst e
   exact I1.fpOk (Nat.le_refl _) (I1.hok.fresh (Nat.le_refl _))
 | false =>
  refine wpAny_pyIter_longrange (IsRange.new ..) hsm ?_
  refine ⟨(s.heap.push { cls:=.type "range",data:=.fields #[.int lo t,.int hi u,.int 1 v] }).objs.size,[(s.heap.push { cls:=.type "range",data:=.fields #[.int lo t,.int hi u,.int 1 v] }).objs.size],_,_,H,rfl,
   I1.kept (t':=tk) fun b o e=>Heap.get?_push_of_some _ e,zlf _ lo (hi - lo).toNat,?_,fun b hb=>?_,q⟩
  ·show IsLongIter _ _ (lo + ((0:Nat):Int) * 1) ((((hi - lo).toNat:Nat):Int) - ((0:Nat):Int)) 1
   rw [e1,e2]
   exact Heap.get?_push_size _ rfl
  ·have e:b = (s.heap.push { cls:=.type "range",data:=.fields #[.int lo t,.int hi u,.int 1 v] }).objs.size:=by simpa using hb
   subst e
   exact I1.fpOk (Nat.le_refl _) (I1.hok.fresh (Nat.le_refl _))
def znX (ta:TA):TI:=fun σ H R=>ta σ H fun vs H1=>∃ j:Int,vs = [.int j]/\R (Itr 0 j.toNat) H1
def znD (ta:TA):TI:=fun σ H R=>ta σ H fun vs H1=>∃ i j:Int,vs = [.int i,.int j]/\R (Itr i (j - i).toNat) H1
theorem zaq {a:Expr} {ta:TA} {p pos:Pos} (hg:Gl X "range") (hm:X.mg "range" = none) (ha:PA X [a] ta) (hs:starEach [a] X.env = [(false,eval a X.env)]:=by rfl):PI X tg (.Call (.Name "range" p) [a] [] pos) (znX ta):=by
 intro zo s σ H R I h
 refine Call_ (ze9 I hg hm boot_range (PyProof.Rows.callWith_type1 (thn (ha pos zo s σ H _ I h) fun us s1 ⟨vs,H1,I1,r1,q1⟩=>?_) hs rfl))
 obtain ⟨j,e,q⟩:=q1
 subst e
 cases r1 with
 | cons r rr =>
  cases rr
  obtain ⟨t,rfl⟩:=r
  exact call_range_1 (ziH I1 (by simpa using q))
theorem zkA {a b:Expr} {ta:TA} {p pos:Pos} (hg:Gl X "range") (hm:X.mg "range" = none) (ha:PA X [a,b] ta) (hs:starEach [a,b] X.env = [(false,eval a X.env),(false,eval b X.env)]:=by rfl) (hs2:starEach [b] X.env = [(false,eval b X.env)]:=by rfl) :
  PI X tg (.Call (.Name "range" p) [a,b] [] pos) (znD ta):=by
 intro zo s σ H R I h
 refine Call_ (ze9 I hg hm boot_range (PyProof.Rows.callWith_type1 (thn (ha pos zo s σ H _ I h) fun us s1 ⟨vs,H1,I1,r1,q1⟩=>?_) (by rw [hs,hs2]) (by rw [hs2]; rfl)))
 obtain ⟨i,j,e,q⟩:=q1
 subst e
 cases r1 with
 | cons r rr =>
  cases rr with
  | cons r' rr =>
   cases rr
   obtain ⟨t,rfl⟩:=r
   obtain ⟨t',rfl⟩:=r'
   exact call_range_2 (ziH I1 q)
end
def zaP (a:DA):DI:=fun δ S R=>a δ S fun xs S1=>arg1 xs fun x=>asI x fun j=>R (zfQ 0 j.toNat) S1
def zhT (a:DA):DI:=fun δ S R=>a δ S fun xs S1=>arg2 xs fun x y=>asI x fun i=>asI y fun j=>R (zfQ i (j - i).toNat) S1
theorem za7 {ta:TA} {da:DA} (ha:RA ta da):RI (znX ta) (zaP da):=fun h o H δ σ S R Q he hs q c =>
 ha h o H δ σ S _ _ he hs q fun o1 H1 S1 xs vs e1 s1 x1 d0=>by
  obtain ⟨x,rfl,d2⟩:=zbE d0
  obtain ⟨j,rfl,d1⟩:=zbv d2
  obtain ⟨v,rfl,hv⟩:=hxs1 x1
  rw [zbr hv]
  exact ⟨j,rfl,c o1 H1 S1 _ _ e1 s1 ziJ d1⟩
theorem znv {ta:TA} {da:DA} (ha:RA ta da):RI (znD ta) (zhT da):=fun h o H δ σ S R Q he hs q c =>
 ha h o H δ σ S _ _ he hs q fun o1 H1 S1 xs vs e1 s1 x1 d0=>by
  obtain ⟨x,y,rfl,d2⟩:=zgg d0
  obtain ⟨i,rfl,d3⟩:=zbv d2
  obtain ⟨j,rfl,d1⟩:=zbv d3
  obtain ⟨v,u,rfl,hv,hu⟩:=hxs2 x1
  rw [zbr hv,zbr hu]
  exact ⟨i,j,rfl,c o1 H1 S1 _ _ e1 s1 ziJ d1⟩
def zsH (K:W.Frag):List V->Hp->VK->Prop:=fun xs H Q=>∃ (p:Addr) (bs:List Bool),xs = [.ref p]/\SqL K H p (bs.map V.bl)/\Q (.bl (bs.any id)) H
theorem zqj:bootBuiltins "any" = some (.builtin "any"):=by decide +kernel
theorem zpk (bs:List Bool):((List.range bs.length).any fun i=>(bs[i]?).getD true) = bs.any id:=by
 rw [Bool.eq_iff_iff,List.any_eq_true,List.any_eq_true]
 constructor
 ·rintro ⟨i,hi,h⟩
  have hl:=List.mem_range.mp hi
  rw [List.getElem?_eq_getElem hl] at h
  exact ⟨_,List.getElem_mem hl,h⟩
 ·rintro ⟨b,hb,h⟩
  obtain ⟨i,hi⟩:=List.mem_iff_getElem?.mp hb
  have hl:=(List.getElem?_eq_some_iff.mp hi).1
  refine ⟨i,List.mem_range.mpr hl,?_⟩
  rw [hi]
  exact h
theorem zlc {X:Cx} (hc:X.calm = true):CallR X (.builtin "any") (zsH X.K):=by
 intro zo s σ H xs us Q I r h
 obtain ⟨p,bs,rfl,hq,q⟩:=h
 obtain ⟨u,rfl,rx⟩:=vals1 r
 cases (show u = Value.ref p from rx)
 obtain ⟨its,rv,pl,_⟩:=I.list hq
 have hl:=pl.isList
 have hlt:p < s.heap.objs.size:=by
  obtain ⟨_,e,_⟩:=hl
  exact Heap.lt_size e
 refine call_any_walk (x:=Value.ref p) (wpAny_pyIter_list hl ?_)
 refine ⟨s.heap.objs.size,[s.heap.objs.size,p],[s.heap.objs.size],its.toArray.size,_,_,fun i=>(bs[i]?).getD true,rfl,
  Walks.list (A:=X.A.in1) (I.ok.hd hc) _ p (Nat.ne_of_lt hlt) its.toArray,⟨⟨_,Heap.get?_push_size _ rfl,rfl,rfl⟩,hl.push _⟩,fun i v s' Q' E' hP hQ=>?_,fun h' tk hk=>?_⟩
 ·obtain ⟨b,e,rfl⟩:=zh0 (i:=i) (v:=v) rv (by simpa using hP)
  have hQ':Q' b s':=by simpa [e] using hQ
  exact wpAny_truthy_bool hQ'
 ·have hz:its.toArray.size = bs.length:=by
   have:=rv.length
   rw [List.length_map] at this
   simp [this]
  rw [hz,zpk]
  refine ⟨.bl _,H,I.kept (t':=tk) fun b o e=>hk b o (fun hm=>?_) (Heap.get?_push_of_some _ e),rfl,q⟩
  rw [List.mem_singleton.mp hm] at e
  exact Nat.lt_irrefl _ (Heap.lt_size e)
def zrQ:List XV->Sto->RX->Prop:=fun xs S R=>arg1 xs fun x=>∃ ds,zlK S x = some ds/\∃ ns:List Bool,ds = ns.map PyData.bool/\R (.d (.bool (ns.any id))) S
theorem zqI {K:W.Frag}:RC (zsH K) zrQ:=fun h o H S xs vs R Q hs hx q c=>by
 obtain ⟨x,rfl,ds,hd,ns,rfl,q1⟩:=zbE q
 obtain ⟨v,rfl,hx1⟩:=hxs1 hx
 obtain ⟨a,ws,rfl,ea,l⟩:=zbP hs hd hx1
 rw [zf7 l] at ea
 exact ⟨a,ns,rfl,.of ea,c o H S _ _ Ex.refl hs (xB _) q1⟩
end
section
open Sem (wp)
open AutoSeq1 (wpAny_loadPart')
section
variable {X:Cx} {zo:List (Addr × Obj)} {σ:St} {H:Hp} {s:Shared} {h':Heap}
theorem Inv.turnLaid {t':Nat} {ch:List Addr} {T:Addr} {o:HO} (I:Inv X zo σ H s) (k:∀ b u,b ∉ ch->s.heap.get? b = some u->h'.get? b = some u) (hf:∀ b ∈ ch,FpOk X zo H b) (hT:s.heap.objs.size <= T)
  (new:ObjOk X.prog X.w (upd H T o) h' T o):Inv X zo σ (upd H T o) { s with heap:=h',toks:=t' }:=by
 have hn:H T = none:=I.hok.fresh hT
 have nch:∀ b u,H b = some u->b ∉ ch:=fun b u e m=>by rw [(hf b m).1] at e; cases e
 have neT:∀ b u,s.heap.get? b = some u->b ≠ T:=fun b u e z=>absurd (Nat.lt_of_lt_of_le (Heap.lt_size e) hT) (by rw [z]; exact Nat.lt_irrefl _)
 have up:∀ b u,H b = some u->upd H T o b = some u:=fun b u e=>(zae (zan e hn)).trans e
 refine I.step (g':=s.gens) (d':=s.drawn) (ch:=ch) (fun b hb=>?_) (fun b u _ _ hc e _=>k b u hc e) (fun b u _ _ hc e _=>⟨u.slots,k b u hc e⟩) (fun b u _ e n=>(zae (neT b u e)).trans n)
  (fun b u hc e=>⟨u,k b u hc e⟩) (fun b xs e=>up b _ e) (fun b u v e=>up b _ e) (fun b ps e=>⟨#[],by rw [up b _ e]; simp⟩) (fun m hm=>?_) (fun b u e=>?_) I.bare
 ·obtain ⟨_,f1,_,f3,f4,f5⟩:=hf b hb
  exact ⟨f3,f1,f4,f5⟩
 ·obtain ⟨ob,es,ep,ho,r⟩:=hm
  exact ⟨ob,es,ep,k _ ob (fun z=>(hf _ z).2.1 rfl) ho,r⟩
 ·by_cases hb:b = T
  ·subst hb
   rw [zaW] at e
   cases e
   exact new
  ·rw [zae hb] at e
   refine (I.hok b u e).stay (fun c v hc q=>k c v ?_ q) (fun c q=>up c _ q) (fun c xs q=>up c _ q) fun c o u q=>up c _ q
   rcases hc with z | z
   ·rw [z]; exact nch b u e
   ·exact nch c _ z
theorem Inv.turnedN {t':Nat} {ch:List Addr} (I:Inv X zo σ H s) (k:∀ b u,b ∉ ch->s.heap.get? b = some u->h'.get? b = some u) (hf:∀ b ∈ ch,FpOk X zo H b):Inv X zo σ H { s with heap:=h',toks:=t' }:=by
 have nch:∀ b u,H b = some u->b ∉ ch:=fun b u e m=>by rw [(hf b m).1] at e; cases e
 refine I.step (g':=s.gens) (d':=s.drawn) (ch:=ch) (fun b hb=>?_) (fun b u _ _ hc e _=>k b u hc e) (fun b u _ _ hc e _=>⟨u.slots,k b u hc e⟩) (fun b u _ e n=>n)
  (fun b u hc e=>⟨u,k b u hc e⟩) (fun b xs e=>e) (fun b u v e=>e) (fun b ps e=>⟨#[],by rw [e]; simp⟩) (fun m hm=>?_) (fun b u e=>?_) I.bare
 ·obtain ⟨_,f1,_,f3,f4,f5⟩:=hf b hb
  exact ⟨f3,f1,f4,f5⟩
 ·obtain ⟨ob,es,ep,ho,r⟩:=hm
  exact ⟨ob,es,ep,k _ ob (fun z=>(hf _ z).2.1 rfl) ho,r⟩
 ·refine (I.hok b u e).stay (fun c v hc q=>k c v ?_ q) (fun _ q=>q) fun _ _ q=>q
  rcases hc with z | z
  ·rw [z]; exact nch b u e
  ·exact nch c _ z
end
section
variable {prog:Program} {w:World} {A:Around} {E:Value->Shared->Prop} {s:Shared}
theorem zkK {j t:Addr} {i:Nat} {vs:Array Value} {x:Value} {Q:Value->Shared->Prop} (hj:s.heap.IsTupleIter j t i) (ht:s.heap.IsTuple t vs) (hx:vs[i]? = some x)
  (hQ:∀ g,g.IsTupleIter j t (i + 1)->Heap.SameBut j s.heap g->Q x { s with heap:=g }):wpAny (model prog w) A (Builtin.SmallTypes.nextOf (.ref j)) Q E s:=by
 obtain ⟨oj,ej,cj,dj⟩:=id hj
 obtain ⟨ot,et,_,nt,dt⟩:=ht
 unfold Builtin.SmallTypes.nextOf
 refine wpAny_bind (wpAny_callSpecial?_slot (name:=Str.ofString "__next__") hj.typeIs F.slot_tuple_iterator_next (wpAny_call_entry F.slot_tuple_iterator_next hj.typeIs F.entry_tuple_iterator_next ?_ (F.args_tuple_iterator_next_1 _)))
 show wpAny _ _ (field (.ref j) 0 >>= _) _ _ s
 refine wpAny_bind (wpAny_field ej dj (x:=.ref t) rfl ?_)
 show wpAny _ _ (ite ((Value.ref t == Value.none) = true) _ _) _ _ s
 refine (if_neg (show ¬ ((Value.ref t == Value.none) = true) from Bool.false_ne_true)) ▸ ?_
 show wpAny _ _ (field (.ref j) 1 >>= _) _ _ s
 refine wpAny_bind (wpAny_field ej dj (x:=.int i 0) rfl ?_)
 refine wpAny_bind (m:=seqItems? (.ref t)) (wpAny_seqItems et dt ?_)
 simp only [hx,Int.toNat_natCast]
 refine wpAny_bind (wpAny_setField ej dj (by simp) (wpAny_pure ⟨x,rfl,wpAny_pure (hQ _ ⟨_,Heap.get?_update_self _ ej (Obj.isFreed_of_fields (Obj.data_mapFields dj _)),(Obj.cls_mapFields ..).trans cj,?_⟩ (Heap.SameBut.update ..))⟩))
 rw [Obj.data_mapFields dj]
 simp [rawInt]
theorem zgT {j t:Addr} {i:Nat} {vs:Array Value} {Q:Value->Shared->Prop} (hh:A.handled = none) (hj:s.heap.IsTupleIter j t i) (ht:s.heap.IsTuple t vs) (hx:vs[i]? = none)
  (hE:∀ g e,Heap.ExtBut j s.heap g->(∃ o,g.get? e = some o/\o.cls = .type "StopIteration")->E (.ref e) { s with heap:=g }):wpAny (model prog w) A (Builtin.SmallTypes.nextOf (.ref j)) Q E s:=by
 obtain ⟨oj,ej,cj,dj⟩:=id hj
 obtain ⟨ot,et,_,nt,dt⟩:=ht
 unfold Builtin.SmallTypes.nextOf
 refine wpAny_bind (wpAny_callSpecial?_slot (name:=Str.ofString "__next__") hj.typeIs F.slot_tuple_iterator_next (wpAny_call_entry F.slot_tuple_iterator_next hj.typeIs F.entry_tuple_iterator_next ?_ (F.args_tuple_iterator_next_1 _)))
 show wpAny _ _ (field (.ref j) 0 >>= _) _ _ s
 refine wpAny_bind (wpAny_field ej dj (x:=.ref t) rfl ?_)
 show wpAny _ _ (ite ((Value.ref t == Value.none) = true) _ _) _ _ s
 refine (if_neg (show ¬ ((Value.ref t == Value.none) = true) from Bool.false_ne_true)) ▸ ?_
 show wpAny _ _ (field (.ref j) 1 >>= _) _ _ s
 refine wpAny_bind (wpAny_field ej dj (x:=.int i 0) rfl ?_)
 refine wpAny_bind (m:=seqItems? (.ref t)) (wpAny_seqItems et dt ?_)
 simp only [hx,Int.toNat_natCast]
 refine wpAny_bind (wpAny_rule (wpAny_bind (wpAny_setField ej dj (by simp) ?_)))
 show wpAny _ _ (newExc (.type "StopIteration") [] >>= _) _ _ _
 refine wpAny_bind ?_
 simp only [newExc,newTuple]
 refine wpAny_bind (wpAny_newObj_type ?_ (by size_fits)); refine wpAny_bind (m:=firstArgMember _ _) (wpAny_of_eq (a:=Value.none) (by first | rfl | (simp only [firstArgMember]; rfl)) ?_)
 refine wpAny_newObj_type ?_ (by size_fits); simp only [raiseNew]
 refine wpAny_bind (wpAny_handled ?_)
 first | rw [show A.in1.handled = none from hh] | rw [hh]
 exact wpAny_bind (wpAny_pure (wpAny_throw (hE _ _ (((Heap.SameBut.update ..).extBut.push _).push _) ⟨_,Heap.get?_push_size _ rfl,rfl⟩)))
end
def zqC (i:Nat):List PyData->List PyData
 | []=>[]
 | d :: ds=>.tuple [.int i,d] :: zqC (i + 1) ds
end
section
def dIx:D2:=fun x y S R=>asI y fun i=>match x with
 | .d (.tuple ds)=>∃ d,atI ds i = some d/\R (.d d) S
 | .d (.list ds)=>∃ d,atI ds i = some d/\R (.d d) S
 | .l k=>∃ ds,S[k]? = some ds/\∃ d,atI ds i = some d/\R (.d d) S
 | .d (.str z)=>z.length <= sizeLine/\∃ c,atI z.cps.toList i = some c/\R (.d (.str ⟨#[c]⟩)) S
 | _=>False
theorem zrj:RO zsm (fun x y S R=>asS x fun z=>asI y fun i=>z.length <= sizeLine/\∃ c,atI z.cps.toList i = some c/\R (.d (.str ⟨#[c]⟩)) S):=fun h o H S x y v u R Q hs hx hy q c=>by
 replace q:=zof q
 obtain ⟨z,rfl,q⟩:=q
 replace q:=zbv q
 obtain ⟨i,rfl,hz,k,ek,q⟩:=q
 exact ⟨z,i,k,ze4 hx,zbr hy,hz,ek,c o H S _ _ Ex.refl hs (xS _) q⟩
theorem zQ {K:W.Frag}:RO (rIx K) dIx:=fun h o H S x y v u R Q hs hx hy q c=>by
 replace q:=zbv q
 obtain ⟨i,rfl,q⟩:=q
 split at q
 ·exact .inr (.inl (zrB h o H S _ _ v u R Q hs hx hy q c))
 ·exact .inl (zn8 h o H S _ _ v u R Q hs hx hy ⟨_,rfl,q⟩ c)
 ·exact .inl (zn8 h o H S _ _ v u R Q hs hx hy q c)
 ·exact .inr (.inr (zrj h o H S _ _ v u R Q hs hx hy q c))
 ·exact q.elim
section
variable {S:Sto} {R:RX} {ds:List PyData} {i:Int} {k:Nat} {z:Str}
theorem zrJ:dIx (.d (.tuple ds)) (.d (.int i)) S R = ∃ d,atI ds i = some d/\R (.d d) S:=rfl
theorem zqv:dIx (.d (.list ds)) (.d (.int i)) S R = ∃ d,atI ds i = some d/\R (.d d) S:=rfl
theorem zqq:dIx (.l k) (.d (.int i)) S R = ∃ ds,S[k]? = some ds/\∃ d,atI ds i = some d/\R (.d d) S:=rfl
theorem zqr:dIx (.d (.str z)) (.d (.int i)) S R = (z.length <= sizeLine/\∃ c,atI z.cps.toList i = some c/\R (.d (.str ⟨#[c]⟩)) S):=rfl
end
def zsJ (K:W.Frag):V->Option Int->Option Int->Hp->VK->Prop:=fun x a b H Q=>zqH K x a b H Q\/(zr2 K x a b H Q\/zsT x a b H Q)
theorem zdw {X:Cx}:SlR X (zsJ X.K):=zlh.or (zn2.or zrE)
def zhp:D3:=fun x i j S R=>match x with
 | .d (.tuple ds)=>¬ (HT.sIx ds.length 0 i = 0/\HT.sIx ds.length ds.length j = ds.length)/\R (.d (.tuple (zc7 ds i j))) S
 | .d (.list ds)=>R (.d (.list (zc7 ds i j))) S
 | .l k=>∃ ds,S[k]? = some ds/\R (.d (.list (zc7 ds i j))) S
 | .d (.str z)=>z.length <= sizeLine/\R (.d (.str (PySem.Txt.slice z i j))) S
 | _=>False
theorem zdy {K:W.Frag}:RL (zsJ K) zhp:=fun h o H S x v a b R Q hs hx q c=>by
 unfold zhp at q
 split at q
 ·exact .inr (.inl (zrd h o H S _ v a b R Q hs hx q c))
 ·exact .inl (zlz h o H S _ v a b R Q hs hx ⟨_,rfl,q⟩ c)
 ·exact .inl (zlz h o H S _ v a b R Q hs hx q c)
 ·exact .inr (.inr ⟨_,ze4 hx,q.1,c o H S _ _ Ex.refl hs (xS _) q.2⟩)
 ·exact q.elim
section
variable {S:Sto} {R:RX} {ds:List PyData} {i j:Option Int} {k:Nat} {z:Str}
theorem zoo:zhp (.d (.tuple ds)) i j S R = (¬ (HT.sIx ds.length 0 i = 0/\HT.sIx ds.length ds.length j = ds.length)/\R (.d (.tuple (zc7 ds i j))) S):=rfl
theorem znA:zhp (.d (.list ds)) i j S R = R (.d (.list (zc7 ds i j))) S:=rfl
theorem zn4:zhp (.l k) i j S R = ∃ ds,S[k]? = some ds/\R (.d (.list (zc7 ds i j))) S:=rfl
theorem znK:zhp (.d (.str z)) i j S R = (z.length <= sizeLine/\R (.d (.str (PySem.Txt.slice z i j))) S):=rfl
end
def znU (K:W.Frag):R2:=fun x y H Q=>∃ a b ys,x = .ref a/\y = .ref b/\SqT K H a []/\SqT K H b ys/\Q (.ref b) H
theorem znb {X:Cx}:OpR X (binaryOp .Add) (znU X.K):=by
 intro zo s σ H x y v u Q I rx ry h
 obtain ⟨a,b,ys,rfl,rfl,ha,hb,q⟩:=h
 cases rx
 cases ry
 obtain ⟨its,r1,p1,_⟩:=I.tuple ha
 obtain ⟨its2,r2,p2,_⟩:=I.tuple hb
 cases r1
 obtain ⟨⟨c1,d1,e1,l1⟩,o1,w1,n1,k1⟩:=id p1
 obtain ⟨⟨c2,d2,e2,l2⟩,o2,w2,n2,k2⟩:=id p2
 simp only at w1 k1 w2 k2
 subst w1 k1 w2 k2
 exact concat_meets ⟨_,o1,rfl⟩ ⟨_,o2,rfl⟩ noFill_tuple_add seq_tuple_add PySem.F.slot_tuple_add PySem.F.entry_tuple_add (PySem.F.args_tuple_add_2 _ _) (tuple_addW0 a b _ _ n1 n2 d1 d2 l1 l2 (by simp)) ⟨o1,o2,⟨.ref b,H,I,rfl,q⟩⟩
def zrs (K:W.Frag):R2:=fun x y H Q=>rI0 (fun i j=>.int (i + j)) x y H Q\/(zpT x y H Q\/(zoK K x y H Q\/(znU K x y H Q\/∃ i j,x = .str i/\y = .str j/\i.length + j.length <= sizeLine/\Q (.str (i ++ j)) H)))
theorem zK {X:Cx}:OpR X (binaryOp .Add) (zrs X.K):=zqa.or (zhm.or (zpH.or (znb.or zkh)))
def zb8:D2:=fun x y S R=>match x,y with
 | .d (.int i),.d (.int j)=>R (.d (.int (i + j))) S
 | .d (.tuple ds),.d (.tuple es)=>ds.length + es.length <= 1000/\R (.d (.tuple (ds ++ es))) S
 | .d (.str a),.d (.str b)=>a.length + b.length <= sizeLine/\R (.d (.str (a ++ b))) S
 | x,y=>asL S x fun ds=>asL S y fun es=>ds.length + es.length <= 1000/\R (.d (.list (ds ++ es))) S
theorem zV {K:W.Frag}:RO (zrs K) zb8:=fun h o H S x y v u R Q hs hx hy q c=>by
 unfold zb8 at q
 split at q
 ·exact .inl (zdQ h o H S _ _ v u R Q hs hx hy q c)
 ·rename_i ds es
  cases ds with
  | cons d ds=>exact .inr (.inr (.inl (zoV h o H S _ _ v u R Q hs hx hy ⟨by simp,q⟩ c)))
  | nil =>
   obtain ⟨a,vs,rfl,ea,l⟩:=zdA hx
   obtain ⟨b,us,rfl,eb,l'⟩:=zdA hy
   rw [zT.mp l] at ea
   exact .inr (.inr (.inr (.inl ⟨a,b,us,rfl,rfl,.of ea,.of eb,c o H S (.d (.tuple es)) _ Ex.refl hs hy q.2⟩)))
 ·exact .inr (.inr (.inr (.inr ⟨_,_,ze4 hx,ze4 hy,q.1,c o H S _ _ Ex.refl hs (xS _) q.2⟩)))
 ·exact .inr (.inl (zp7 h o H S _ _ v u R Q hs hx hy q c))
section
variable {S:Sto} {R:RX} {ds es:List PyData} {i j:Int} {k l:Nat} {a b:Str}
theorem znR:zb8 (.d (.int i)) (.d (.int j)) S R = R (.d (.int (i + j))) S:=rfl
theorem zor:zb8 (.d (.tuple ds)) (.d (.tuple es)) S R = (ds.length + es.length <= 1000/\R (.d (.tuple (ds ++ es))) S):=rfl
theorem zl0:zb8 (.d (.list ds)) (.d (.list es)) S R ↔ (ds.length + es.length <= 1000/\R (.d (.list (ds ++ es))) S):=⟨fun ⟨_,e,_,e',q⟩=>by cases e; cases e'; exact q,fun q=>⟨_,rfl,_,rfl,q⟩⟩
end
def zqy:R2:=fun x y H Q=>rI IntMulOk (fun i j=>.int (i * j)) x y H Q\/(zqf x y H Q\/zs2 x y H Q)
theorem zbO {X:Cx}:OpR X (binaryOp .Mult) zqy:=zpb.or (zo2.or zp8)
def zgM:D2:=fun x y S R=>asI y fun j=>match x with
 | .d (.int i)=>IntMulOk i j/\R (.d (.int (i * j))) S
 | .d (.str z)=>z.length <= 1000/\j <= 1000/\-1000 <= j/\R (.d (.str (PySem.Txt.mul z j))) S
 | .d (.list ds)=>j <= 1000/\-1000 <= j/\ds.length * j.toNat <= 1000/\R (.d (.list (List.replicate j.toNat ds).flatten)) S
 | _=>False
theorem HasL.rep {H:Hp} {ds:List PyData} {vs:List V} (l:HasL H ds vs):∀ n:Nat,HasL H (List.replicate n ds).flatten (List.replicate n vs).flatten
 | 0=>zT.mpr rfl
 | n + 1=>by
  rw [List.replicate_succ,List.replicate_succ,List.flatten_cons,List.flatten_cons]
  exact l.append (HasL.rep l n)
theorem zc2:RO zqy zgM:=fun h o H S x y v u R Q hs hx hy q c=>by
 replace q:=zbv q
 obtain ⟨j,rfl,q⟩:=q
 split at q
 ·exact .inl (zh6 h o H S _ _ v u R Q hs hx hy q c)
 ·exact .inr (.inl ⟨_,_,ze4 hx,zbr hy,q.1,q.2.1,q.2.2.1,c o H S _ _ Ex.refl hs (xS _) q.2.2.2⟩)
 ·obtain ⟨a,vs,rfl,ea,l⟩:=zbP (x:=.d (.list _)) hs rfl hx
  obtain ⟨h1,h2,h3,q⟩:=q
  exact .inr (.inr ⟨a,j,vs,rfl,zbr hy,ea,by omega,by omega,by rw [l.length]; exact Nat.le_of_lt (small1000 h3),zjp hs (l.rep j.toNat) c q⟩)
 ·exact q.elim
section
variable {S:Sto} {R:RX} {i j:Int} {z:Str} {ds:List PyData}
theorem zow:zgM (.d (.list ds)) (.d (.int j)) S R = (j <= 1000/\-1000 <= j/\ds.length * j.toNat <= 1000/\R (.d (.list (List.replicate j.toNat ds).flatten)) S):=rfl
theorem znM:zgM (.d (.int i)) (.d (.int j)) S R = (IntMulOk i j/\R (.d (.int (i * j))) S):=rfl
theorem zob:zgM (.d (.str z)) (.d (.int j)) S R = (z.length <= 1000/\j <= 1000/\-1000 <= j/\R (.d (.str (PySem.Txt.mul z j))) S):=rfl
end
def zs4:R2:=fun x y H Q=>rI CDivX (fun i j=>.int (i / j)) x y H Q\/rI CDivN (fun i j=>.int (i.fdiv j)) x y H Q
theorem zkR {X:Cx}:OpR X (binaryOp .FloorDiv) zs4:=zmK.or znj
def dFd:D2:=fun x y S R=>asI x fun i=>asI y fun j=>(CDivX i j/\R (.d (.int (i / j))) S)\/(CDivN i j/\R (.d (.int (i.fdiv j))) S)
theorem zpm:RO zs4 dFd:=fun h o H S x y v u R Q hs hx hy q c=>by
 replace q:=zbv q
 obtain ⟨i,rfl,q⟩:=q
 replace q:=zbv q
 obtain ⟨j,rfl,q⟩:=q
 rcases q with q | q
 ·exact .inl (zh6 (C:=CDivX) (g:=fun i j=>i / j) h o H S _ _ v u R Q hs hx hy q c)
 ·exact .inr (zh6 (C:=CDivN) (g:=fun i j=>i.fdiv j) h o H S _ _ v u R Q hs hx hy q c)
def zrN (S:Sto):XV->Option Bool
 | .d .none=>some false
 | .d (.bool b)=>some b
 | .d (.int i)=>some (i != 0)
 | .d (.str z)=>if z.length <= sizeLine then some ((z.length:Int) != 0) else none
 | .d (.list ds)=>some (!ds.isEmpty)
 | .d (.tuple ds)=>some (!ds.isEmpty)
 | .l k=>(S[k]?).map fun ds=>!ds.isEmpty
 | _=>none
def zge (a:DE):DT:=fun δ S R=>a δ S fun x S1=>∃ k,zrN S1 x = some k/\R k S1
theorem ze3 {H:Hp} {ds:List PyData} {vs:List V} (l:HasL H ds vs):(!ds.isEmpty) = !vs.isEmpty:=by
 have:=l.length
 cases ds <;> cases vs <;> simp_all
theorem zct {K:W.Frag} {ta:TE} {da:DE} (ha:RE ta da):RT (fun σ H Q=>ta σ H fun x H'=>∃ k,TruV K x H' k/\Q k H') (zge da):=fun h o H δ σ S R Q he hs q c =>
 ha h o H δ σ S _ _ he hs q fun o1 H1 S1 x v e1 s1 x1 ⟨k,ek,d1⟩=>by
  refine ⟨k,?_,c o1 H1 S1 k e1 s1 d1⟩
  unfold zrN at ek
  split at ek
  ·cases ek; rw [(zfn (H:=vx h o1 H1)).mp x1]; rfl
  ·cases ek; rw [ze0 x1]; rfl
  ·cases ek; rw [zbr x1]; rfl
  ·split at ek
   ·rename_i hz
    cases ek; rw [ze4 x1]; exact ⟨hz,rfl⟩
   ·cases ek
  ·obtain ⟨a,vs,rfl,ea,l⟩:=zbP (x:=.d (.list _)) s1 rfl x1
   cases ek
   exact .inl ⟨vs,.of ea,ze3 l⟩
  ·obtain ⟨a,vs,rfl,ea,l⟩:=zdA x1
   cases ek
   exact .inr (.inl ⟨vs,.of ea,ze3 l⟩)
  ·rename_i j _
   cases hj:S1[j]? with
   | none=>rw [hj] at ek; cases ek
   | some ds =>
    rw [hj] at ek
    cases ek
    obtain ⟨a,vs,rfl,ea,l⟩:=zbP (x:=.l j) s1 hj x1
    exact .inl ⟨vs,.of ea,ze3 l⟩
  ·cases ek
section
variable {S:Sto} {b:Bool} {i:Int} {ds:List PyData} {k:Nat}
theorem znW:zrN S (.d (.bool b)) = some b:=rfl
theorem zon:zrN S (.l k) = (S[k]?).map fun ds=>!ds.isEmpty:=rfl
end
def zod:DS:=fun _ _ _=>False
def zsw (K:W.Frag) (tl:TE):TI:=fun σ H R=>tl σ H fun x H1=>∃ a,x = .ref a/\(((∃ xs,SqL K H1 a xs)/\R (Itl K a) H1)\/((∃ xs,SqT K H1 a xs)/\R (Itt K a) H1))
theorem za5 {X:Cx} {tg:Expr} {l:Expr} {tl:TE} (hl:PE X l tl):PI X tg l (zsw X.K tl):=by
 intro zo s σ H R I h
 refine thn (hl zo s σ H _ I h) fun v s1 ⟨x,H1,I1,r1,q1⟩=>?_
 obtain ⟨a,e,⟨⟨xs,hq⟩,q⟩ | ⟨⟨xs,hq⟩,q⟩⟩:=q1
 ·subst e
  cases r1
  obtain ⟨its,rv,p,hz⟩:=I1.list hq
  refine wpAny_pyIter_list p.isList ?_
  refine ⟨s1.heap.objs.size,[s1.heap.objs.size],_,_,H1,rfl,I1.kept (t':=s1.toks) fun b o e=>Heap.get?_push_of_some _ e,ziv a _,⟨_,Heap.get?_push_size _ rfl,rfl,rfl⟩,fun b hb=>?_,q⟩
  have e:b = s1.heap.objs.size:=by simpa using hb
  subst e
  exact I1.fpOk (Nat.le_refl _) (I1.hok.fresh (Nat.le_refl _))
 ·subst e
  cases r1
  obtain ⟨its,rv,p,hz⟩:=I1.tuple hq
  refine wpAny_pyIter_tuple (show s1.heap.IsTuple a its.toArray from p) ?_
  refine ⟨s1.heap.objs.size,[s1.heap.objs.size],_,_,H1,rfl,I1.kept (t':=s1.toks) fun b o e=>Heap.get?_push_of_some _ e,zkE a _,⟨_,Heap.get?_push_size _ rfl,rfl,rfl⟩,fun b hb=>?_,q⟩
  have e:b = s1.heap.objs.size:=by simpa using hb
  subst e
  exact I1.fpOk (Nat.le_refl _) (I1.hok.fresh (Nat.le_refl _))
def zkQ:XV->Option (List PyData)
 | .d (.list ds)=>some ds
 | .d (.tuple ds)=>some ds
 | _=>none
theorem zoe {ds:List PyData}:zkQ (.d (.list ds)) = some ds:=rfl
theorem zn3 {ds:List PyData}:zkQ (.d (.tuple ds)) = some ds:=rfl
def zbU (e:DE):DI:=fun δ S R=>e δ S fun x S1=>∃ ds,zkQ x = some ds/\R ds S1
theorem za4 {K:W.Frag} {te:TE} {de:DE} (he':RE te de):RI (zsw K te) (zbU de):=fun h o H δ σ S R Q he hs q c =>
 he' h o H δ σ S _ _ he hs q fun o1 H1 S1 x v e1 s1 x1 ⟨ds,ex,d1⟩=>by
  unfold zkQ at ex
  split at ex
  ·cases ex
   obtain ⟨a,vs,rfl,ea,l⟩:=zbI.mp (show Has _ _ _ from x1)
   have hl:=l.length
   refine ⟨a,rfl,.inl ⟨⟨vs,.of (zbo _ _ ea)⟩,c o1 H1 S1 ds _ e1 s1 ⟨fun i o2 H2 e2 hi=>⟨vs,.of (zbo _ _ (e2.vx _ _ ea)),by omega⟩,fun i d o2 H2 e2 hi=>?_,fun i d o2 H2 x H3 S2 e2 s2 hi y=>?_⟩ d1⟩⟩
   ·obtain ⟨v,ev,_⟩:=l.get hi
    exact ⟨vs,v,.of (zbo _ _ (e2.vx _ _ ea)),ev⟩
   ·obtain ⟨v,ev,hv⟩:=l.get hi
    have e3:H3 = H2:=y.1
    subst e3
    have ex:=y.2 vs (.of (zbo _ _ (e2.vx _ _ ea)))
    rw [ev] at ex
    cases ex
    exact ⟨Same.refl _,hv.mono e2.vx⟩
  ·cases ex
   obtain ⟨a,vs,rfl,ea,l⟩:=zbx.mp (show Has _ _ _ from x1)
   have hl:=l.length
   refine ⟨a,rfl,.inr ⟨⟨vs,.of (zbo _ _ ea)⟩,c o1 H1 S1 ds _ e1 s1 ⟨fun i o2 H2 e2 hi=>⟨vs,.of (zbo _ _ (e2.vx _ _ ea)),by omega⟩,fun i d o2 H2 e2 hi=>?_,fun i d o2 H2 x H3 S2 e2 s2 hi y=>?_⟩ d1⟩⟩
   ·obtain ⟨v,ev,_⟩:=l.get hi
    exact ⟨vs,v,.of (zbo _ _ (e2.vx _ _ ea)),ev⟩
   ·obtain ⟨v,ev,hv⟩:=l.get hi
    have e3:H3 = H2:=y.1
    subst e3
    have ex:=y.2 vs (.of (zbo _ _ (e2.vx _ _ ea)))
    rw [ev] at ex
    cases ex
    exact ⟨Same.refl _,hv.mono e2.vx⟩
  ·cases ex
def zqK (dt:DS):DS:=fun E δ S=>dt { E with nx:=fun δ' S'=>∃ S0 ds,S' = S0 ++ [ds]/\S.length <= S0.length/\E.nx (δ'.map (frz S0.length ds)) S0 } δ S
theorem zoa {t:TS} {dt:DS} (ht:RS t dt):RS t (zqK dt):=fun h o H δ σ S E D he hs q c=>by
 refine ht h o H δ σ S _ D he hs q ⟨fun o' H' δ' S' σ' e he' hs' ⟨S0,ds,eS,hl,n⟩=>?_,c.rt,c.bk,c.ct⟩
 subst eS
 obtain ⟨r,rfl⟩:=e.pre
 have hL:=hs'.len
 simp only [List.length_append,List.length_singleton] at hL
 have hS:=hs.len
 have rne:r ≠ []:=fun z=>by subst z; simp at hL; omega
 obtain ⟨r0,a,rfl⟩:∃ r0 a,r = r0 ++ [a]:=⟨r.dropLast,r.getLast rne,(List.dropLast_concat_getLast rne).symm⟩
 have hS0:S0.length = (o ++ r0).length:=by simp at hL ⊢; omega
 rw [<- List.append_assoc] at hs' he' e
 have nd:=List.nodup_append.mp hs'.nd
 have na:a ∉ o ++ r0:=fun m=>nd.2.2 a m a (by simp) rfl
 have nh:a ∉ h:=hs'.dis a (by simp)
 refine c.nx (o ++ r0) H' _ S0 σ' ⟨⟨r0,rfl⟩,fun b u hb eb=>?_⟩ ⟨by rw [List.length_map]; exact he'.len,fun i x ex=>?_⟩ (hs'.pop hS0) n
 ·obtain ⟨z1,z2⟩:=e.kp b u hb eb
  exact ⟨fun m=>z1 (List.mem_append_left _ m),z2⟩
 ·rw [List.getElem?_map] at ex
  obtain ⟨y,ey,ex⟩:=Option.map_eq_some_iff.mp ex
  match y,ey,ex with
  | none,ey,ex=>cases ex
  | some (.d d),ey,ex =>
   cases ex
   obtain ⟨v,e1,e2⟩:=he'.get i _ ey
   exact ⟨v,e1,Has.mono zfD d v e2⟩
  | some (.o w),ey,ex =>
   cases ex
   exact he'.get i _ ey
  | some (.x C fs),ey,ex =>
   cases ex
   obtain ⟨v,e1,e2⟩:=he'.get i _ ey
   exact ⟨v,e1,HasE.mono zfD e2⟩
  | some (.l k),ey,ex =>
   obtain ⟨v,e1,b,eb,rfl⟩:=he'.get i _ ey
   unfold frz at ex
   by_cases hk:k = S0.length
   ·simp only [hk,↓reduceIte] at ex
    cases ex
    rw [hk,hS0,List.getElem?_concat_length] at eb
    cases eb
    obtain ⟨vs,ev,l⟩:=hs'.cont k a ds (by rw [hk,hS0,List.getElem?_concat_length]) (by rw [hk,List.getElem?_concat_length])
    exact ⟨_,e1,zbI.mpr ⟨a,vs,rfl,zay.mpr ⟨nh,na,ev⟩,l.mono zfD⟩⟩
   ·simp only [hk,↓reduceIte] at ex
    cases ex
    have hlt:=(List.getElem?_eq_some_iff.mp eb).1
    simp only [List.length_append,List.length_singleton] at hlt
    simp only [List.length_append] at hS0
    rw [List.getElem?_append_left (by simp only [List.length_append]; omega)] at eb
    exact ⟨_,e1,b,eb,rfl⟩
section
variable {t1 t2 t3 t4 t5 t6 t7 t8:TS} {d:DS}
theorem zop (h:RS (zf1 (zf1 t1 t2) t3) d):RS (zf1 t1 (zf1 t2 t3)) d:=h
end
end
section
abbrev PN:=List XV->Sto->RX->Prop
def lfN (q:PN):List V->Hp->VK->Prop:=fun vs H Q=>∃ h o S xs R,RepS h o H S/\HasXs h o H xs vs/\q xs S R/\Cn h o H R Q
def spN (ps:List Str) (q:PN):Sp:=fun vs H Q _=>vs.length = ps.length/\lfN q vs H Q
theorem HasXs.len {h o:List Addr} {H:Hp}:∀ {xs:List XV} {vs:List V},HasXs h o H xs vs->vs.length = xs.length
 | [],vs,q=>by rw [show vs = [] from q]; rfl
 | x :: xs,vs,⟨v,r,e,_,l⟩=>by rw [e,List.length_cons,List.length_cons,HasXs.len l]
theorem HasXs.get {h o:List Addr} {H:Hp}:∀ {xs:List XV} {vs:List V} {i:Nat} {x:XV},HasXs h o H xs vs->xs[i]? = some x->∃ v,vs[i]? = some v/\HasX h o H x v
 | [],_,i,_,_,e=>by simp at e
 | y :: xs,vs,0,x,⟨v,r,e1,q,l⟩,e=>by
  rw [List.getElem?_cons_zero] at e
  cases e
  subst e1
  exact ⟨v,rfl,q⟩
 | y :: xs,vs,i + 1,x,⟨v,r,e1,q,l⟩,e=>by
  subst e1
  rw [List.getElem?_cons_succ] at e ⊢
  exact HasXs.get l e
theorem zkB {h o:List Addr} {H:Hp} {xs:List XV} {vs:List V} {n:Nat} (q:HasXs h o H xs vs):RepE h o H (xs.map some ++ List.replicate n none) (vs.map some ++ List.replicate n none):=by
 have hl:=q.len
 refine ⟨by simp [hl],fun i x e=>?_⟩
 by_cases hi:i < xs.length
 ·rw [List.getElem?_append_left (by rw [List.length_map]; exact hi),List.getElem?_map] at e
  obtain ⟨y,ey,e⟩:=Option.map_eq_some_iff.mp e
  cases e
  obtain ⟨v,ev,hv⟩:=q.get ey
  exact ⟨v,by rw [List.getElem?_append_left (by rw [List.length_map,hl]; exact hi),List.getElem?_map,ev]; rfl,hv⟩
 ·rw [List.getElem?_append_right (by rw [List.length_map]; omega),List.getElem?_replicate] at e
  split at e <;> cases e
section
variable {P:Program} {w:World} {K:W.Frag} {mg:Str->Option Value} {base:Heap} {x:Str} {st:Stmt} {N ps:List Str} {k:Nat}
theorem Df.dN {q:PN} (D:Dd K mg x st ps) (S:FnScope N ps (zq st)) (n:Nat) (hn:N.length = ps.length + n)
  (hbody:∀ (f:Addr) (cdv:Value) (A:Around) (outer:List Env) (s:Shared) (H:Hp) (E:XK),Room k (A.deeper (envOfC x (zq st) s.heap.objs.size f cdv)) ->
   ∃ t dt,PSs (zmx CX0 P w K mg base N x (zq st) f cdv A outer s H E).nox (zcZ st) t/\RS t dt/\∀ xs S R,q xs S R->dt (zcS S.length R) (xs.map some ++ List.replicate n none) S):Df P w K mg base x ps (k + 1) (spN ps q):=by
 refine Df.of D S (fun vs H Q E h=>h.1) fun f cdv A outer s H vs Q E hr ⟨hl,h,o,S',xs,R,hs',hx,hq,c⟩=>?_
 obtain ⟨t,dt,h1,h2,h3⟩:=hbody f cdv A outer s H E hr
 refine ⟨t,h1,h2 h o H _ _ S' _ _ ?_ hs' (h3 xs S' R hq) (eok hs' c)⟩
 have e:N.length - vs.length = n:=by omega
 unfold start
 rw [e]
 exact zkB hx
end
section
variable {X:Cx} {x:Str} {ps:List Str} {k j:Nat} {pos pos':Pos} {e:Expr} {es:List Expr} {t:TA}
theorem zA {q:PN} (D:Df X.prog X.w X.K X.mg X.base x ps k (spN ps q)) (hr:Room j X.A) (hk:k <= j) (ha:PA X (e :: es) t) (hg:Gl X x:=by rfl) (hdb:(x == ("__debug__":Str)) = false:=by decide)
  (q1:starEach (e :: es) X.env = (false,eval e X.env) :: starEach es X.env:=by rfl) (q2:((backTo pos (starEach es X.env)).any fun x=>x.fst) = false:=by rfl):PE X (.Call (.Name x pos') (e :: es) [] pos) (zmZ (spN ps q) [] E0 t):=by
 obtain ⟨f,fd,F,hm,kp,hb⟩:=D.ex
 exact zlO (dvs:=[]) (ds:=[]) (E:=E0) F (hr.mono hk) hg hm kp hb .nil pass0 ha hdb q1 q2
end
def zaw (m:Nat) (q:PN) (da:DA):DE:=fun δ S R=>da δ S fun xs S1=>∃ ds,datas xs = some ds/\ds.length = m/\q (ds.map XV.d) [] (ret0 S1 R)
theorem hxs0 {h o:List Addr} {H:Hp}:∀ {ds:List PyData} {vs:List V},HasXs h o H (ds.map XV.d) vs->HasXs (h ++ o) [] H (ds.map XV.d) vs
 | [],_,q=>q
 | d :: ds,vs,⟨v,r,e,q,l⟩=>⟨v,r,e,hx0 q,hxs0 l⟩
theorem zN {ps:List Str} {q:PN} {m:Nat} {t:TA} {da:DA} (ha:RA t da) (hm:ps.length = m:=by rfl):RE (zmZ (spN ps q) [] E0 t) (zaw m q da):=fun h o H δ σ S R Q he hs w c =>
 ha h o H δ σ S _ _ he hs w fun o1 H1 S1 xs vs e1 s1 x1 ⟨ds,e,hl,d1⟩=>by
  have ex:=zd4 e
  subst ex
  have hv:=x1.len
  rw [List.append_nil]
  exact ⟨by rw [hv,List.length_map,hl,hm],h ++ o1,[],[],_,_,rep0 s1,hxs0 x1,d1,cn0 s1 (c.pre e1)⟩
def zU (i m:Nat) (q:PN) (da:DA):DE:=fun δ S R=>da δ S fun xs S1=>∃ k,xs[i]? = some (.l k)/\∃ p,S1[k]? = some p/\∃ ds,datas (xs.set i (.d .none)) = some ds/\ds.length = m/\q ((ds.map XV.d).set i (.l 0)) [p] (zrO k S1 R)
theorem zsP {h o:List Addr} {H:Hp} {k:Nat} {a:Addr} (ea:o[k]? = some a):∀ {xs:List XV} {vs:List V} {ds:List PyData} {i:Nat},HasXs h o H xs vs->xs[i]? = some (.l k)->datas (xs.set i (.d .none)) = some ds->HasXs (h ++ o.filter (fun b=>b ≠ a)) [a] H ((ds.map XV.d).set i (.l 0)) vs
 | [],_,_,i,_,e,_=>by simp at e
 | x :: xs,vs,ds,0,⟨v,r,e1,q,l⟩,e,ed=>by
  rw [List.getElem?_cons_zero] at e
  cases e
  rw [List.set_cons_zero] at ed
  obtain ⟨ds',rfl⟩:∃ ds',ds = .none :: ds':=by
   unfold datas at ed
   cases hd:datas xs with
   | none=>rw [hd] at ed; cases ed
   | some y=>rw [hd] at ed; cases ed; exact ⟨y,rfl⟩
  have ed':datas xs = some ds':=by
   unfold datas at ed
   cases hd:datas xs with
   | none=>rw [hd] at ed; cases ed
   | some y=>rw [hd] at ed; cases ed; rfl
  have ex:=zd4 ed'
  subst ex
  obtain ⟨b,eb,rfl⟩:=q
  rw [ea] at eb
  cases eb
  exact ⟨_,r,e1,⟨a,rfl,rfl⟩,go (ea:=ea) l⟩
 | x :: xs,vs,ds,i + 1,⟨v,r,e1,q,l⟩,e,ed=>by
  rw [List.getElem?_cons_succ] at e
  rw [List.set_cons_succ] at ed
  match x,q,ed with
  | .d d,q,ed =>
   unfold datas at ed
   cases hd:datas (xs.set i (.d .none)) with
   | none=>rw [hd] at ed; cases ed
   | some ds' =>
    rw [hd] at ed
    cases ed
    exact ⟨v,r,e1,hxP ea q,zsP ea l e hd⟩
  | .l j,q,ed=>cases ed
  | .o w,q,ed=>cases ed
  | .x _ _,q,ed=>cases ed
where
 go {h o:List Addr} {H:Hp} {k:Nat} {a:Addr} {ea:o[k]? = some a}:∀ {ds:List PyData} {vs:List V},HasXs h o H (ds.map XV.d) vs->HasXs (h ++ o.filter (fun b=>b ≠ a)) [a] H (ds.map XV.d) vs
 | [],_,q=>q
 | d :: ds,vs,⟨v,r,e,q,l⟩=>⟨v,r,e,hxP ea q,go (ea:=ea) l⟩
theorem zl1:∀ {xs:List XV} {ds:List PyData},datas xs = some ds->xs.length = ds.length:=fun e=>by
 rw [zd4 e,List.length_map]
theorem zL {ps:List Str} {q:PN} {i m:Nat} {t:TA} {da:DA} (ha:RA t da) (hm:ps.length = m:=by rfl):RE (zmZ (spN ps q) [] E0 t) (zU i m q da):=fun h o H δ σ S R Q he hs w c =>
 ha h o H δ σ S _ _ he hs w fun o1 H1 S1 xs vs e1 s1 x1 ⟨k,ek,p,ep,ds,e,hl,d1⟩=>by
  have hv:=x1.len
  have hd:=zl1 e
  rw [List.length_set] at hd
  obtain ⟨v,_,a,ea,_⟩:=x1.get ek
  rw [List.append_nil]
  exact ⟨by rw [hv,hd,hl,hm],_,[a],[p],_,_,zr0 s1 ea ep,zsP ea x1 ek e,d1,cnP s1 ea ep (c.pre e1)⟩
end
section
def zrF (K:W.Frag):List V->Hp->VK->Prop:=fun xs H Q=>zse K xs H Q\/∃ z,xs = [.str z]/\z.length <= sizeLine/\Q (.int z.length) H
theorem zE {X:Cx}:CallR X (.builtin "len") (zrF X.K):=zfE.or ziW
def zp0 (S:Sto):XV->Option Nat
 | .d (.tuple ds)=>some ds.length
 | .d (.list ds)=>some ds.length
 | .l k=>(S[k]?).map List.length
 | .d (.str z)=>if z.length <= sizeLine then some z.length else none
 | _=>none
def zaB:List XV->Sto->RX->Prop:=fun xs S R=>arg1 xs fun x=>∃ n,zp0 S x = some n/\R (.d (.int n)) S
theorem zS {K:W.Frag}:RC (zrF K) zaB:=fun h o H S xs vs R Q hs hx q c=>by
 obtain ⟨x,rfl,n,hd,q1⟩:=zbE q
 unfold zp0 at hd
 split at hd
 ·cases hd
  exact .inl (zmo h o H S _ vs R Q hs hx ⟨_,rfl,q1⟩ c)
 ·cases hd
  exact .inl (zmo h o H S _ vs R Q hs hx ⟨_,rfl,q1⟩ c)
 ·rename_i k
  cases hk:S[k]? with
  | none=>rw [hk] at hd; cases hd
  | some ds =>
   rw [hk] at hd
   cases hd
   exact .inl (zmo h o H S _ vs R Q hs hx ⟨ds,hk,q1⟩ c)
 ·split at hd
  ·rename_i hz
   cases hd
   obtain ⟨v,rfl,hx1⟩:=hxs1 hx
   exact .inr ⟨_,by rw [ze4 hx1],hz,c o H S _ _ Ex.refl hs (xI _) q1⟩
  ·cases hd
 ·cases hd
section
variable {S:Sto} {ds:List PyData} {k:Nat} {z:Str}
theorem znN:zp0 S (.d (.tuple ds)) = some ds.length:=rfl
theorem znO:zp0 S (.d (.list ds)) = some ds.length:=rfl
theorem zn6:zp0 S (.l k) = (S[k]?).map List.length:=rfl
end
def zlb (a:DA):DI:=fun δ S R=>a δ S fun xs S1=>arg1 xs fun x=>∃ ds,zkQ x = some ds/\R (zqC 0 ds) S1
def zsI:XV->List XV->Sto->RX->Prop:=fun x xs S R=>∃ k,x = .l k/\∃ ds,S[k]? = some ds/\xs = []/\∃ d,ds[ds.length - 1]? = some d/\R (.d d) (S.set k ds.dropLast)
def zrY (rd:XV->List XV->Sto->RX->Prop) (e:DE) (a:DA):DE:=fun δ S R=>e δ S fun x S1=>∃ z,x = .d (.str z)/\a δ S1 fun xs S2=>rd x xs S2 R
theorem zp9 {K:W.Frag} {r:V->List V->Hp->VK->Prop} {rd:XV->List XV->Sto->RX->Prop} {te:TE} {de:DE} {tl:TA} {dl:DA} (hr:RM r rd) (he':RE te de) (ha:RA tl dl):RE (tBM K "str" r te tl) (zrY rd de dl):=fun h o H δ σ S R Q he hs q c =>
 he' h o H δ σ S _ _ he hs q fun o1 H1 S1 x v e1 s1 x1 ⟨z,ez,d1⟩=>by
  subst ez
  cases ze4 x1
  exact ⟨rfl,ha h o1 H1 δ σ S1 _ _ (he.mono e1) s1 d1 fun o2 H2 S2 xs vs e2 s2 x2 d2=>hr h o2 H2 S2 (.d (.str z)) _ xs vs R Q s2 (HasX.mono (x:=.d (.str z)) e2 x1) x2 d2 (c.pre (e1.trans e2))⟩
theorem zg1 {H:Hp}:∀ {ns:List Str} {vs:List V},HasL H (ns.map PyData.str) vs->vs = ns.map V.str
 | [],vs,h=>zT.mp h
 | n :: ns,vs,h=>by
  obtain ⟨v,r,rfl,h1,h2⟩:=zO.mp h
  rw [zeO.mp h1,zg1 h2]
  rfl
def zmH:XV->List XV->Sto->RX->Prop:=fun x xs S R=>asS x fun z=>arg1 xs fun y=>∃ ds,zlK S y = some ds/\∃ zs:List Str,ds = zs.map PyData.str/\z.length <= 16/\zs.length <= 1000/\(∀ y ∈ zs,y.length <= 1000)/\R (.d (.str (PySem.Txt.join z zs))) S
theorem znt {K:W.Frag}:RM (zqM K) zmH:=fun h o H S x v xs vs R Q hs hx hxs q c=>by
 replace q:=zof q
 obtain ⟨z,rfl,q⟩:=q
 obtain ⟨y,rfl,ds,e,zs,rfl,h1,h2,h3,q1⟩:=zbE q
 obtain ⟨u,rfl,hu⟩:=hxs1 hxs
 obtain ⟨a,ws,rfl,ea,l⟩:=zbP hs e hu
 rw [zg1 l] at ea
 exact ⟨z,a,zs,ze4 hx,rfl,.of ea,h1,h2,h3,c o H S _ _ Ex.refl hs (xS _) q1⟩
def zi5:D2:=fun x y S R=>asL S x fun ds=>asL S y fun es=>ds.length + es.length <= 1000/\R (.l S.length) (S ++ [ds ++ es])
theorem zh4:RO zpT zi5:=fun h o H S x y v u R Q hs hx hy q c=>by
 obtain ⟨ds,e0,es,e1,hl,q⟩:=q
 obtain ⟨a,vs,rfl,ea,la⟩:=zbP hs e0 hx
 obtain ⟨b,us,rfl,eb,lb⟩:=zbP hs e1 hy
 exact ⟨a,b,vs,us,rfl,rfl,ea,eb,by rw [la.length,lb.length]; exact Nat.le_of_lt (small1000 hl),zoC hs (la.append lb) c q⟩
abbrev zs5 (a:Addr) (m:Nat):DEnds:={ nx:=fun δ _=>δ[0]? = some (some (.o (.ref a)))/\δ.length = m + 1,ct:=fun δ _=>δ[0]? = some (some (.o (.ref a)))/\δ.length = m + 1,rt:=fun _ _=>False }
abbrev zsU (a:Addr) (m:Nat):DEnds:={ nx:=fun δ _=>δ[0]? = some (some (.o (.ref a)))/\δ.length = m + 1,rt:=fun _ _=>False }
section
variable {a:Addr} {m:Nat} {t1 t2 t3 t4 u:TS} {dt:DS} {D:Ends} {σ:St} {H:Hp}
theorem zpi (ht:RS (zf1 t1 (zf1 t2 t3)) dt) (h0:σ[0]? = some (some (.ref a))) (hl:σ.length = m + 1) (go:dt (zsU a m) (some (.o (.ref a)) :: List.replicate m none) [])
  (next:∀ (σ:St) (H1:Hp),σ[0]? = some (some (.ref a))->σ.length = m + 1->Same H H1->u D σ H1):zf1 t1 (zf1 t2 (zf1 t3 u)) D σ H:=zst (t:=zf1 t1 (zf1 t2 t3)) ht h0 hl go next
end
end
section
open Sem (wp)
def ItK (t:Bool) (h:Heap) (j a:Addr) (k:Nat):Prop:=match t with
 | true=>h.IsTupleIter j a k
 | false=>h.IsListIter j a k
def SqK (t:Bool) (h:Heap) (a:Addr) (xs:Array Value):Prop:=match t with
 | true=>h.IsTuple a xs
 | false=>h.IsList a xs
theorem ItK.at {t:Bool} {h g:Heap} {j a:Addr} {k:Nat} (q:ItK t h j a k) (f:∀ o,h.get? j = some o->g.get? j = some o):ItK t g j a k:=by
 cases t
 ·exact Heap.IsListIter.at (show h.IsListIter j a k from q) f
 ·exact Heap.IsTupleIter.at (show h.IsTupleIter j a k from q) f
theorem ItK.here {t:Bool} {h:Heap} {j a:Addr} {k:Nat} (q:ItK t h j a k):∃ o,h.get? j = some o/\∀ v,o.data ≠ .cell v:=by
 cases t <;> (obtain ⟨o,e,c,d⟩:=q; exact ⟨o,e,fun v z=>by rw [d] at z; cases z⟩)
theorem SqK.at {t:Bool} {h g:Heap} {a:Addr} {xs:Array Value} (q:SqK t h a xs) (f:∀ o,h.get? a = some o->g.get? a = some o):SqK t g a xs:=by
 cases t <;> (obtain ⟨o,e,r⟩:=q; exact ⟨o,f o e,r⟩)
theorem SqK.here {t:Bool} {h:Heap} {a:Addr} {xs:Array Value} (q:SqK t h a xs):∃ o,h.get? a = some o:=by
 cases t <;> (obtain ⟨o,e,r⟩:=q; exact ⟨o,e⟩)
section
variable {prog:Program} {w:World} {A:Around} {E:Value->Shared->Prop} {s:Shared}
theorem zkg {t:Bool} {j a:Addr} {k:Nat} {xs:Array Value} {x:Value} {Q:Value->Shared->Prop} (hj:ItK t s.heap j a k) (ha:SqK t s.heap a xs) (hx:xs[k]? = some x)
  (hQ:∀ g,ItK t g j a (k + 1)->Heap.SameBut j s.heap g->Q x { s with heap:=g }):wpAny (model prog w) A (Builtin.SmallTypes.nextOf (.ref j)) Q E s:=by
 cases t
 ·exact wpAny_nextOf_list_item hj ha hx hQ
 ·exact zkK hj ha hx hQ
theorem zfl {t:Bool} {j a:Addr} {k:Nat} {xs:Array Value} {Q:Value->Shared->Prop} (hh:A.handled = none) (hj:ItK t s.heap j a k) (ha:SqK t s.heap a xs) (hx:xs[k]? = none)
  (hE:∀ g e,Heap.ExtBut j s.heap g->(∃ o,g.get? e = some o/\o.cls = .type "StopIteration")->E (.ref e) { s with heap:=g }):wpAny (model prog w) A (Builtin.SmallTypes.nextOf (.ref j)) Q E s:=by
 cases t
 ·exact wpAny_nextOf_list_end hh hj ha hx hE
 ·exact zgT hh hj ha hx hE
theorem zqA {t:Bool} {a:Addr} {xs:Array Value} {Q:Value->Shared->Prop} (ha:SqK t s.heap a xs) (hQ:Q (.ref s.heap.objs.size) { s with heap:=s.heap.push { cls:=.type (if t then "tuple_iterator" else "list_iterator"),data:=.fields #[.ref a,.int 0 0] } }):wpAny (model prog w) A (pyIter (.ref a)) Q E s:=by
 cases t
 ·exact wpAny_pyIter_list ha hQ
 ·exact wpAny_pyIter_tuple ha hQ
theorem zlV {T:Addr} {c d x:Value} {k:Nat} {Q:Unit->Shared->Prop} (hT:IsPair s.heap T c d) (hQ:∀ g,g.get? T = some { cls:=.type "tuple",data:=.seq ((#[c,d]:Array Value).setIfInBounds k x) }->Heap.SameBut T s.heap g->Q () { s with heap:=g }) :
  wpAny (model prog w) A (updateSeq T (·.setIfInBounds k x)) Q E s:=wpAny_updateSeq_pair hT hQ
structure ZAp (z p r i j a b:Addr):Prop where
 pz:p ≠ z
 rz:r ≠ z
 iz:i ≠ z
 jz:j ≠ z
 pr:p ≠ r
 pi:p ≠ i
 pj:p ≠ j
 ri:r ≠ i
 rj:r ≠ j
 ij:i ≠ j
 az:a ≠ z
 ar:a ≠ r
 ai:a ≠ i
 aj:a ≠ j
 bz:b ≠ z
 br:b ≠ r
 bi:b ≠ i
 bj:b ≠ j
theorem zh8 {t u:Bool} {z p r i j a b:Addr} {k m:Nat} {xs ys:Array Value} {x y c d:Value} {Q:Value->Shared->Prop} (D:ZAp z p r i j a b) (hz:IsZip s.heap z p r .none) (hp:IsPair s.heap p (.ref i) (.ref j)) (hr:IsPair s.heap r c d)
  (hi:ItK t s.heap i a k) (hj:ItK u s.heap j b m) (ha:SqK t s.heap a xs) (hb:SqK u s.heap b ys) (hx:xs[k]? = some x) (hy:ys[m]? = some y)
  (hQ:∀ g,IsZip g z p r (rawInt s.heap.objs.size)->IsPair g r x y->ItK t g i a (k + 1)->ItK u g j b (m + 1)->IsPair g s.heap.objs.size x y ->
   (∀ q o,q ≠ z->q ≠ r->q ≠ i->q ≠ j->s.heap.get? q = some o->g.get? q = some o)->Q (.ref s.heap.objs.size) { s with heap:=g }) :
  wpAny (model prog w) A (Builtin.«zip.__next__» ⟨[.ref z],[]⟩) (fun fn s'=>∃ v,fn = .done (.ret v)/\Q v s') E s:=by
 obtain ⟨h0,gs,dr,tk,os⟩:=s
 show wpAny _ _ (field (.ref z) 2 >>= _) _ _ ⟨h0,gs,dr,tk,os⟩
 refine wpAny_bind (wpAny_field hz rfl (x:=.bool false) rfl ?_)
 show wpAny _ _ (field (.ref z) 3 >>= _) _ _ ⟨h0,gs,dr,tk,os⟩
 refine wpAny_bind (wpAny_field hz rfl (x:=.ref p) rfl (wpAny_bind (wpAny_seqItems hp rfl ?_)))
 show wpAny _ _ (Builtin.SmallTypes.ownedTupleIsFree (.ref z) >>= _) _ _ ⟨h0,gs,dr,tk,os⟩
 refine wpAny_bind ?_
 unfold Builtin.SmallTypes.ownedTupleIsFree
 refine wpAny_bind (wpAny_field hz rfl (x:=.none) rfl (wpAny_pure ?_))
 simp only [if_true]
 refine wpAny_bind (wpAny_rule (wpAny_bind (wpAny_field hz rfl (x:=.ref r) rfl (wpAny_bind (wpAny_setField_rec hz (by simp) fun g1 z1 b1=>?_)))))
 replace z1:IsZip g1 z p r .ellipsis:=z1
 replace b1:Heap.SameBut z h0 g1:=b1
 refine wpAny_bind ?_
 simp only [List.zipIdx_cons,List.zipIdx_nil,List.forIn_cons,List.forIn_nil]
 refine wpAny_bind (wpAny_bind (wpAny_onRaise ?_))
 show wpAny _ _ (Builtin.SmallTypes.nextOf (.ref i) >>= _) _ _ ⟨g1,gs,dr,tk,os⟩
 refine wpAny_bind (zkg (s:=⟨g1,gs,dr,tk,os⟩) (hi.at fun o e=>b1.extBut i o D.iz e) (ha.at fun o e=>b1.extBut a o D.az e) hx fun g2 i2 b2=>wpAny_pure ?_)
 replace b2:Heap.SameBut i g1 g2:=b2
 have r2:IsPair g2 r c d:=b2.extBut r _ D.ri (b1.extBut r _ D.rz hr)
 refine wpAny_bind (wpAny_seqItems (s:=⟨g2,gs,dr,tk,os⟩) r2 rfl (wpAny_bind (zlV (s:=⟨g2,gs,dr,tk,os⟩) r2 fun g3 r3 b3=>?_)))
 replace r3:IsPair g3 r x d:=r3
 replace b3:Heap.SameBut r g2 g3:=b3
 refine wpAny_bind (wpAny_letGo (wpAny_pure (wpAny_bind (wpAny_bind (wpAny_onRaise ?_)))))
 show wpAny _ _ (Builtin.SmallTypes.nextOf (.ref j) >>= _) _ _ ⟨g3,gs,dr,tk,os⟩
 have k13:∀ q o,q ≠ z->q ≠ r->q ≠ i->h0.get? q = some o->g3.get? q = some o:=fun q o n1 n2 n3 e=>b3.extBut q o n2 (b2.extBut q o n3 (b1.extBut q o n1 e))
 refine wpAny_bind (zkg (s:=⟨g3,gs,dr,tk,os⟩) (hj.at fun o e=>k13 j o D.jz (Ne.symm D.rj) (Ne.symm D.ij) e) (hb.at fun o e=>k13 b o D.bz D.br D.bi e) hy fun g4 j4 b4=>wpAny_pure ?_)
 replace b4:Heap.SameBut j g3 g4:=b4
 have r4:IsPair g4 r x d:=b4.extBut r _ D.rj r3
 refine wpAny_bind (wpAny_seqItems (s:=⟨g4,gs,dr,tk,os⟩) r4 rfl (wpAny_bind (zlV (s:=⟨g4,gs,dr,tk,os⟩) r4 fun g5 r5 b5=>?_)))
 replace r5:IsPair g5 r x y:=r5
 replace b5:Heap.SameBut r g4 g5:=b5
 refine wpAny_bind (wpAny_letGo (wpAny_pure (wpAny_pure (wpAny_bind (wpAny_seqItems (s:=⟨g5,gs,dr,tk,os⟩) r5 rfl (wpAny_bind (wpAny_newTuple ?_)))))))
 have sz:g5.objs.size = h0.objs.size:=by rw [b5.1,b4.1,b3.1,b2.1,b1.1]
 have z5:IsZip g5 z p r .ellipsis:=b5.extBut z _ (Ne.symm D.rz) (b4.extBut z _ (Ne.symm D.jz) (b3.extBut z _ (Ne.symm D.rz) (b2.extBut z _ (Ne.symm D.iz) z1)))
 have k5:∀ q o,q ≠ z->q ≠ r->q ≠ i->q ≠ j->h0.get? q = some o->g5.get? q = some o:=fun q o n1 n2 n3 n4 e=>b5.extBut q o n2 (b4.extBut q o n4 (k13 q o n1 n2 n3 e))
 have i5:ItK t g5 i a (k + 1):=ItK.at i2 fun o e=>b5.extBut i o (Ne.symm D.ri) (b4.extBut i o D.ij (b3.extBut i o (Ne.symm D.ri) e))
 have j5:ItK u g5 j b (m + 1):=ItK.at j4 fun o e=>b5.extBut j o (Ne.symm D.rj) e
 have zl:z < g5.objs.size:=Heap.lt_size z5
 show wpAny _ _ (Builtin.SmallTypes.ownedTupleHandOut (.ref z) (.ref g5.objs.size) >>= _) _ _ _
 refine wpAny_bind ?_
 unfold Builtin.SmallTypes.ownedTupleHandOut
 have z6:IsZip (g5.push { cls:=.type "tuple",data:=.seq #[x,y] }) z p r .ellipsis:=Heap.get?_push_of_some _ z5
 refine wpAny_bind (wpAny_setField_rec z6 (by simp) fun g7 z7 b7=>?_)
 replace z7:IsZip g7 z p r (rawInt g5.objs.size):=z7
 replace b7:Heap.SameBut z (g5.push { cls:=.type "tuple",data:=.seq #[x,y] }) g7:=b7
 refine wpAny_setField_rec z7 (by simp) fun g8 z8 b8=>?_
 replace z8:IsZip g8 z p r (rawInt g5.objs.size):=z8
 replace b8:Heap.SameBut z g7 g8:=b8
 have up:∀ q o,q ≠ z->g5.get? q = some o->g8.get? q = some o:=fun q o n e=>b8.extBut q o n (b7.extBut q o n (Heap.get?_push_of_some _ e))
 have t8:IsPair g8 g5.objs.size x y:=b8.extBut _ _ (Nat.ne_of_gt zl) (b7.extBut _ _ (Nat.ne_of_gt zl) (Heap.get?_push_size _ rfl))
 rw [sz] at z8 t8
 refine wpAny_pure ⟨_,rfl,?_⟩
 show Q (.ref g5.objs.size) _
 rw [sz]
 exact hQ g8 z8 (up r _ D.rz r5) (i5.at fun o e=>up i o D.iz e) (j5.at fun o e=>up j o D.jz e) t8 fun q o n1 n2 n3 n4 e=>up q o n1 (k5 q o n1 n2 n3 n4 e)
theorem zis {t u:Bool} {z p r i j a b:Addr} {k m:Nat} {xs ys:Array Value} {c d:Value} {Q:Fin->Shared->Prop} (hh:A.handled = none) (D:ZAp z p r i j a b) (hz:IsZip s.heap z p r .none) (hp:IsPair s.heap p (.ref i) (.ref j)) (hr:IsPair s.heap r c d)
  (hi:ItK t s.heap i a k) (hj:ItK u s.heap j b m) (ha:SqK t s.heap a xs) (hb:SqK u s.heap b ys) (hend:xs[k]? = none\/ys[m]? = none)
  (hE:∀ g e,(∀ q o,q ≠ z->q ≠ r->q ≠ i->q ≠ j->s.heap.get? q = some o->g.get? q = some o)->(∃ o,g.get? e = some o/\o.cls = .type "StopIteration")->E (.ref e) { s with heap:=g }) :
  wpAny (model prog w) A (Builtin.«zip.__next__» ⟨[.ref z],[]⟩) Q E s:=by
 obtain ⟨h0,gs,dr,tk,os⟩:=s
 show wpAny _ _ (field (.ref z) 2 >>= _) _ _ ⟨h0,gs,dr,tk,os⟩
 refine wpAny_bind (wpAny_field hz rfl (x:=.bool false) rfl ?_)
 show wpAny _ _ (field (.ref z) 3 >>= _) _ _ ⟨h0,gs,dr,tk,os⟩
 refine wpAny_bind (wpAny_field hz rfl (x:=.ref p) rfl (wpAny_bind (wpAny_seqItems hp rfl ?_)))
 show wpAny _ _ (Builtin.SmallTypes.ownedTupleIsFree (.ref z) >>= _) _ _ ⟨h0,gs,dr,tk,os⟩
 refine wpAny_bind ?_
 unfold Builtin.SmallTypes.ownedTupleIsFree
 refine wpAny_bind (wpAny_field hz rfl (x:=.none) rfl (wpAny_pure ?_))
 simp only [if_true]
 refine wpAny_bind (wpAny_rule (wpAny_bind (wpAny_field hz rfl (x:=.ref r) rfl (wpAny_bind (wpAny_setField_rec hz (by simp) fun g1 z1 b1=>?_)))))
 replace z1:IsZip g1 z p r .ellipsis:=z1
 replace b1:Heap.SameBut z h0 g1:=b1
 refine wpAny_bind ?_
 simp only [List.zipIdx_cons,List.zipIdx_nil,List.forIn_cons,List.forIn_nil]
 refine wpAny_bind (wpAny_bind (wpAny_onRaise ?_))
 show wpAny _ _ (Builtin.SmallTypes.nextOf (.ref i) >>= _) _ _ ⟨g1,gs,dr,tk,os⟩
 have notz:∀ {g:Heap} {e:Addr} {o:Obj},IsZip g z p r .ellipsis->g.get? e = some o->o.cls = .type "StopIteration"->e ≠ z:=fun h1 h2 h3 w=>by
  subst w
  rw [h1] at h2
  cases h2
  simp at h3
 cases hx:xs[k]? with
 | none =>
  refine wpAny_bind (zfl (s:=⟨g1,gs,dr,tk,os⟩) hh (hi.at fun o e=>b1.extBut i o D.iz e) (ha.at fun o e=>b1.extBut a o D.az e) hx fun g2 e b2 he=>?_)
  obtain ⟨oe,e1,e2⟩:=he
  have z2:IsZip g2 z p r .ellipsis:=b2 z _ (Ne.symm D.iz) z1
  exact wpAny_setField_rec z2 (by simp) fun g3 _ b3=>hE g3 e (fun q o n1 _ n3 _ w=>b3.extBut q o n1 (b2 q o n3 (b1.extBut q o n1 w))) ⟨oe,b3.extBut e oe (notz z2 e1 e2) e1,e2⟩
 | some x =>
  have hy:ys[m]? = none:=hend.elim (fun w=>by rw [hx] at w; cases w) id
  refine wpAny_bind (zkg (s:=⟨g1,gs,dr,tk,os⟩) (hi.at fun o e=>b1.extBut i o D.iz e) (ha.at fun o e=>b1.extBut a o D.az e) hx fun g2 i2 b2=>wpAny_pure ?_)
  replace b2:Heap.SameBut i g1 g2:=b2
  have r2:IsPair g2 r c d:=b2.extBut r _ D.ri (b1.extBut r _ D.rz hr)
  refine wpAny_bind (wpAny_seqItems (s:=⟨g2,gs,dr,tk,os⟩) r2 rfl (wpAny_bind (zlV (s:=⟨g2,gs,dr,tk,os⟩) r2 fun g3 r3 b3=>?_)))
  replace b3:Heap.SameBut r g2 g3:=b3
  refine wpAny_bind (wpAny_letGo (wpAny_pure (wpAny_bind (wpAny_bind (wpAny_onRaise ?_)))))
  show wpAny _ _ (Builtin.SmallTypes.nextOf (.ref j) >>= _) _ _ ⟨g3,gs,dr,tk,os⟩
  have k13:∀ q o,q ≠ z->q ≠ r->q ≠ i->h0.get? q = some o->g3.get? q = some o:=fun q o n1 n2 n3 e=>b3.extBut q o n2 (b2.extBut q o n3 (b1.extBut q o n1 e))
  refine wpAny_bind (zfl (s:=⟨g3,gs,dr,tk,os⟩) hh (hj.at fun o e=>k13 j o D.jz (Ne.symm D.rj) (Ne.symm D.ij) e) (hb.at fun o e=>k13 b o D.bz D.br D.bi e) hy fun g4 e b4 he=>?_)
  obtain ⟨oe,e1,e2⟩:=he
  have z4:IsZip g4 z p r .ellipsis:=b4 z _ (Ne.symm D.jz) (b3.extBut z _ (Ne.symm D.rz) (b2.extBut z _ (Ne.symm D.iz) z1))
  exact wpAny_setField_rec z4 (by simp) fun g5 _ b5=>hE g5 e (fun q o n1 n2 n3 n4 w=>b5.extBut q o n1 (b4 q o n4 (k13 q o n1 n2 n3 w))) ⟨oe,b5.extBut e oe (notz z4 e1 e2) e1,e2⟩
abbrev zpA (t:Bool) (h:Heap) (a:Addr):Heap:=h.push { cls:=.type (if t then "tuple_iterator" else "list_iterator"),data:=.fields #[.ref a,.int 0 0] }
abbrev zpB (t u:Bool) (h:Heap) (a b:Addr):Heap:=(zpA t h a).push { cls:=.type (if u then "tuple_iterator" else "list_iterator"),data:=.fields #[.ref b,.int 0 0] }
abbrev zpC (t u:Bool) (h:Heap) (a b:Addr):Heap:=(zpB t u h a b).push { cls:=.type "tuple",data:=.seq #[.ref h.objs.size,.ref (zpA t h a).objs.size] }
abbrev zpD (t u:Bool) (h:Heap) (a b:Addr):Heap:=(zpC t u h a b).push { cls:=.type "tuple",data:=.seq #[.none,.none] }
abbrev zpE (t u:Bool) (h:Heap) (a b:Addr):Heap:=(zpD t u h a b).push { cls:=.type "zip",data:=.fields #[.none,.bool false,.bool false,.ref (zpB t u h a b).objs.size,.ref (zpC t u h a b).objs.size] }
theorem zoI (t u:Bool) (a b:Addr) (xs ys:Array Value):Meets (Builtin.«zip.__new__» ⟨[.type "zip",.ref a,.ref b],[]⟩) (fun _ R s=>SqK t s.heap a xs/\SqK u s.heap b ys /\
   ∀ g,IsZip g (s.heap.objs.size + 4) (s.heap.objs.size + 2) (s.heap.objs.size + 3) .none->IsPair g (s.heap.objs.size + 2) (.ref s.heap.objs.size) (.ref (s.heap.objs.size + 1))->IsPair g (s.heap.objs.size + 3) .none .none ->
    ItK t g s.heap.objs.size a 0->ItK u g (s.heap.objs.size + 1) b 0->(∀ q o,s.heap.get? q = some o->g.get? q = some o)->R (.ok (.ret (.ref (s.heap.objs.size + 4)))) { s with heap:=g }) :=
 .of_wp fun prog w A R s hyp=>by
  obtain ⟨g0,gs,dr,tk,os⟩:=s
  obtain ⟨ha,hb,hyp⟩:=hyp
  have sub:=sub_zip
  have hA:SqK t (Shared.heap ⟨g0,gs,dr,tk,os⟩) a xs:=ha
  have hB:SqK u (Shared.heap ⟨g0.push { cls:=.type (if t then "tuple_iterator" else "list_iterator"),data:=.fields #[.ref a,.int 0 0] },gs,dr,tk,os⟩) b ys:=SqK.at hb fun o e=>Heap.get?_push_of_some _ e
  wp_walk using zqA hA,zqA hB
  refine ⟨_,rfl,?_⟩
  have z1:(zpA t g0 a).objs.size = g0.objs.size + 1:=Heap.size_push ..
  have z2:(zpB t u g0 a b).objs.size = g0.objs.size + 2:=by rw [Heap.size_push,z1]
  have z3:(zpC t u g0 a b).objs.size = g0.objs.size + 3:=by rw [Heap.size_push,z2]
  have z4:(zpD t u g0 a b).objs.size = g0.objs.size + 4:=by rw [Heap.size_push,z3]
  have f1:=Heap.get?_push_size g0 (o:={ cls:=.type (if t then "tuple_iterator" else "list_iterator"),data:=.fields #[.ref a,.int 0 0] }) (by cases t <;> rfl)
  have f2:=Heap.get?_push_size (zpA t g0 a) (o:={ cls:=.type (if u then "tuple_iterator" else "list_iterator"),data:=.fields #[.ref b,.int 0 0] }) (by cases u <;> rfl)
  have f3:=Heap.get?_push_size (zpB t u g0 a b) (o:={ cls:=.type "tuple",data:=.seq #[.ref g0.objs.size,.ref (zpA t g0 a).objs.size] }) rfl
  have f4:=Heap.get?_push_size (zpC t u g0 a b) (o:={ cls:=.type "tuple",data:=.seq #[.none,.none] }) rfl
  have f5:=Heap.get?_push_size (zpD t u g0 a b) (o:={ cls:=.type "zip",data:=.fields #[.none,.bool false,.bool false,.ref (zpB t u g0 a b).objs.size,.ref (zpC t u g0 a b).objs.size] }) rfl
  have c1:∀ q o,g0.get? q = some o->(zpA t g0 a).get? q = some o:=fun q o e=>Heap.get?_push_of_some _ e
  have c2:∀ q o,(zpA t g0 a).get? q = some o->(zpB t u g0 a b).get? q = some o:=fun q o e=>Heap.get?_push_of_some _ e
  have c3:∀ q o,(zpB t u g0 a b).get? q = some o->(zpC t u g0 a b).get? q = some o:=fun q o e=>Heap.get?_push_of_some _ e
  have c4:∀ q o,(zpC t u g0 a b).get? q = some o->(zpD t u g0 a b).get? q = some o:=fun q o e=>Heap.get?_push_of_some _ e
  have c5:∀ q o,(zpD t u g0 a b).get? q = some o->(zpE t u g0 a b).get? q = some o:=fun q o e=>Heap.get?_push_of_some _ e
  have y1:=c5 _ _ (c4 _ _ (c3 _ _ (c2 _ _ f1)))
  have y2:=c5 _ _ (c4 _ _ (c3 _ _ f2))
  have y3:=c5 _ _ (c4 _ _ f3)
  have y4:=c5 _ _ f4
  have y5:(zpE t u g0 a b).get? (zpD t u g0 a b).objs.size = some { cls:=.type "zip",data:=.fields #[.none,.bool false,.bool false,.ref (zpB t u g0 a b).objs.size,.ref (zpC t u g0 a b).objs.size] }:=f5
  have fin:R (.ok (.ret (.ref (zpD t u g0 a b).objs.size))) ⟨zpE t u g0 a b,gs,dr,tk,os⟩:=by
   rw [z4,z2,z3] at y5
   rw [z2,z1] at y3
   rw [z3] at y4
   rw [z1] at y2
   rw [z4]
   refine hyp _ y5 y3 y4 ?_ ?_ fun q o e=>c5 q o (c4 q o (c3 q o (c2 q o (c1 q o e))))
   ·cases t <;> exact ⟨_,y1,rfl,rfl⟩
   ·cases u <;> exact ⟨_,y2,rfl,rfl⟩
  exact fin
theorem ziP {t u:Bool} {a b:Addr} {xs ys:Array Value} {Q:Value->Shared->Prop} (ha:SqK t s.heap a xs) (hb:SqK u s.heap b ys)
  (hyp:∀ g,IsZip g (s.heap.objs.size + 4) (s.heap.objs.size + 2) (s.heap.objs.size + 3) .none->IsPair g (s.heap.objs.size + 2) (.ref s.heap.objs.size) (.ref (s.heap.objs.size + 1))->IsPair g (s.heap.objs.size + 3) .none .none ->
    ItK t g s.heap.objs.size a 0->ItK u g (s.heap.objs.size + 1) b 0->(∀ q o,s.heap.get? q = some o->g.get? q = some o)->Q (.ref (s.heap.objs.size + 4)) { s with heap:=g }):wpAny (model prog w) A (call (.type "zip") [.ref a,.ref b]) Q E s:=by
 refine callType_new F.called_zip (by decide) (F.typeCall_zip_2 _ _) (F.newCall_zip_2 _ _) (fun ob=>F.args_object_init_3 ob _ _) F.entry_zip_new (zoI t u a b xs ys) ⟨ha,hb,fun g h1 h2 h3 h4 h5 h6=>?_⟩
 exact ⟨⟨_,h1,rfl⟩,hyp g h1 h2 h3 h4 h5 h6⟩
end
def Itz (S1 S2:Hp->Addr->List V->Prop) (a b:Addr):It :=
 ⟨fun i H=>∃ xs ys x y,S1 H a xs/\S2 H b ys/\xs[i]? = some x/\ys[i]? = some y,fun i H x H'=>∃ p v u,H p = none/\x = .ref p/\H' = upd H p (.tup [v,u])/\(∀ xs,S1 H a xs->xs[i]? = some v)/\(∀ ys,S2 H b ys->ys[i]? = some u),fun i H=>∃ xs ys,S1 H a xs/\S2 H b ys/\(xs.length <= i\/ys.length <= i)⟩
def SqV (K:W.Frag) (t:Bool) (H:Hp) (a:Addr) (xs:List V):Prop:=match t with
 | true=>SqT K H a xs
 | false=>SqL K H a xs
theorem Inv.seqK {X:Cx} {zo:List (Addr × Obj)} {σ:St} {H:Hp} {s:Shared} {t:Bool} {a:Addr} {xs:List V} (I:Inv X zo σ H s) (h:SqV X.K t H a xs):∃ its:List Value,Vals xs its/\SqK t s.heap a its.toArray/\∀ ys,SqV X.K t H a ys->ys = xs:=by
 cases t
 ·obtain ⟨its,rv,p,_⟩:=I.list h
  exact ⟨its,rv,p.isList,fun ys hy=>I.list_inj hy h⟩
 ·obtain ⟨its,rv,p,_⟩:=I.tuple h
  exact ⟨its,rv,p,fun ys hy=>I.tuple_inj hy h⟩
theorem zna {P:Program} {w:World} {K:W.Frag} {elts:List Expr} {n:Nat} {pos:Pos} (t u:Bool) (z p r i j a b:Addr) (D:ZAp z p r i j a b):Turn P w K (.Tuple elts n pos) (Itz (SqV K t) (SqV K u) a b) [z,p,r,i,j] z
  (fun k h=>IsZip h z p r .none/\IsPair h p (.ref i) (.ref j)/\(∃ c d,IsPair h r c d)/\ItK t h i a k/\ItK u h j b k) where
 mem:=by simp
 obj:=fun k h ⟨h1,h2,⟨c,d,h3⟩,h4,h5⟩ q hq=>by
  simp only [List.mem_cons,List.not_mem_nil,or_false] at hq
  rcases hq with rfl | rfl | rfl | rfl | rfl
  ·exact ⟨_,h1,fun v e=>by cases (show Data.fields _ = Data.cell v from e)⟩
  ·exact ⟨_,h2,fun v e=>by cases (show Data.seq _ _ = Data.cell v from e)⟩
  ·exact ⟨_,h3,fun v e=>by cases (show Data.seq _ _ = Data.cell v from e)⟩
  ·exact h4.here
  ·exact h5.here
 keep:=fun k h h' ⟨h1,h2,⟨c,d,h3⟩,h4,h5⟩ f=>⟨f z (by simp) _ h1,f p (by simp) _ h2,⟨c,d,f r (by simp) _ h3⟩,h4.at fun o e=>f i (by simp) o e,h5.at fun o e=>f j (by simp) o e⟩
 item:=by
  intro X hP hw hK hc k zo s σ H E I hf st hg
  subst hP hw hK
  obtain ⟨xs,ys,x,y,q1,q2,ex,ey⟩:=hg
  obtain ⟨its,rv,sq,inj⟩:=I.seqK q1
  obtain ⟨its2,rv2,sq2,inj2⟩:=I.seqK q2
  obtain ⟨v1,e1,r1⟩:=rv.get ex
  obtain ⟨v2,e2,r2⟩:=rv2.get ey
  obtain ⟨h1,h2,⟨c,d,h3⟩,h4,h5⟩:=st
  have ty:s.TypeIs (.ref z) "zip":=⟨_,h1,rfl⟩
  unfold pyNext
  refine wpAny_bind (wpAny_attempt (wpAny_callSpecial?_slot (name:=Str.ofString "__next__") ty F.slot_zip_next (wpAny_call_entry F.slot_zip_next ty F.entry_zip_next
   (zh8 D h1 h2 h3 h4 h5 sq sq2 (by simpa using e1) (by simpa using e2) fun g a1 a2 a3 a4 a5 kk=>wpAny_pure ⟨_,rfl,?_⟩) (F.args_zip_next_1 _))))
  refine wpAny_letOwnedTupleGo_zip (s:={ s with heap:=g }) a1 fun g' z' b'=>?_
  have lt:∀ {q o},s.heap.get? q = some o->s.heap.objs.size ≠ q:=fun e=>Nat.ne_of_gt (Heap.lt_size e)
  have b'':Heap.SameBut z g g':=b'
  have pT:IsPair g' s.heap.objs.size v1 v2:=b''.extBut _ _ (lt h1) a5
  have hn:=I.hok.fresh (Nat.le_refl s.heap.objs.size)
  have kk':∀ q o,q ∉ [z,r,i,j]->s.heap.get? q = some o->g'.get? q = some o:=fun q o hq e=>by
   simp only [List.mem_cons,List.not_mem_nil,or_false,not_or] at hq
   exact b''.extBut q o hq.1 (kk q o hq.1 hq.2.1 hq.2.2.1 hq.2.2.2 e)
  have I1:Inv X zo σ (upd H s.heap.objs.size (.tup [x,y])) { s with heap:=g' }:=I.turnLaid (t':=s.toks) (ch:=[z,r,i,j]) kk' (fun q hq=>hf q (by
   simp only [List.mem_cons,List.not_mem_nil,or_false] at hq ⊢
   rcases hq with h | h | h | h
   ·exact .inl h
   ·exact .inr (.inr (.inl h))
   ·exact .inr (.inr (.inr (.inl h)))
   ·exact .inr (.inr (.inr (.inr h))))) (Nat.le_refl _) ⟨⟨by show 2 <= sizeLine; decide,_,pT,rfl⟩,[v1,v2],.cons r1 (.cons r2 .nil),⟨_,pT,rfl,_,rfl⟩⟩
  have fresh:∀ q,q ∈ [z,p,r,i,j]->q ≠ s.heap.objs.size:=fun q hq w=>by
   simp only [List.mem_cons,List.not_mem_nil,or_false] at hq
   obtain ⟨o1,w1,_⟩:=h4.here
   obtain ⟨o2,w2,_⟩:=h5.here
   rcases hq with h | h | h | h | h
   ·exact lt h1 (w.symm.trans h)
   ·exact lt h2 (w.symm.trans h)
   ·exact lt h3 (w.symm.trans h)
   ·exact lt w1 (w.symm.trans h)
   ·exact lt w2 (w.symm.trans h)
  refine ⟨.ref s.heap.objs.size,_,I1,rfl,⟨_,x,y,hn,rfl,rfl,fun zs hz=>by rw [inj zs hz]; exact ex,fun zs hz=>by rw [inj2 zs hz]; exact ey⟩,⟨z',kk' p _ (by simp [D.pz,D.pr,D.pi,D.pj]) h2,⟨_,_,b''.extBut r _ D.rz a2⟩,a3.at fun o e=>b''.extBut i o D.iz e,a4.at fun o e=>b''.extBut j o D.jz e⟩,fun q hq=>?_⟩
  rw [zae (fresh q hq)]
  exact (hf q hq).1
 done:=by
  intro X hP hw hK hc k zo s σ H E I hf st hg
  subst hP hw hK
  obtain ⟨xs,ys,q1,q2,hl⟩:=hg
  obtain ⟨its,rv,sq,inj⟩:=I.seqK q1
  obtain ⟨its2,rv2,sq2,inj2⟩:=I.seqK q2
  obtain ⟨h1,h2,⟨c,d,h3⟩,h4,h5⟩:=st
  have l1:=rv.length
  have l2:=rv2.length
  have ty:s.TypeIs (.ref z) "zip":=⟨_,h1,rfl⟩
  unfold pyNext
  refine wpAny_bind (wpAny_attempt (wpAny_callSpecial?_slot (name:=Str.ofString "__next__") ty F.slot_zip_next (wpAny_call_entry F.slot_zip_next ty F.entry_zip_next
   (zis (I.ok.hd hc) D h1 h2 h3 h4 h5 sq sq2 (hl.elim (fun h=>.inl (by simp; omega)) fun h=>.inr (by simp; omega)) fun g e kk he=>?_) (F.args_zip_next_1 _))))
  obtain ⟨o,ho,hc'⟩:=he
  refine wpAny_bind (wpAny_isInstance (T:="StopIteration") (b:=true) ⟨o,ho,hc'⟩ isSubtype_stop (wpAny_pure ⟨rfl,?_⟩))
  refine I.turnedN (t':=s.toks) (ch:=[z,r,i,j]) (fun q o hq e=>?_) fun q hq=>hf q (by
   simp only [List.mem_cons,List.not_mem_nil,or_false] at hq ⊢
   rcases hq with h | h | h | h
   ·exact .inl h
   ·exact .inr (.inr (.inl h))
   ·exact .inr (.inr (.inr (.inl h)))
   ·exact .inr (.inr (.inr (.inr h))))
  simp only [List.mem_cons,List.not_mem_nil,or_false,not_or] at hq
  exact kk q o hq.1 hq.2.1 hq.2.2.1 hq.2.2.2 e
 self:=fun _ _ _ _ _ st h=>wpAny_pyIter_zip st.1 h
theorem nne {a b:Nat} (h:a < b\/b < a):(show Addr from a) ≠ (show Addr from b):=fun e=>by
 have e':a = b:=e
 omega
theorem zoh (N a b:Nat) (ha:a < N) (hb:b < N):ZAp (N + 4) (N + 2) (N + 3) N (N + 1) a b:=by
 constructor <;> exact nne (by omega)
theorem zoG (N q:Nat) (hq:q = N + 4\/q = N + 2\/q = N + 3\/q = N\/q = N + 1):N <= q:=by omega
section
variable {X:Cx} {elts:List Expr} {n:Nat} {tpos:Pos}
theorem zjA:bootBuiltins "zip" = some (.type "zip"):=by decide +kernel
def zq2 (K:W.Frag) (ta:TA):TI:=fun σ H R=>ta σ H fun vs H1=>∃ a b t u,vs = [.ref a,.ref b]/\(∃ xs,SqV K t H1 a xs)/\(∃ ys,SqV K u H1 b ys)/\R (Itz (SqV K t) (SqV K u) a b) H1
theorem zfy {e1 e2:Expr} {ta:TA} {p pos:Pos} (hg:Gl X "zip") (hm:X.mg "zip" = none) (ha:PA X [e1,e2] ta) (hs:starEach [e1,e2] X.env = [(false,eval e1 X.env),(false,eval e2 X.env)]:=by rfl) (hs2:starEach [e2] X.env = [(false,eval e2 X.env)]:=by rfl) :
  PI X (.Tuple elts n tpos) (.Call (.Name "zip" p) [e1,e2] [] pos) (zq2 X.K ta):=by
 intro zo s σ H R I h
 refine Call_ (ze9 I hg hm zjA (PyProof.Rows.callWith_type1 (thn (ha pos zo s σ H _ I h) fun us s1 ⟨vs,H1,I1,r1,q1⟩=>?_) (by rw [hs,hs2]) (by rw [hs2]; rfl)))
 obtain ⟨a,b,t,u,e,⟨xs,q1⟩,⟨ys,q2⟩,q⟩:=q1
 subst e
 cases r1 with
 | cons r rr =>
  cases rr with
  | cons r' rr =>
   cases rr
   cases r
   cases r'
   obtain ⟨its,rv,sq,_⟩:=I1.seqK q1
   obtain ⟨its2,rv2,sq2,_⟩:=I1.seqK q2
   refine ziP sq sq2 fun g h1 h2 h3 h4 h5 k=>?_
   refine wpAny_pyIter_zip (s:={ s1 with heap:=g }) h1 ?_
   have I2:Inv X zo σ H1 { s1 with heap:=g }:=I1.kept (t':=s1.toks) k
   obtain ⟨oa,fa⟩:=sq.here
   obtain ⟨ob,fb⟩:=sq2.here
   have la:=Heap.lt_size fa
   have lb:=Heap.lt_size fb
   have D:ZAp (s1.heap.objs.size + 4) (s1.heap.objs.size + 2) (s1.heap.objs.size + 3) s1.heap.objs.size (s1.heap.objs.size + 1) a b:=zoh _ _ _ la lb
   refine ⟨_,[s1.heap.objs.size + 4,s1.heap.objs.size + 2,s1.heap.objs.size + 3,s1.heap.objs.size,s1.heap.objs.size + 1],_,_,H1,rfl,I2,zna t u _ _ _ _ _ a b D,⟨h1,h2,⟨_,_,h3⟩,h4,h5⟩,fun q hq=>?_,q⟩
   have hl:s1.heap.objs.size <= q:=by
    simp only [List.mem_cons,List.not_mem_nil,or_false] at hq
    exact zoG _ _ hq
   exact I1.fpOk hl (I1.hok.fresh hl)
end
def zgU:List PyData->List PyData->List PyData
 | d :: ds,e :: es=>.tuple [d,e] :: zgU ds es
 | _,_=>[]
theorem zhK:∀ (ds es:List PyData) (k:Nat) (x:PyData),(zgU ds es)[k]? = some x->∃ d e,ds[k]? = some d/\es[k]? = some e/\x = .tuple [d,e]
 | [],_,_,_,h=>by simp [zgU] at h
 | _ :: _,[],_,_,h=>by simp [zgU] at h
 | d :: ds,e :: es,0,x,h=>by
  have e':PyData.tuple [d,e] = x:=by simpa [zgU] using h
  exact ⟨d,e,rfl,rfl,e'.symm⟩
 | d :: ds,e :: es,k + 1,x,h=>by
  obtain ⟨d',e',h1,h2,h3⟩:=zhK ds es k x (by simpa [zgU] using h)
  exact ⟨d',e',by simpa using h1,by simpa using h2,h3⟩
theorem zjM:∀ (ds es:List PyData),(zgU ds es).length = min ds.length es.length
 | [],_=>by simp [zgU]
 | _ :: _,[]=>by simp [zgU]
 | d :: ds,e :: es=>by simp [zgU,zjM ds es]; try omega
theorem zdv {α β:Type} (f:α->PyData) (g:β->PyData):∀ (xs:List α) (ys:List β),zgU (xs.map f) (ys.map g) = (xs.zip ys).map fun q=>.tuple [f q.1,g q.2]
 | [],_=>by simp [zgU]
 | _ :: _,[]=>by simp [zgU]
 | x :: xs,y :: ys=>by simp [zgU,zdv f g xs ys]
def zfj (a:DA):DI:=fun δ S R=>a δ S fun xs S1=>arg2 xs fun x y=>∃ ds,zkQ x = some ds/\∃ es,zkQ y = some es/\R (zgU ds es) S1
theorem zfX {K:W.Frag} {h o:List Addr} {H:Hp} {x:XV} {v:V} {ds:List PyData} (e:zkQ x = some ds) (q:HasX h o H x v):∃ t a ws,v = .ref a/\HasL (vx h o H) ds ws/\∀ {o2 H2},ExH h o H o2 H2->SqV K t H2 a ws:=by
 unfold zkQ at e
 split at e
 ·cases e
  obtain ⟨a,ws,rfl,ea,l⟩:=zbI.mp (show Has (vx h o H) (.list ds) v from q)
  exact ⟨false,a,ws,rfl,l,fun e2=>(SqL.of (zbo _ _ (e2.vx _ _ ea)):SqL K _ a ws)⟩
 ·cases e
  obtain ⟨a,ws,rfl,ea,l⟩:=zbx.mp (show Has (vx h o H) (.tuple ds) v from q)
  exact ⟨true,a,ws,rfl,l,fun e2=>(SqT.of (zbo _ _ (e2.vx _ _ ea)):SqT K _ a ws)⟩
 ·cases e
theorem zfv {K:W.Frag} {ta:TA} {da:DA} (ha:RA ta da):RI (zq2 K ta) (zfj da):=fun h o H δ σ S R Q he hs q c =>
 ha h o H δ σ S _ _ he hs q fun o1 H1 S1 xs vs e1 s1 x1 d0=>by
  obtain ⟨x,y,rfl,ds,hd,es,hes,d1⟩:=zgg d0
  obtain ⟨v,u,rfl,hv,hu⟩:=hxs2 x1
  obtain ⟨t,a,ws,rfl,l,k1⟩:=zfX (K:=K) hd hv
  obtain ⟨t',b,zs,rfl,l',k2⟩:=zfX (K:=K) hes hu
  have hl:=l.length
  have hl':=l'.length
  refine ⟨a,b,t,t',rfl,⟨ws,k1 ExH.refl⟩,⟨zs,k2 ExH.refl⟩,c o1 H1 S1 _ _ e1 s1 ⟨fun i o2 H2 e2 hi=>⟨ws,zs,k1 e2,k2 e2,by rw [zjM] at hi; omega⟩,fun i d o2 H2 e2 hi=>?_,fun i d o2 H2 x H3 S2 e2 s2 hi y=>?_⟩ d1⟩
  ·obtain ⟨d',e',h1,h2,rfl⟩:=zhK ds es i d hi
   obtain ⟨u1,eu1,_⟩:=l.get h1
   obtain ⟨u2,eu2,_⟩:=l'.get h2
   exact ⟨ws,zs,u1,u2,k1 e2,k2 e2,eu1,eu2⟩
  ·obtain ⟨d',e',h1,h2,rfl⟩:=zhK ds es i d hi
   obtain ⟨u1,eu1,hu1⟩:=l.get h1
   obtain ⟨u2,eu2,hu2⟩:=l'.get h2
   obtain ⟨p,v,u,hp,rfl,rfl,y1,y2⟩:=y
   have f1:=y1 ws (k1 e2)
   have f2:=y2 zs (k2 e2)
   rw [eu1] at f1
   rw [eu2] at f2
   cases f1
   cases f2
   exact ⟨Same.laid hp,zbx.mpr ⟨p,_,rfl,s2.laid hp,zO.mpr ⟨_,_,rfl,(hu1.mono e2.vx).mono (zfw (Same.laid hp)),zO.mpr ⟨_,_,rfl,(hu2.mono e2.vx).mono (zfw (Same.laid hp)),zT.mpr rfl⟩⟩⟩⟩
end
section
open Sem (wp)
section
variable {prog:Program} {w:World} {A:Around} {R:Result->Shared->Prop} {I:Addr} {fp wr:List Addr} {n:Nat} {P:Nat->Value->Prop} {St:Nat->Heap->Prop}
def CmpH (prog:Program) (w:World) (A:Around) (g:Heap) (own:List Addr) (P:Nat->Value->Prop) (bt:Nat->Nat->Bool):Prop :=
 ∀ i j x y (s:Shared) (Q:Value->Shared->Prop) (E:Value->Shared->Prop),(∀ b o,b ∉ own->g.get? b = some o->s.heap.get? b = some o)->P i x->P j y->Q (.bool (bt i j)) s->wpAny (model prog w) A (richCompare .Lt x y) Q E s
theorem zlC (W:Walks prog w A.in1 I fp wr n P St) (bt:Nat->Nat->Bool) {g:Heap} (S:Addr) (cm:CmpH prog w A.in1 g (S :: wr) P bt) (nS:S ∉ fp):∀ (d j:Nat) (s:Shared) (best:Value) (c:Nat),n = j + 1 + d->(∀ b o,b ∉ S :: wr->g.get? b = some o->s.heap.get? b = some o)->St (j + 1) s.heap->P (argBest bt j) best ->
   s.heap.get? S = some { cls:=.type "list",dict:=none,data:=.seq #[best,best] c,slots:=#[] } ->
   (∀ v h' tk,P (argBest bt (n - 1)) v->(∀ b o,b ∉ S :: wr->s.heap.get? b = some o->h'.get? b = some o)->R (.ok (.ret v)) { s with heap:=h',toks:=tk })->codeAny (model prog w) A (.builtin "min.loop" ⟨[.ref I,.none,.ref S],[]⟩) R s:=by
 have nw:S ∉ wr:=fun m=>nS (W.sub _ m)
 have nm:(toString "min" ++ toString ".loop":String) = "min.loop":=by decide
 intro d
 induction d with
 | zero =>
  intro j s best c hd kg st hb hS fin
  have hj:j + 1 = n:=by omega
  refine codeAny_builtin F.entry_min_loop ?_
  rw [Around.under_plainId F.plain_min_loop _]
  show wpAny _ A.in1 (seqItems? (.ref S) >>= _) _ _ s
  refine wpAny_bind (wpAny_seqItems hS rfl ?_)
  show wpAny _ A.in1 (tryCatch (pyNext (.ref I)) _ >>= _) _ _ s
  refine wpAny_bind (wpAny_tryCatch (W.done s _ _ (by rw [<- hj]; exact st) fun h1 t1 k1=>?_))
  have hS1:=k1 S _ nw hS
  show wpAny _ A.in1 (updateSeq S (fun _=>#[]) >>= _) _ _ _
  refine wpAny_bind (wpAny_updateSeq hS1 rfl (wpAny_bind (wpAny_letGo (wpAny_pure (fin best _ t1 (by rw [<- hj]; exact hb) fun b o hn e=>?_)))))
  rw [List.mem_cons,not_or] at hn
  exact (Heap.get?_update_other _ _ (Ne.symm hn.1)).trans (k1 b o hn.2 e)
 | succ d ih =>
  intro j s best c hd kg st hb hS fin
  refine codeAny_builtin F.entry_min_loop ?_
  rw [Around.under_plainId F.plain_min_loop _]
  show wpAny _ A.in1 (seqItems? (.ref S) >>= _) _ _ s
  refine wpAny_bind (wpAny_seqItems hS rfl ?_)
  show wpAny _ A.in1 (tryCatch (pyNext (.ref I)) _ >>= _) _ _ s
  refine wpAny_bind (wpAny_tryCatch (W.item (j + 1) s _ _ (by omega) st fun x h1 t1 hx st1 k1=>?_))
  have hS1:=k1 S _ nw hS
  have kg1:∀ b o,b ∉ S :: wr->g.get? b = some o->h1.get? b = some o:=fun b o hn e=>k1 b o (fun m=>hn (List.mem_cons_of_mem _ m)) (kg b o hn e)
  show wpAny _ A.in1 (tryCatch (holding [x,x] (richCompare .Lt x best >>= _)) _ >>= _) _ _ _
  refine wpAny_bind (wpAny_tryCatch (wpAny_holding (wpAny_bind (cm (j + 1) (argBest bt j) x best _ _ _ kg1 hx hb (wpAny_bind (wpAny_holding (wpAny_truthy_bool (wpAny_bind (wpAny_letGo (wpAny_pure ?_)))))))))) 
  cases ht:bt (j + 1) (argBest bt j) with
  | true =>
   simp only [if_true]
   refine wpAny_bind (wpAny_updateSeq hS1 rfl (wpAny_bind (wpAny_letGo ?_)))
   rw [nm]
   have keep:∀ b o,b ∉ S :: wr->s.heap.get? b = some o->(h1.update S (Obj.mapSeq fun _=>#[x,x])).get? b = some o:=fun b o hn e=>by
    rw [List.mem_cons,not_or] at hn
    exact (Heap.get?_update_other _ _ (Ne.symm hn.1)).trans (k1 b o hn.2 e)
   refine wpAny_pure ⟨plainId_quiet F.plain_min_loop _,ih (j + 1) _ x _ (by omega) (fun b o hn e=>keep b o hn (kg b o hn e)) (W.frame _ _ _ st1 fun b m o e=>?_) (by simp only [argBest,ht,if_true]; exact hx) (Heap.get?_update_self _ hS1 rfl) fun v h2 t2 hv k2=>fin v h2 t2 hv fun b o hn e=>k2 b o hn (keep b o hn e)⟩
   exact (Heap.get?_update_other _ _ (fun z:S = b=>nS (by rw [z]; exact m))).trans e
  | false =>
   simp only [Bool.false_eq_true,if_false]
   refine wpAny_bind (wpAny_letGo ?_)
   rw [nm]
   exact wpAny_pure ⟨plainId_quiet F.plain_min_loop _,ih (j + 1) _ best c (by omega) kg1 st1 (by simp only [argBest,ht,Bool.false_eq_true,if_false]; exact hb) hS1 fun v h2 t2 hv k2=>fin v h2 t2 hv fun b o hn e=>k2 b o hn (k1 b o (fun m=>hn (List.mem_cons_of_mem _ m)) e)⟩
theorem zky (W:Walks prog w A.in1 I fp wr n P St) (bt:Nat->Nat->Bool) (S:Addr) (nS:S ∉ fp) (hn:0 < n) {s:Shared} {c:Nat} (cm:CmpH prog w A.in1 s.heap (S :: wr) P bt) (st:St 0 s.heap) (hS:s.heap.get? S = some { cls:=.type "list",dict:=none,data:=.seq #[] c,slots:=#[] })
  (fin:∀ v h' tk,P (argBest bt (n - 1)) v->(∀ b o,b ∉ S :: wr->s.heap.get? b = some o->h'.get? b = some o)->R (.ok (.ret v)) { s with heap:=h',toks:=tk }):codeAny (model prog w) A (.builtin "min.loop" ⟨[.ref I,.none,.ref S],[]⟩) R s:=by
 have nw:S ∉ wr:=fun m=>nS (W.sub _ m)
 have nm:(toString "min" ++ toString ".loop":String) = "min.loop":=by decide
 refine codeAny_builtin F.entry_min_loop ?_
 rw [Around.under_plainId F.plain_min_loop _]
 show wpAny _ A.in1 (seqItems? (.ref S) >>= _) _ _ s
 refine wpAny_bind (wpAny_seqItems hS rfl ?_)
 show wpAny _ A.in1 (tryCatch (pyNext (.ref I)) _ >>= _) _ _ s
 refine wpAny_bind (wpAny_tryCatch (W.item 0 s _ _ hn st fun x h1 t1 hx st1 k1=>?_))
 have hS1:=k1 S _ nw hS
 show wpAny _ A.in1 (updateSeq S (fun _=>#[x,x]) >>= _) _ _ _
 refine wpAny_bind (wpAny_updateSeq hS1 rfl ?_)
 rw [nm]
 have keep:∀ b o,b ∉ S :: wr->s.heap.get? b = some o->(h1.update S (Obj.mapSeq fun _=>#[x,x])).get? b = some o:=fun b o hn e=>by
  rw [List.mem_cons,not_or] at hn
  exact (Heap.get?_update_other _ _ (Ne.symm hn.1)).trans (k1 b o hn.2 e)
 refine wpAny_pure ⟨plainId_quiet F.plain_min_loop _,zlC W bt S cm nS (n - 1) 0 _ x _ (by omega) keep (W.frame _ _ _ st1 fun b m o e=>?_) hx (Heap.get?_update_self _ hS1 rfl) fun v h2 t2 hv k2=>fin v h2 t2 hv fun b o hn e=>k2 b o hn (keep b o hn e)⟩
 exact (Heap.get?_update_other _ _ (fun z:S = b=>nS (by rw [z]; exact m))).trans e
end
section
variable {prog:Program} {w:World} {A:Around} {E:Value->Shared->Prop} {s:Shared}
theorem zlN {l:Addr} {its:Array Value} {Q:Value->Shared->Prop} (hh:A.handled = none) (hl:s.heap.IsList l its) (hne:0 < its.size) (bt:Nat->Nat->Bool)
  (cm:∀ i j x y (s':Shared) (Q:Value->Shared->Prop) (E:Value->Shared->Prop),(∀ b o,s.heap.get? b = some o->s'.heap.get? b = some o)->its[i]? = some x->its[j]? = some y->Q (.bool (bt i j)) s'->wpAny (model prog w) A.in1 (richCompare .Lt x y) Q E s')
  (fin:∀ v h' tk,its[argBest bt (its.size - 1)]? = some v->(∀ b o,s.heap.get? b = some o->h'.get? b = some o)->Q v { s with heap:=h',toks:=tk }):wpAny (model prog w) A (call (.builtin "min") [.ref l]) Q E s:=by
 have nm:(toString "min" ++ toString ".loop":String) = "min.loop":=by decide
 have lt:l < s.heap.objs.size:=by obtain ⟨o,e,_⟩:=hl; exact Heap.lt_size e
 refine call_function_tree F.kind_min F.plain_min F.entry_min (F.args_min1 _) ?_
 show wpAny _ A.in1 (Builtin.Builtins.bindParams "min" ["key","default"] 0 ⟨[],[]⟩ >>= _) _ _ s
 refine wpAny_bind (wpAny_of_eq (show Builtin.Builtins.bindParams "min" ["key","default"] 0 ⟨[],[]⟩ = pure [none,none] from rfl) (wpAny_bind (wpAny_pure (wpAny_bind (wpAny_pyIter_list hl ?_)))))
 refine wpAny_bind (wpAny_newObj_type ?_)
 rw [nm]
 have z1:(s.heap.push { cls:=.type "list_iterator",data:=.fields #[.ref l,.int 0 0] }).objs.size = s.heap.objs.size + 1:=Heap.size_push ..
 have nS:(s.heap.push { cls:=.type "list_iterator",data:=.fields #[.ref l,.int 0 0] }).objs.size ∉ [s.heap.objs.size,l]:=by
  rw [z1]
  simp only [List.mem_cons,List.not_mem_nil,or_false,not_or]
  exact ⟨Nat.succ_ne_self _,Nat.ne_of_gt (Nat.lt_succ_of_lt lt)⟩
 have up:∀ b o,s.heap.get? b = some o->((s.heap.push { cls:=.type "list_iterator",data:=.fields #[.ref l,.int 0 0] }).push { cls:=.type "list",data:=.seq #[] }).get? b = some o:=fun b o e=>Heap.get?_push_of_some _ (Heap.get?_push_of_some _ e)
 have old:∀ b o,s.heap.get? b = some o->b ∉ (s.heap.push { cls:=.type "list_iterator",data:=.fields #[.ref l,.int 0 0] }).objs.size :: [s.heap.objs.size]:=fun b o e=>by
  rw [z1]
  simp only [List.mem_cons,List.not_mem_nil,or_false,not_or]
  have:=Heap.lt_size e
  exact ⟨Nat.ne_of_lt (Nat.lt_succ_of_lt this),Nat.ne_of_lt this⟩
 refine wpAny_pure ⟨plainId_quiet F.plain_min_loop _,zky (Walks.list (A:=A.in1) hh _ l (Nat.ne_of_lt lt) its) bt _ nS hne (fun i j x y s' Q' E' k hi hj q=>cm i j x y s' Q' E' (fun b o e=>k b o (old b o e) (up b o e)) hi hj q) ?_ (Heap.get?_push_size _ rfl) fun v h' tk hv k=>fin v h' tk hv fun b o e=>k b o (old b o e) (up b o e)⟩
 exact ⟨⟨_,Heap.get?_push_of_some _ (Heap.get?_push_size _ rfl),rfl,rfl⟩,(hl.push _).push _⟩
end
def zp6 (K:W.Frag):List V->Hp->VK->Prop:=fun xs H Q=>∃ (p:Addr) (vs:List V) (nss:List (List Int)),xs = [.ref p]/\SqL K H p vs/\vs ≠ []/\Paired (fun (v:V) (ns:List Int)=>∃ a,v = .ref a/\H a = some (.tup (ns.map V.int))) vs nss /\
 ∀ (i:Nat) v ns,vs[i]? = some v->nss[i]? = some ns->(∀ ms ∈ nss,HT.lexLt ms ns = false)->Q v H
theorem zgB {ns:Nat->List Int} (tr:∀ a b c:List Int,HT.lexLt a b = false->HT.lexLt b c = false->HT.lexLt a c = false) (as:∀ a b:List Int,HT.lexLt a b = true->HT.lexLt b a = false):∀ k,argBest (fun i j=>HT.lexLt (ns i) (ns j)) k <= k/\∀ j,j <= k->HT.lexLt (ns j) (ns (argBest (fun i j=>HT.lexLt (ns i) (ns j)) k)) = false
 | 0=>⟨Nat.le_refl _,fun j hj=>by
   have:j = 0:=by omega
   subst this
   show HT.lexLt (ns 0) (ns 0) = false
   cases h:HT.lexLt (ns 0) (ns 0) with
   | false=>rfl
   | true=>have:=as _ _ h; rw [h] at this; cases this⟩
 | k + 1=>by
  obtain ⟨h1,h2⟩:=zgB tr as (ns:=ns) k
  simp only [argBest]
  by_cases hb:HT.lexLt (ns (k + 1)) (ns (argBest (fun i j=>HT.lexLt (ns i) (ns j)) k)) = true
  ·rw [if_pos hb]
   refine ⟨Nat.le_refl _,fun j hj=>?_⟩
   by_cases e:j = k + 1
   ·subst e
    cases h:HT.lexLt (ns (k + 1)) (ns (k + 1)) with
    | false=>rfl
    | true=>have:=as _ _ h; rw [h] at this; cases this
   ·exact tr _ _ _ (h2 j (by omega)) (as _ _ hb)
  ·rw [if_neg hb]
   refine ⟨by omega,fun j hj=>?_⟩
   by_cases e:j = k + 1
   ·subst e; exact Bool.eq_false_iff.mpr hb
   ·exact h2 j (by omega)
theorem zj6:∀ a b:List Int,HT.lexLt a b = true->HT.lexLt b a = false
 | [],[],h=>by cases h
 | [],y :: ys,_=>rfl
 | x :: xs,[],h=>by cases h
 | x :: xs,y :: ys,h=>by
  rw [HT.lexLt_cons] at h ⊢
  by_cases e:x = y
  ·subst e
   rw [if_pos rfl] at h ⊢
   exact zj6 xs ys h
  ·rw [if_neg e] at h
   rw [if_neg (Ne.symm e)]
   simp only [decide_eq_true_eq] at h
   simp only [decide_eq_false_iff_not]
   omega
theorem zg5:∀ a b c:List Int,HT.lexLt a b = false->HT.lexLt b c = false->HT.lexLt a c = false
 | _,_,[],_,_=>by rename_i a b _ _; cases a <;> rfl
 | [],[],z :: zs,_,h=>by cases h
 | [],y :: ys,z :: zs,h,_=>by cases h
 | x :: xs,[],z :: zs,_,h=>by cases h
 | x :: xs,y :: ys,z :: zs,h,k=>by
  rw [HT.lexLt_cons] at h k ⊢
  by_cases e:x = y
  ·subst e
   rw [if_pos rfl] at h
   by_cases e2:x = z
   ·subst e2
    rw [if_pos rfl] at k ⊢
    exact zg5 xs ys zs h k
   ·rw [if_neg e2] at k ⊢
    exact k
  ·rw [if_neg e] at h
   by_cases e2:y = z
   ·subst e2
    rw [if_neg e]
    exact h
   ·rw [if_neg e2] at k
    simp only [decide_eq_false_iff_not] at h k
    rw [if_neg (by omega)]
    simp only [decide_eq_false_iff_not]
    omega
theorem zle {X:Cx} (hc:X.calm = true) (hu:X.A.units + 64 < cLine):CallR X (.builtin "min") (zp6 X.K):=by
 intro zo s σ H xs us Q I r h
 obtain ⟨p,vs,nss,rfl,hq,hne,pr,q⟩:=h
 obtain ⟨u,rfl,rx⟩:=vals1 r
 cases (show u = Value.ref p from rx)
 obtain ⟨its,rv,pl,_⟩:=I.list hq
 have hl:=rv.length
 have hl2:=Paired.length pr
 have hsz:0 < its.toArray.size:=by
  rw [List.size_toArray,<- hl]
  exact List.length_pos_iff.mpr hne
 have at_:∀ (i:Nat) x,its.toArray[i]? = some x->∃ (v:V) (ns:List Int),vs[i]? = some v/\nss[i]? = some ns/\RelV v x/\∃ a,v = .ref a/\H a = some (.tup (ns.map V.int)):=fun i x hx=>by
  have hi:i < its.length:=by
   have:=(Array.getElem?_eq_some_iff.mp hx).1
   simpa using this
  have e1:vs[i]? = some vs[i]:=List.getElem?_eq_getElem (by omega)
  have e2:nss[i]? = some nss[i]:=List.getElem?_eq_getElem (by omega)
  obtain ⟨x',hx',rr⟩:=rv.get e1
  have:x = x':=by
   have h2:its[i]? = some x:=by simpa using hx
   rw [hx'] at h2
   exact (Option.some.inj h2).symm
  subst this
  have pg:∀ {a:List V} {b:List (List Int)} {i:Nat} {v:V} {ns:List Int},Paired (fun (v:V) (ns:List Int)=>∃ a,v = .ref a/\H a = some (.tup (ns.map V.int))) a b->a[i]? = some v->b[i]? = some ns->∃ a,v = .ref a/\H a = some (.tup (ns.map V.int)):=by
   intro a b i v ns pq
   induction pq generalizing i with
   | nil=>intro h; simp at h
   | cons r0 _ ih =>
    cases i with
    | zero =>
     intro h1 h2
     rw [List.getElem?_cons_zero] at h1 h2
     cases h1
     cases h2
     exact r0
    | succ i =>
     intro h1 h2
     rw [List.getElem?_cons_succ] at h1 h2
     exact ih h1 h2
  exact ⟨_,_,e1,e2,rr,pg pr e1 e2⟩
 refine zlN (I.ok.hd hc) pl.isList hsz (fun i j=>HT.lexLt (nss.getD i []) (nss.getD j [])) (fun i j x y s' Q' E' k hx hy q'=>?_) fun v h' tk hv k=>?_
 ·obtain ⟨v1,n1,_,f1,r1,a1,rfl,e1⟩:=at_ i x hx
  obtain ⟨v2,n2,_,f2,r2,a2,rfl,e2⟩:=at_ j y hy
  cases r1
  cases r2
  obtain ⟨_,is1,w1,t1⟩:=(show ObjOk X.prog X.w H s.heap a1 (.tup (n1.map V.int)) from I.hok a1 _ e1)
  obtain ⟨_,is2,w2,t2⟩:=(show ObjOk X.prog X.w H s.heap a2 (.tup (n2.map V.int)) from I.hok a2 _ e2)
  have g1:nss.getD i [] = n1:=by rw [List.getD_eq_getElem?_getD,f1]; rfl
  have g2:nss.getD j [] = n2:=by rw [List.getD_eq_getElem?_getD,f2]; rfl
  rw [g1,g2] at q'
  obtain ⟨o1,b1,c1⟩:=t1
  obtain ⟨o2,b2,c2⟩:=t2
  exact HT.lt_tupInts ⟨o1,k _ _ b1,c1⟩ ⟨o2,k _ _ b2,c2⟩ (za8 w1) (za8 w2) (by show X.A.units + 1 < cLine; omega) q'
 ·obtain ⟨v1,n1,e1,f1,r1,_⟩:=at_ _ v hv
  obtain ⟨_,h2⟩:=zgB (ns:=fun i=>nss.getD i []) zg5 zj6 (its.toArray.size - 1)
  refine ⟨v1,H,I.kept (t':=tk) k,r1,q _ v1 n1 e1 f1 fun ms hm=>?_⟩
  obtain ⟨j,hj⟩:=List.mem_iff_getElem?.mp hm
  have hjl:=(List.getElem?_eq_some_iff.mp hj).1
  have:=h2 j (by rw [List.size_toArray]; omega)
  rw [show nss.getD j [] = ms by rw [List.getD_eq_getElem?_getD,hj]; rfl] at this
  rw [show nss.getD (argBest (fun i j=>HT.lexLt (nss.getD i []) (nss.getD j [])) (its.toArray.size - 1)) [] = n1 by rw [List.getD_eq_getElem?_getD,f1]; rfl] at this
  exact this
def zrn (K:W.Frag):List V->Hp->VK->Prop:=fun xs H Q=>zsa K xs H Q\/zp6 K xs H Q
theorem ziK {X:Cx} (hc:X.calm = true) (hu:X.A.units + 64 < cLine):CallR X (.builtin "min") (zrn X.K):=(zkX hc).or (zle hc hu)
def zpX (ns:List Int):PyData:=.tuple (ns.map PyData.int)
def zkY:List XV->Sto->RX->Prop:=fun xs S R=>zsF xs S R\/arg1 xs fun x=>∃ ds,zlK S x = some ds/\∃ nss:List (List Int),ds = nss.map zpX/\nss ≠ []/\∀ m,m ∈ nss->(∀ a,a ∈ nss->HT.lexLt a m = false)->R (.d (zpX m)) S
theorem zlF {K:W.Frag}:RC (zrn K) zkY:=fun h o H S xs vs R Q hs hx q c=>by
 rcases q with q | q
 ·exact .inl (zrq h o H S xs vs R Q hs hx q c)
 ·obtain ⟨x,rfl,ds,hd,nss,rfl,hn,q1⟩:=zbE q
  obtain ⟨v,rfl,hx1⟩:=hxs1 hx
  obtain ⟨a,ws,rfl,ea,l⟩:=zbP hs hd hx1
  have hl:=l.length
  refine .inr ⟨a,ws,nss,rfl,.of ea,fun z=>hn ?_,?_,fun i v ns e1 e2 hm=>?_⟩
  ·subst z
   rw [List.length_map] at hl
   exact List.eq_nil_of_length_eq_zero hl.symm
  ·have go:∀ {nss:List (List Int)} {ws:List V},HasL (vx h o H) (nss.map zpX) ws->Paired (fun (v:V) (ns:List Int)=>∃ a,v = .ref a/\H a = some (.tup (ns.map V.int))) ws nss:=by
    intro nss
    induction nss with
    | nil=>intro ws l; rw [zT.mp l]; exact .nil
    | cons n nss ih =>
     intro ws l
     obtain ⟨v,r,rfl,h1,l2⟩:=zO.mp l
     obtain ⟨b,us,rfl,eb,lb⟩:=zbx.mp h1
     rw [zbK lb] at eb
     exact .cons ⟨b,rfl,zbo _ _ eb⟩ (ih l2)
   exact go l
  ·obtain ⟨v',ev,hv⟩:=l.get (show (nss.map zpX)[i]? = some (zpX ns) by rw [List.getElem?_map,e2]; rfl)
   rw [e1] at ev
   cases ev
   exact c o H S (.d (zpX ns)) v Ex.refl hs hv (q1 ns (List.mem_of_getElem? e2) hm)
theorem zpQ:RE (zsD znC) (dC (.dict [])):=fun h o H δ σ S R Q he hs q c p hp=>⟨p,[],rfl,zaW,fun ob=>by
 have e:upd (upd H p (.dK [])) p (.frz ob (.dK [])) = upd H p (.frz ob (.dK [])):=zo4
 rw [e]
 refine c o _ S (.d (.dict [])) _ (Ex.of_same (Same.laid hp)) (hs.same (Same.laid hp)) ?_ q
 show Has _ _ _
 simp only [Has]
 exact ⟨p,[],rfl,.inl ⟨ob,[],hs.laid hp,rfl,rfl⟩,zjy.mpr rfl⟩⟩
section
variable {S:Sto} {P:Sto->List PyData->Prop} {a b c d:List PyData} {x:List PyData}
theorem zgy {S0:Sto}:(∃ T ds,S0 ++ [x] = T ++ [ds]/\P T ds) ↔ P S0 x:=by
 constructor
 ·rintro ⟨T,ds,e,q⟩
  obtain ⟨rfl,e2⟩:=List.append_inj' e rfl
  cases e2
  exact q
 ·exact fun q=>⟨S0,x,rfl,q⟩
theorem zkb:(∃ T ds,[a] = T ++ [ds]/\P T ds) ↔ P [] a:=zgy (S0:=[])
theorem zjF:(∃ T ds,[a,b] = T ++ [ds]/\P T ds) ↔ P [a] b:=zgy (S0:=[a])
theorem zjS:(∃ T ds,[a,b,c] = T ++ [ds]/\P T ds) ↔ P [a,b] c:=zgy (S0:=[a,b])
end
section
variable {α:Type} {n:Nat} {g:DG} {tt:DT} {te:DE} {fin:Sto->Prop} {S0:Sto} {caps:XE}
theorem znE {h:α->PyData} {f:α->PyData} (P:XE->Prop) (hn:S0.length = n) (l:List α) (τ:XE) (hP:P τ) (hl:l.length <= 1000)
  (el:∀ x ∈ l,∀ τ acc (R:XE->RX),P τ->(∀ τ',P τ'->R τ' (.d (f x)) (S0 ++ [acc]))->g (.d (h x)) τ (S0 ++ [acc]) fun τ1 S1=>te τ1 S1 (R τ1)) (hf:fin (S0 ++ [l.map f])):zfq n g zaN te fin (l.map h) τ (S0 ++ [[]]):=by
 have go:∀ (l:List α) (acc:List PyData) (τ:XE),P τ->acc.length + l.length <= 1000->(∀ x ∈ l,∀ τ acc (R:XE->RX),P τ->(∀ τ',P τ'->R τ' (.d (f x)) (S0 ++ [acc]))->g (.d (h x)) τ (S0 ++ [acc]) fun τ1 S1=>te τ1 S1 (R τ1)) ->
   fin (S0 ++ [acc ++ l.map f])->zfq n g zaN te fin (l.map h) τ (S0 ++ [acc]):=by
  intro l
  induction l with
  | nil=>intro acc τ _ _ _ h; rw [List.map_nil,List.append_nil] at h; exact h
  | cons x l ih =>
   intro acc τ hP hl el hh
   show g (.d (h x)) τ (S0 ++ [acc]) fun τ1 S1=>zaN τ1 S1 fun b S2=>if b = true then te τ1 S2 fun x S3=>asD x fun e=>∃ acc,S3[n]? = some acc/\acc.length < 1000/\zfq n g zaN te fin (l.map h) τ1 (S3.set n (acc ++ [e])) else zfq n g zaN te fin (l.map h) τ1 S2
   simp only [zaN,↓reduceIte]
   rw [List.length_cons] at hl
   refine el x List.mem_cons_self τ acc (fun τ1 x S3=>asD x fun e=>∃ acc,S3[n]? = some acc/\acc.length < 1000/\zfq n g zaN te fin (l.map h) τ1 (S3.set n (acc ++ [e]))) hP fun τ' hP'=>?_
   refine ⟨acc,by rw [<- hn,List.getElem?_concat_length],by omega,?_⟩
   rw [zhY hn]
   refine ih (acc ++ [f x]) τ' hP' (by rw [List.length_append,List.length_singleton]; omega) (fun e m=>el e (List.mem_cons_of_mem _ m)) ?_
   rw [List.append_assoc]
   exact hh
 exact go l [] τ hP (by simpa using hl) el (by simpa using hf)
theorem cmp1 {h:α->PyData} (f:α->PyData) (hn:S0.length = n) (l:List α) {u:Option XV} (hl:l.length <= 1000)
  (el:∀ x ∈ l,∀ (u:Option XV) acc (R:XE->RX),(∀ u',R (u' :: caps) (.d (f x)) (S0 ++ [acc]))->g (.d (h x)) (u :: caps) (S0 ++ [acc]) fun τ1 S1=>te τ1 S1 (R τ1)) (hf:fin (S0 ++ [l.map f])):zfq n g zaN te fin (l.map h) (u :: caps) (S0 ++ [[]]) :=
 znE (fun τ=>∃ u,τ = u :: caps) hn l _ ⟨u,rfl⟩ hl (fun x m τ acc R ⟨u,e⟩ k=>by subst e; exact el x m u acc R fun u'=>k _ ⟨u',rfl⟩) hf
theorem cmp2 {h:α->PyData} (f:α->PyData) (hn:S0.length = n) (l:List α) {u v:Option XV} (hl:l.length <= 1000)
  (el:∀ x ∈ l,∀ (u v:Option XV) acc (R:XE->RX),(∀ u' v',R (u' :: v' :: caps) (.d (f x)) (S0 ++ [acc]))->g (.d (h x)) (u :: v :: caps) (S0 ++ [acc]) fun τ1 S1=>te τ1 S1 (R τ1)) (hf:fin (S0 ++ [l.map f])):zfq n g zaN te fin (l.map h) (u :: v :: caps) (S0 ++ [[]]) :=
 znE (fun τ=>∃ u v,τ = u :: v :: caps) hn l _ ⟨u,v,rfl⟩ hl (fun x m τ acc R ⟨u,v,e⟩ k=>by subst e; exact el x m u v acc R fun u' v'=>k _ ⟨u',v',rfl⟩) hf
theorem zqp {h:α->PyData} {f:α->PyData} {p:α->Bool} (P:XE->Prop) (hn:S0.length = n) (l:List α) (τ:XE) (hP:P τ) (hl:l.length <= 1000)
  (el:∀ x ∈ l,∀ τ acc (R:XE->Bool->Sto->Prop),P τ->(∀ τ',P τ'->(p x = true->∀ T:RX,T (.d (f x)) (S0 ++ [acc])->te τ' (S0 ++ [acc]) T)->R τ' (p x) (S0 ++ [acc]))->g (.d (h x)) τ (S0 ++ [acc]) fun τ1 S1=>tt τ1 S1 (R τ1))
  (hf:fin (S0 ++ [(l.filter p).map f])):zfq n g tt te fin (l.map h) τ (S0 ++ [[]]):=by
 have go:∀ (l:List α) (acc:List PyData) (τ:XE),P τ->acc.length + l.length <= 1000->(∀ x ∈ l,∀ τ acc (R:XE->Bool->Sto->Prop),P τ->(∀ τ',P τ'->(p x = true->∀ T:RX,T (.d (f x)) (S0 ++ [acc])->te τ' (S0 ++ [acc]) T)->R τ' (p x) (S0 ++ [acc]))->g (.d (h x)) τ (S0 ++ [acc]) fun τ1 S1=>tt τ1 S1 (R τ1)) ->
   fin (S0 ++ [acc ++ (l.filter p).map f])->zfq n g tt te fin (l.map h) τ (S0 ++ [acc]):=by
  intro l
  induction l with
  | nil=>intro acc τ _ _ _ h; rw [List.filter_nil,List.map_nil,List.append_nil] at h; exact h
  | cons x l ih =>
   intro acc τ hP hl el hh
   show g (.d (h x)) τ (S0 ++ [acc]) fun τ1 S1=>tt τ1 S1 fun b S2=>if b = true then te τ1 S2 fun x S3=>asD x fun e=>∃ acc,S3[n]? = some acc/\acc.length < 1000/\zfq n g tt te fin (l.map h) τ1 (S3.set n (acc ++ [e])) else zfq n g tt te fin (l.map h) τ1 S2
   rw [List.length_cons] at hl
   refine el x List.mem_cons_self τ acc (fun τ1 b S2=>if b = true then te τ1 S2 fun x S3=>asD x fun e=>∃ acc,S3[n]? = some acc/\acc.length < 1000/\zfq n g tt te fin (l.map h) τ1 (S3.set n (acc ++ [e])) else zfq n g tt te fin (l.map h) τ1 S2) hP fun τ' hP' ev=>?_
   cases hp:p x with
   | false =>
    rw [List.filter_cons_of_neg (by rw [hp]; exact Bool.false_ne_true)] at hh
    exact zmq (ih acc τ' hP' (by omega) (fun e m=>el e (List.mem_cons_of_mem _ m)) hh)
   | true =>
    rw [List.filter_cons_of_pos hp,List.map_cons] at hh
    refine zmr (ev hp _ ⟨acc,by rw [<- hn,List.getElem?_concat_length],by omega,?_⟩)
    rw [zhY hn]
    exact ih (acc ++ [f x]) τ' hP' (by rw [List.length_append,List.length_singleton]; omega) (fun e m=>el e (List.mem_cons_of_mem _ m)) (by rw [List.append_assoc]; exact hh)
 exact go l [] τ hP (by simpa using hl) el (by simpa using hf)
theorem cmf1 {h:α->PyData} (f:α->PyData) (p:α->Bool) (hn:S0.length = n) (l:List α) {u:Option XV} (hl:l.length <= 1000)
  (el:∀ x ∈ l,∀ (u:Option XV) acc (R:XE->Bool->Sto->Prop),(∀ u',(p x = true->∀ T:RX,T (.d (f x)) (S0 ++ [acc])->te (u' :: caps) (S0 ++ [acc]) T)->R (u' :: caps) (p x) (S0 ++ [acc]))->g (.d (h x)) (u :: caps) (S0 ++ [acc]) fun τ1 S1=>tt τ1 S1 (R τ1)) (hf:fin (S0 ++ [(l.filter p).map f])):zfq n g tt te fin (l.map h) (u :: caps) (S0 ++ [[]]) :=
 zqp (fun τ=>∃ u,τ = u :: caps) hn l _ ⟨u,rfl⟩ hl (fun x m τ acc R ⟨u,e⟩ k=>by subst e; exact el x m u acc R fun u' hh=>k _ ⟨u',rfl⟩ hh) hf
end
end
section
section
variable {X:Cx} {e ek:Expr} {te tk:TE} {pos p2:Pos}
def zti (K:W.Frag):V->Hp->VK->Prop:=fun x H Q=>∃ a xs,x = .ref a/\SqL K H a xs/\∀ p,H p = none->Q (.ref p) (upd H p (.lst xs.reverse))
def zs0 (K:W.Frag) (te tk:TE):TE:=fun σ H Q=>te σ H fun x H1=>tk σ H1 fun y H2=>y = .int (-1)/\zti K x H2 Q
theorem Vals.rev {xs:List V} {us:List Value} (r:Vals xs us):Vals xs.reverse us.reverse:=by
 induction r with
 | nil=>exact .nil
 | cons h _ ih =>
  rw [List.reverse_cons,List.reverse_cons]
  exact ih.append (.cons h .nil)
theorem zp2 (he:PE X e te) (hk:PE X ek tk):PE X (.Subscript e (.Slice none none (some ek) p2) pos) (zs0 X.K te tk):=by
 intro zo s σ H Q I h
 refine Subscript_ (thn (he zo s σ H _ I h) fun v s1 ⟨x,H1,I1,r1,q1⟩=>?_)
 refine wpAny_Slice ?_
 rw [evalPart_none]
 refine wpAny_pure (wpAny_pure ?_)
 rw [evalPart_some]
 refine thn (hk zo s1 σ H1 _ I1 q1) fun vk s3 ⟨y,H3,I3,ry,q3⟩=>?_
 obtain ⟨rfl,a,xs,rfl,hx,q⟩:=q3
 obtain ⟨t,rfl⟩:=ry
 cases r1
 have I4:Inv X zo σ H3 { s3 with heap:=s3.heap.push { cls:=.type "slice",data:=.fields #[.none,.none,.int (-1) t] } }:=I3.kept (t':=s3.toks) fun b ob q=>Heap.get?_push_of_some _ q
 obtain ⟨its,r,ht,hz⟩:=I4.list hx
 have hlen:=r.length
 show wpAny (model X.prog X.w) X.A (subscriptTail e (.Slice none none (some ek) p2) (.ref a) (.ref s3.heap.objs.size)) (EP X zo σ Q) X.xe { s3 with heap:=s3.heap.push { cls:=.type "slice",data:=.fields #[.none,.none,.int (-1) t] } }
 refine tail_any (ops:=[.ref a,.ref s3.heap.objs.size]) ht.isList.typeIs slot_list_getitem.lookup ?_ (by with_unfolding_all rfl)
 refine wpAny_getItem_list_slice ht.isList (Heap.IsSliceOf.new ..) .none .none (.int (-1) t) (by decide) ?_ (by rw [List.size_toArray] <;> omega)
 rw [PySem.W.krv_pick]
 refine ⟨.ref _,_,I4.laid (t':=s3.toks) (o:=.lst xs.reverse) (fun b ob q=>Heap.get?_push_of_some _ q) (Nat.le_refl _) ?_,rfl,q _ (I4.hok.fresh (Nat.le_refl _))⟩
 exact ⟨by rw [List.length_reverse]; exact hz,_,0,r.rev,Heap.get?_push_size _ rfl⟩
end
def zpR (x:XV) (S:Sto) (R:RX):Prop:=match x with
 | .d (.list ds)=>R (.d (.list ds.reverse)) S
 | .l k=>∃ ds,S[k]? = some ds/\R (.d (.list ds.reverse)) S
 | _=>False
def zrP (e k:DE):DE:=fun δ S R=>e δ S fun x S1=>k δ S1 fun y S2=>y = .d (.int (-1))/\zpR x S2 R
theorem zqE {K:W.Frag} {te tk:TE} {de dk:DE} (he':RE te de) (hk':RE tk dk):RE (zs0 K te tk) (zrP de dk):=fun h o H δ σ S R Q he hs q c =>
 he' h o H δ σ S _ _ he hs q fun o1 H1 S1 x v e1 s1 x1 d1=>hk' h o1 H1 δ σ S1 _ _ (he.mono e1) s1 d1 fun o2 H2 S2 y u e2 s2 y2 d2=>by
  obtain ⟨rfl,d2⟩:=d2
  refine ⟨zbr y2,?_⟩
  have x2:=x1.mono e2
  unfold zpR at d2
  split at d2
  ·obtain ⟨p,vs,rfl,ea,l⟩:=zbP s2 (x:=.d (.list _)) rfl x2
   exact ⟨p,vs,rfl,.of ea,zjp s2 l.rev (Cn.pre c (e1.trans e2)) d2⟩
  ·obtain ⟨ds,e0,d2⟩:=d2
   obtain ⟨p,vs,rfl,ea,l⟩:=zbP s2 (x:=.l _) e0 x2
   exact ⟨p,vs,rfl,.of ea,zjp s2 l.rev (Cn.pre c (e1.trans e2)) d2⟩
  ·exact d2.elim
section
variable {S:Sto} {R:RX} {ds:List PyData} {k:Nat}
theorem zmk:zpR (.d (.list ds)) S R = R (.d (.list ds.reverse)) S:=rfl
end
end
section
@[irreducible] def QSs (X:Cx) (st:List Stmt) (t:TS):Prop:=PSs X st t
theorem QSs.out {X:Cx} {st:List Stmt} {t:TS} (h:QSs X st t):PSs X st t:=by unfold QSs at h; exact h
theorem QSs.mk {X:Cx} {st:List Stmt} {t:TS} (h:PSs X st t):QSs X st t:=by unfold QSs; exact h
theorem zpp {X:Cx} {b:List Stmt} {R:TS->Prop} (h:∃ t,QSs X b t/\R t):∃ t,PSs X b t/\R t:=let ⟨t,h1,h2⟩:=h; ⟨t,h1.out,h2⟩
theorem zh5 {X:Cx} {st:Stmt} {rest:List Stmt} {t u:TS} (h1:PS X st t) (h2:QSs X rest u):QSs X (st :: rest) (zf1 t u):=QSs.mk (zj h1 h2.out)
theorem zpz {X:Cx} {st:Stmt} {t:TS} (h1:PS X st t):QSs X [st] t:=QSs.mk (zr h1)
@[irreducible] def QA (X:Cx) (es:List Expr) (t:TA):Prop:=PA X es t
theorem QA.out {X:Cx} {es:List Expr} {t:TA} (h:QA X es t):PA X es t:=by unfold QA at h; exact h
theorem QA.mk {X:Cx} {es:List Expr} {t:TA} (h:PA X es t):QA X es t:=by unfold QA; exact h
theorem zbj {X:Cx}:QA X [] zpU:=QA.mk zg
theorem zM {X:Cx} {e:Expr} {es:List Expr} {te:TE} {t:TA} (ha:PE X e te) (hr:QA X es t) (hs:starEach (e :: es) X.env = (false,eval e X.env) :: starEach es X.env:=by rfl):QA X (e :: es) (zgV te t):=QA.mk (zc ha hr.out hs)
theorem zeu {X:Cx} {es:List Expr} {t:TA} {pos:Pos} (h:QA X es t):PE X (.List es pos) (zn0 t):=zab h.out
@[irreducible] def QS (X:Cx) (st:Stmt) (t:TS):Prop:=PS X st t
theorem QS.out {X:Cx} {st:Stmt} {t:TS} (h:QS X st t):PS X st t:=by unfold QS at h; exact h
theorem QS.mk {X:Cx} {st:Stmt} {t:TS} (h:PS X st t):QS X st t:=by unfold QS; exact h
theorem zmi {X:Cx} {st:Stmt} {rest:List Stmt} {t u:TS} (h1:QS X st t) (h2:QSs X rest u):QSs X (st :: rest) (zf1 t u):=QSs.mk (zj h1.out h2.out)
end
end L2
namespace HT
open PySem PyProof.Rows
section
variable {prog:Program} {w:World} {A:Around} {E:Value->Shared->Prop} {s:Shared}
theorem tup_whole {t sl:Addr} {items:Array Value} {vl vu:Value} {lo hi:Option Int} {Q:Value->Shared->Prop} (ht:IsTup s.heap t items) (hs:s.heap.IsSliceOf sl vl vu .none) (pl:IsPart vl lo) (pu:IsPart vu hi)
  (hw:sIx items.size 0 lo = 0/\sIx items.size items.size hi = items.size) (h:Q (.ref t) s):wpAny (model prog w) A (getItem (.ref t) (.ref sl)) Q E s:=by
 obtain ⟨os,hos,hcs,hds⟩:=id hs
 have hTs:s.TypeIs (.ref sl) "slice":=⟨os,hos,hcs⟩
 unfold getItem
 try with_reducible refine wpAny_holding ?_
 first | refine wpAny_bind (wpAny_pure ?_) | skip
 refine wpAny_bind (wpAny_sequenceKey ht.typeIs (by decide) ?_)
 refine wpAny_bind (wpAny_callSpecial?_slot (name:=Str.ofString "__getitem__") ht.typeIs PyProof.Rows.slot_tuple_getitem
  (wpAny_call_entry PyProof.Rows.slot_tuple_getitem ht.typeIs entry_tuple_getitem ?_ (args_tuple_getitem _ _)))
 show wpAny _ _ (Builtin.Tuple.tupleItemsOf (.ref t) >>= _) _ _ s
 refine wpAny_bind (tupleItemsOf_ ht (wpAny_bind (wpAny_typeOf hTs ?_)))
 rw [if_pos (by decide)]
 refine wpAny_bind (zd9 hs pl pu ?_)
 rw [hw.1,hw.2]
 show wpAny _ _ (if (((0:Nat):Int) == 0 && (1:Int) == 1 && (items.size - 0) == items.size) = true then _ else _) _ _ s
 rw [if_pos (by simp)]
 unfold Builtin.Tuple.tupleIsExact
 refine wpAny_bind (wpAny_bind (wpAny_typeOf ht.typeIs (wpAny_pure ?_)))
 rw [if_pos (by decide)]
 exact wpAny_bind (wpAny_rule (wpAny_pure ⟨_,rfl,wpAny_pure h⟩))
end
end HT
namespace L2
open PySem PySem.Spec PyProof.Rows
section
section
variable {X:Cx} {e ek:Expr} {te tk:TE} {pos p2:Pos}
def zr7 (K:W.Frag):V->Option Int->Option Int->Hp->VK->Prop:=fun x lo hi H Q=>∃ a xs,x = .ref a/\SqT K H a xs /\
 ((HT.sIx xs.length 0 lo = 0/\HT.sIx xs.length xs.length hi = xs.length)->Q (.ref a) H)/\∀ p,H p = none->Q (.ref p) (upd H p (.tup (zjV xs lo hi)))
theorem zeP:SlR X (zr7 X.K):=by
 intro zo s σ H x v vl vu lo hi sl Q I rx hs pl pu h
 obtain ⟨a,xs,rfl,hx,hw,q⟩:=h
 by_cases z:HT.sIx xs.length 0 lo = 0/\HT.sIx xs.length xs.length hi = xs.length
 ·cases rx
  obtain ⟨its,r,ht,hz⟩:=I.tuple hx
  have hlen:its.toArray.size = xs.length:=by rw [List.size_toArray]; exact r.length.symm
  refine ⟨"tuple",_,PyProof.Rows.slot_tuple_getitem.lookup,ht.typeIs,?_⟩
  exact HT.tup_whole ht hs pl pu (by rw [hlen]; exact z) ⟨.ref a,H,I,rfl,hw z⟩
 ·exact zn2 zo s σ H _ v vl vu lo hi sl Q I rx hs pl pu ⟨a,xs,rfl,hx,z,q⟩
end
def zms:D3:=fun x i j S R=>asT x fun ds=>R (.d (.tuple (zc7 ds i j))) S
theorem zkq {α:Type} (xs:List α) (lo hi:Option Int) (h:HT.sIx xs.length 0 lo = 0/\HT.sIx xs.length xs.length hi = xs.length):zc7 xs lo hi = xs:=by
 unfold zc7
 rw [h.1,h.2]
 simp
theorem ze2 {K:W.Frag}:RL (zr7 K) zms:=fun h o H S x v a b R Q hs hx q c=>by
 replace q:=zeL q
 obtain ⟨ds,rfl,q⟩:=q
 obtain ⟨p,vs,rfl,ea,l⟩:=zdA hx
 refine ⟨p,vs,rfl,.of ea,fun z=>?_,zk1 hs (l.cut a b) c q⟩
 rw [l.length] at z
 rw [zkq ds a b z] at q
 exact c o H S _ _ Ex.refl hs hx q
theorem zpL {X:Cx} {tg:Expr} {es:List Expr} {t:TA} {body:List Stmt} {g:TG} {tb:TS} {pos pos':Pos} (hp:PassesOwn (model X.prog X.w) X.A X.env X.xe) (hc:X.calm = true) (he:QA X es t) (hg:PG X tg g) (hb:PSs X body tb)
  (hs:∀ x,foldedSetIterable (.List es pos') X.env x = pure x:=by intro _; rfl):QS X (.For tg (.List es pos') body [] pos) (zpV (zsw X.K (zn0 t)) g tb):=QS.mk (zbc hp hc (za5 (zab he.out)) hg hb hs)
end
section
theorem Df.none {P:Program} {w:World} {K:W.Frag} {mg:Str->Option Value} {base:Heap} {x:Str} {st:Stmt} {ps:List Str} {k:Nat} (D:Dd K mg x st ps):Df P w K mg base x ps k (spN ps fun _ _ _=>False):=by
 obtain ⟨f,fd,F,hm,hb⟩:=D.ex
 have no:∀ {vs H Q E},spN ps (fun _ _ _=>False) vs H Q E->False:=fun {vs H Q E} h=>by
  obtain ⟨_,h,o,S,xs,R,_,_,q,_⟩:=h
  exact q
 exact ⟨f,fd,⟨fun _ _ _ _ h=>(no h).elim,fun _ _ _ _ _ _ _ _ _ _ _ _ _ h=>(no h).elim⟩,hm,F.kp,hb⟩
theorem zjU {r:Addr} {lo hi x:Int} {t u v tx:Tok}:Meets (Builtin.«range.__contains__» ⟨[.ref r,.int x tx],[]⟩) (fun _ R s=>IsRange s.heap r lo hi 1 t u v/\R (.ok (.ret (.bool (decide (lo <= x/\x < hi))))) s):=by
 rintro prog w A R s ⟨hr,q⟩
 have e:(Builtin.Range.rangePlace? lo hi 1 x).isSome = decide (lo <= x/\x < hi):=by
  unfold Builtin.Range.rangePlace?
  by_cases h:lo <= x/\x < hi
  ·simp [h]
  ·simp [h]
 rw [<- e] at q
 obtain ⟨hp,g,d,tk,os⟩:=s
 wp_walk using AutoSeq1.wpAny_loadPart' hr
 exact q
def zsb (k:Bool):CmpOp:=if k = true then .NotIn else .In
theorem zoT {prog:Program} {w:World} {A:Around} {E:Value->Shared->Prop} {s:Shared} {r:Addr} {lo hi x:Int} {t u v tx:Tok} {Q:Value->Shared->Prop} {k:Bool} (hr:IsRange s.heap r lo hi 1 t u v)
  (h:Q (.bool (if k = true then !decide (lo <= x/\x < hi) else decide (lo <= x/\x < hi))) s):wpAny (model prog w) A (compareOp (zsb k) (.int x tx) (.ref r)) Q E s:=by
 cases k with
 | false=>exact SeqRoads2.in_meets ⟨_,hr,rfl⟩ F.slot_range_contains F.entry_range_contains (F.args_range_contains_2 _ _) (zjU (t:=t) (u:=u) (v:=v)) ⟨hr,_,rfl,h⟩
 | true=>exact SeqRoads2.notIn_meets ⟨_,hr,rfl⟩ F.slot_range_contains F.entry_range_contains (F.args_range_contains_2 _ _) (zjU (t:=t) (u:=u) (v:=v)) ⟨hr,_,rfl,h⟩
def zl3 (vs:List V) (a b:Int):Prop:=(vs = [.int b]/\a = 0)\/vs = [.int a,.int b]
def zpM (k:Bool) (ta:TE) (tb:TA):TE:=fun σ H Q=>ta σ H fun x H1=>tb σ H1 fun ys H2=>∃ i a b:Int,x = .int i/\zl3 ys a b/\Q (.bl (if k = true then !decide (a <= i/\i < b) else decide (a <= i/\i < b))) H2
section
variable {X:Cx} {l e e':Expr} {es:List Expr} {ta:TE} {tb:TA} {p pos pos':Pos} {k:Bool}
theorem zk6 {zo:List (Addr × Obj)} {s:Shared} {σ:St} {H:Hp} {Q:Value->Shared->Prop} {vs:List V} {us:List Value} {a b:Int} (I:Inv X zo σ H s) (r:Vals vs us) (h:zl3 vs a b)
  (q:∀ (r:Addr) (t u v:Tok) (s':Shared),IsRange s'.heap r a b 1 t u v->Inv X zo σ H s'->Q (.ref r) s'):wpAny (model X.prog X.w) X.A (call (.type "range") us) Q X.xe s:=by
 rcases h with ⟨rfl,rfl⟩ | rfl
 ·cases r with
  | cons r rr =>
   cases rr
   obtain ⟨t,rfl⟩:=r
   exact call_range_1 (q _ _ _ _ _ (IsRange.new ..) (I.kept fun b o e=>Heap.get?_push_of_some _ e))
 ·cases r with
  | cons r rr =>
   cases rr with
   | cons r' rr =>
    cases rr
    obtain ⟨t,rfl⟩:=r
    obtain ⟨t',rfl⟩:=r'
    exact call_range_2 (q _ _ _ _ _ (IsRange.new ..) (I.kept fun b o e=>Heap.get?_push_of_some _ e))
theorem zkd {zo:List (Addr × Obj)} {s:Shared} {σ:St} {H:Hp} {Q:VK} (hg:Gl X "range") (hm:X.mg "range" = none) (ha:PE X l ta) (hb:PA X [e] tb) (hs:starEach [e] X.env = [(false,eval e X.env)]) (I:Inv X zo σ H s) (h:zpM k ta tb σ H Q) :
  wpAny (model X.prog X.w) X.A (eval l X.env) (fun a s1=>wpAny (model X.prog X.w) X.A (eval (.Call (.Name "range" p) [e] [] pos) X.env) (fun b s2=>wpAny (model X.prog X.w) X.A (compareOp (zsb k) a b) (EP X zo σ Q) X.xe s2) X.xe s1) X.xe s:=by
 refine thn (ha zo s σ H _ I h) fun a s1 ⟨x,H1,I1,r1,q1⟩=>?_
 refine Call_ (ze9 I1 hg hm boot_range (PyProof.Rows.callWith_type1 (thn (hb pos zo s1 σ H1 _ I1 q1) fun us s2 ⟨vs,H2,I2,r2,q2⟩=>?_) hs rfl))
 obtain ⟨i,n,m,rfl,hv,q⟩:=q2
 obtain ⟨tx,rfl⟩:=r1
 exact zk6 I2 r2 hv fun r t u v s' ir I3=>zoT ir ⟨.bl _,H2,I3,rfl,q⟩
theorem zmG (k:Bool) {op:CmpOp} (hg:Gl X "range") (hm:X.mg "range" = none) (ha:PE X l ta) (hb:PA X [e] tb) (ho:op = zsb k:=by rfl) (hs:starEach [e] X.env = [(false,eval e X.env)]:=by rfl) (hk:behindInMarks op (.Call (.Name "range" p) [e] [] pos) = false:=by rfl) :
  PT X (.Compare l [op] [.Call (.Name "range" p) [e] [] pos] pos') (zlg (zpM k ta tb)):=by
 subst ho
 intro zo s σ H Q I h
 refine wpAny_isTrue_Compare1 (thn (zkd (Q:=fun x H'=>∃ k,x = .bl k/\Q k H') hg hm ha hb hs I h) fun a s1 q1=>thn q1 fun b s2 q2=>thn q2 fun c s3 ⟨z,H3,I3,r3,k,e,q3⟩=>?_) hk
 subst e
 cases r3
 exact wpAny_truthy_bool ⟨H3,I3,q3⟩
end
def zj5 (k:Bool) (a:DE) (b:DA):DE:=fun δ S R=>a δ S fun x S1=>b δ S1 fun ys S2=>asI x fun i=>arg1 ys fun y=>asI y fun n=>R (.d (.bool (if k = true then !decide (0 <= i/\i < n) else decide (0 <= i/\i < n)))) S2
theorem znd {k:Bool} {ta:TE} {da:DE} {tb:TA} {db:DA} (ha:RE ta da) (hb:RA tb db):RE (zpM k ta tb) (zj5 k da db):=fun h o H δ σ S R Q he hs q c =>
 ha h o H δ σ S _ _ he hs q fun o1 H1 S1 x v e1 s1 x1 d1=>hb h o1 H1 δ σ S1 _ _ (he.mono e1) s1 d1 fun o2 H2 S2 ys us e2 s2 y2 d2=>by
  obtain ⟨i,rfl,d3⟩:=zbv d2
  obtain ⟨y,rfl,d4⟩:=zbE d3
  obtain ⟨n,rfl,d5⟩:=zbv d4
  obtain ⟨u,rfl,hu⟩:=hxs1 y2
  refine ⟨i,0,n,zbr (x1.mono e2),.inl ⟨by rw [zbr hu],rfl⟩,c o2 H2 S2 _ _ (e1.trans e2) s2 (xB _) d5⟩
end
section
@[irreducible] def QE (X:Cx) (e:Expr) (t:TE):Prop:=PE X e t
theorem QE.out {X:Cx} {e:Expr} {t:TE} (h:QE X e t):PE X e t:=by unfold QE at h; exact h
theorem QE.mk {X:Cx} {e:Expr} {t:TE} (h:PE X e t):QE X e t:=by unfold QE; exact h
theorem zd8 {X:Cx} {es:List Expr} {t:TA} {k:Nat} {pos:Pos} (h:QA X es t):QE X (.Tuple es k pos) (zsh t):=QE.mk (zF h.out)
theorem zjW {X:Cx} {es:List Expr} {t:TA} {pos:Pos} (h:QA X es t):QE X (.List es pos) (zn0 t):=QE.mk (zab h.out)
section
variable {X:Cx} {es l l':List Expr} {te:TE} {t:TA} {k:Nat} {p:Pos} {c:Const} {x:Str} {ks:List (Option Expr)}
theorem zfU (ha:QE X (.Tuple l k p) te) (hr:QA X es t):QA X (.Tuple l k p :: es) (zgV te t):=QA.mk (zc ha.out hr.out rfl)
theorem zmI (ha:QE X (.List l p) te) (hr:QA X es t):QA X (.List l p :: es) (zgV te t):=QA.mk (zc ha.out hr.out rfl)
theorem zin (ha:QE X (.Constant c k p) te) (hr:QA X es t):QA X (.Constant c k p :: es) (zgV te t):=QA.mk (zc ha.out hr.out rfl)
end
end
end L2
namespace L2
open PySem PySem.Spec PySem.Calls PyProof.Rows PySem.W
end L2
namespace L2
open PySem PySem.Spec PyProof.Rows
section
def zrM:D2:=fun x y S R=>asT x fun ds=>asT y fun es=>∃ ns,ds = ns.map PyData.int/\∃ ms,es = ms.map PyData.int/\R (.d (.bool (HT.lexLt ns ms))) S
theorem zrh {K:W.Frag}:RO (zsK K) zrM:=fun h o H S x y v u R Q hs hx hy q c=>by
 replace q:=zeL q
 obtain ⟨ds,rfl,q⟩:=q
 replace q:=zeL q
 obtain ⟨es,rfl,ns,rfl,ms,rfl,q⟩:=q
 obtain ⟨a,vs,rfl,ea,l1⟩:=zdA hx
 obtain ⟨b,ws,rfl,eb,l2⟩:=zdA hy
 have e1:=zbK l1
 have e2:=zbK l2
 subst e1 e2
 exact ⟨a,b,ns,ms,rfl,rfl,.of ea,.of eb,c o H S _ _ Ex.refl hs (xB _) q⟩
end
section
open Sem (wp)
namespace F4
end F4
end
section
namespace F4
end F4
end
section
namespace F4
end F4
end
section
namespace F4
end F4
end
end L2
namespace L2
open PySem PySem.Spec PySem.Calls PyProof.Rows PySem.W PySem.Builtin PySem.Builtin.ObjectAttr PySem.Builtin.Getset_descriptor
end L2
namespace L2
open PySem PySem.Spec PySem.Calls PyProof.Rows
end L2
namespace L2
open PySem PySem.Spec PyProof.Rows
section
abbrev EXD:=Addr->List (Str × PyData)->Prop
abbrev PX:=List XV->Sto->RX->EXD->Prop
def CnX (h o:List Addr) (H:Hp) (EX:EXD) (E:XK):Prop:=∀ o' H' S' C a fs,Ex o H o' H'->RepS h o' H' S'->HasE (vx h o' H') C fs (.ref a)->EX C fs->E (.ref C) (some a) H'
theorem CnX.pre {h o o':List Addr} {H H':Hp} {EX:EXD} {E:XK} (c:CnX h o H EX E) (e:Ex o H o' H'):CnX h o' H' EX E:=fun o2 H2 S2 C a fs e2=>c o2 H2 S2 C a fs (e.trans e2)
def RSx (E:XK) (EX:EXD) (t:TS) (dt:DS):Prop:=∀ (h o:List Addr) (H:Hp) (δ:XE) (σ:St) (S:Sto) (En:DEnds) (D:Ends),RepE h o H δ σ->RepS h o H S->dt En δ S->EOk h o H En D->CnX h o H EX E->t D σ H
section
variable {E:XK} {EX:EXD} {t u:TS} {dt du:DS}
theorem zo6 (ht:RS t dt):RSx E EX t dt:=fun h o H δ σ S En D he hs q c _=>ht h o H δ σ S En D he hs q c
end
end
end L2
namespace L2
open PySem PySem.Spec PySem.Calls PyProof.Rows PySem.W PySem.Builtin PySem.Builtin.ObjectAttr
end L2
namespace L2
open PySem PySem.Spec PySem.Calls PyProof.Rows PySem.W
end L2
namespace L2
open PySem PySem.Spec PySem.Calls PyProof.Rows
end L2
namespace L2
open PySem PySem.Spec PySem.Calls PyProof.Rows
end L2
namespace L2
open PySem PySem.Spec PyProof.Rows
section
def zls (EX:EXD) (C:Addr) (ns:List Str) (da:DA):DS:=fun _ δ S=>da δ S fun xs _=>∃ ds,datas xs = some ds/\ds.length = ns.length/\EX C (ns.zip ds)
end
end L2
namespace L2
open PySem PySem.Spec PySem.Calls PyProof.Rows
end L2
namespace L2
open PySem PySem.Spec PyProof.Rows
section
abbrev Phi:=List Addr->List Addr->Hp->Prop
class Stb (Φ:Phi):Prop where
 st:∀ {h o o':List Addr} {H H':Hp},Φ h o H->Ex o H o' H'->Φ h o' H'
def REp (Φ:Phi) (t:TE) (dt:DE):Prop:=∀ (h o:List Addr) (H:Hp) (δ:XE) (σ:St) (S:Sto) (R:RX) (Q:VK),RepE h o H δ σ->RepS h o H S->dt δ S R->Cn h o H R Q->Φ h o H->t σ H Q
def RTp (Φ:Phi) (t:TT) (dt:DT):Prop:=∀ (h o:List Addr) (H:Hp) (δ:XE) (σ:St) (S:Sto) (R:Bool->Sto->Prop) (Q:Bool->Hp->Prop),RepE h o H δ σ->RepS h o H S->dt δ S R ->
 (∀ o' H' S' b,Ex o H o' H'->RepS h o' H' S'->R b S'->Q b H')->Φ h o H->t σ H Q
def RAp (Φ:Phi) (t:TA) (dt:DA):Prop:=∀ (h o:List Addr) (H:Hp) (δ:XE) (σ:St) (S:Sto) (R:List XV->Sto->Prop) (Q:List V->Hp->Prop),RepE h o H δ σ->RepS h o H S->dt δ S R ->
 (∀ o' H' S' xs vs,Ex o H o' H'->RepS h o' H' S'->HasXs h o' H' xs vs->R xs S'->Q vs H')->Φ h o H->t σ H Q
def RIp (Φ:Phi) (w:TI) (di:DI):Prop:=∀ (h o:List Addr) (H:Hp) (δ:XE) (σ:St) (S:Sto) (R:List PyData->Sto->Prop) (Q:It->Hp->Prop),RepE h o H δ σ->RepS h o H S->di δ S R ->
 (∀ o' H' S' ds J,Ex o H o' H'->RepS h o' H' S'->WalkX h o' H' J ds->R ds S'->Q J H')->Φ h o H->w σ H Q
section
variable {Φ:Phi} [Stb Φ] {ta tb te:TE} {da db de:DE} {tl:TA} {dl:DA} {tt tu:TT} {dt du:DT}
theorem zhE (a:RE te de):REp Φ te de:=fun h o H δ σ S R Q he hs q c _=>a h o H δ σ S R Q he hs q c
theorem zo8 (a:RT tt dt):RTp Φ tt dt:=fun h o H δ σ S R Q he hs q c _=>a h o H δ σ S R Q he hs q c
theorem zpG (a:RA tl dl):RAp Φ tl dl:=fun h o H δ σ S R Q he hs q c _=>a h o H δ σ S R Q he hs q c
theorem zi6 {w:TI} {di:DI} (a:RI w di):RIp Φ w di:=fun h o H δ σ S R Q he hs q c _=>a h o H δ σ S R Q he hs q c
theorem zoz (ha:REp Φ ta da) (hb:RAp Φ tl dl):RAp Φ (zgV ta tl) (ze da dl):=fun h o H δ σ S R Q he hs q c x =>
 ha h o H δ σ S _ _ he hs q (fun o1 H1 S1 y v e1 s1 x1 d1=>hb h o1 H1 δ σ S1 _ _ (he.mono e1) s1 d1 (fun o2 H2 S2 xs vs e2 s2 x2 d2 =>
  c o2 H2 S2 (y :: xs) (v :: vs) (e1.trans e2) s2 ⟨v,vs,rfl,x1.mono e2,x2⟩ d2) (Stb.st x e1)) x
theorem zsy {r:List V->Hp->VK->Prop} {rd:List XV->Sto->RX->Prop} (hr:RC r rd) (ha:RAp Φ tl dl):REp Φ (tCB r tl) (dCB rd dl):=fun h o H δ σ S R Q he hs q c w =>
 ha h o H δ σ S _ _ he hs q (fun o1 H1 S1 xs vs e1 s1 x1 d1=>hr h o1 H1 S1 xs vs R Q s1 x1 d1 (c.pre e1)) w
end
section
variable {E:XK} {EX:EXD} {ta tb te:TE} {da db de:DE} {tl:TA} {dl:DA} {tt tu:TT} {dt du:DT}
def znZ (EX:EXD) (m:Nat) (q:PX) (da:DA):DE:=fun δ S R=>da δ S fun xs S1=>∃ ds,datas xs = some ds/\ds.length = m/\q (ds.map XV.d) [] (ret0 S1 R) EX
end
def zsG (N P:List Str) (sc:Scope):Bool:=decide (sc.kind = .function) && !sc.isCoroutine && !sc.isGenerator && decide N.Nodup && decide (N.take P.length = P) && P.all (fun x=>decide (sc.names.lookup x = some .local) || decide (sc.names.lookup x = some .cell)) && sc.names.all fun y=>decide (y.2 ≠ .free)
theorem fsc {N P:List Str} {sc:Scope} (h:zsG N P sc = true):FnScope N P sc:=by
 simp only [zsG,Bool.and_eq_true,decide_eq_true_eq,Bool.not_eq_true',List.all_eq_true,Bool.or_eq_true] at h
 obtain ⟨⟨⟨⟨⟨⟨h1,h2⟩,h3⟩,h4⟩,h5⟩,h6⟩,h7⟩:=h
 exact ⟨h1,h2,h3,h4,h5,h6,h7⟩
end
section
section
variable {κ α:Type} [DecidableEq κ]
def lkA (m:List (κ × α)) (k:κ):Option α:=(m.find? fun p=>decide (p.1 = k)).map (·.2)
def ptA (m:List (κ × α)) (k:κ) (v:α):List (κ × α):=if (m.any fun p=>decide (p.1 = k)) = true then m.map (fun p=>if p.1 = k then (p.1,v) else p) else m ++ [(k,v)]
def HasM (H:Hp):List (κ × PyData)->List (κ × V)->Prop
 | [],m=>m = []
 | p :: r,m=>∃ v m',m = (p.1,v) :: m'/\Has H p.2 v/\HasM H r m'
theorem HasM.mono {H H':Hp} (s:Same H H'):∀ {m:List (κ × PyData)} {m':List (κ × V)},HasM H m m'->HasM H' m m'
 | [],_,q=>q
 | p :: r,_,⟨v,t,e,q,l⟩=>⟨v,t,e,Has.mono s _ _ q,HasM.mono s l⟩
theorem HasM.length {H:Hp}:∀ {m:List (κ × PyData)} {m':List (κ × V)},HasM H m m'->m'.length = m.length
 | [],_,q=>by rw [show _ = [] from q]; rfl
 | p :: r,_,⟨v,t,e,q,l⟩=>by rw [e,List.length_cons,List.length_cons,HasM.length l]
theorem HasM.val {H:Hp} (k:κ):∀ {m:List (κ × PyData)} {m':List (κ × V)},HasM H m m'->(lkA m k = none/\zkP m' k = none)\/∃ d v,lkA m k = some d/\zkP m' k = some v/\Has H d v
 | [],m',q=>by rw [show m' = [] from q]; exact .inl ⟨rfl,rfl⟩
 | p :: r,m',⟨v,t,e,q,l⟩=>by
  subst e
  by_cases hk:p.1 = k
  ·exact .inr ⟨p.2,v,by simp [lkA,hk],zfY hk,q⟩
  ·have e1:lkA (p :: r) k = lkA r k:=by simp [lkA,hk]
   rw [e1,zfZ hk]
   exact HasM.val k l
theorem HasM.any {H:Hp} (k:κ):∀ {m:List (κ × PyData)} {m':List (κ × V)},HasM H m m'->(m'.any fun p=>decide (p.1 = k)) = m.any fun p=>decide (p.1 = k)
 | [],m',q=>by rw [show m' = [] from q]; rfl
 | p :: r,m',⟨v,t,e,q,l⟩=>by
  subst e
  rw [List.any_cons,List.any_cons,HasM.any k l]
theorem HasM.sets {H:Hp} {k:κ} {d:PyData} {v:V} (hv:Has H d v):∀ {m:List (κ × PyData)} {m':List (κ × V)},HasM H m m'->HasM H (m.map fun p=>if p.1 = k then (p.1,d) else p) (m'.map fun p=>if p.1 = k then (p.1,v) else p)
 | [],m',q=>by rw [show m' = [] from q]; rfl
 | p :: r,m',⟨u,t,e,q,l⟩=>by
  subst e
  rw [List.map_cons,List.map_cons]
  by_cases hk:p.1 = k
  ·exact ⟨v,_,by simp [hk],by simpa [hk] using hv,HasM.sets hv l⟩
  ·exact ⟨u,_,by simp [hk],by simpa [hk] using q,HasM.sets hv l⟩
theorem HasM.snoc {H:Hp} {k:κ} {d:PyData} {v:V} (hv:Has H d v):∀ {m:List (κ × PyData)} {m':List (κ × V)},HasM H m m'->HasM H (m ++ [(k,d)]) (m' ++ [(k,v)])
 | [],m',q=>by rw [show m' = [] from q]; exact ⟨v,[],rfl,hv,rfl⟩
 | p :: r,m',⟨u,t,e,q,l⟩=>by subst e; exact ⟨u,_,rfl,q,HasM.snoc hv l⟩
theorem HasM.put {H:Hp} {k:κ} {d:PyData} {v:V} {m:List (κ × PyData)} {m':List (κ × V)} (l:HasM H m m') (hv:Has H d v):HasM H (ptA m k d) (zi2 m' k v):=by
 unfold ptA zi2
 rw [l.any k]
 split
 ·exact l.sets hv
 ·exact l.snoc hv
end
inductive DD where
 | k (m:List (Key × PyData))
 | t (m:List (List Key × PyData))
def DD.pairs:DD->List (PyData × PyData)
 | .k m=>m.map fun p=>(kD p.1,p.2)
 | .t m=>m.map fun p=>(.tuple (p.1.map kD),p.2)
def DD.len:DD->Nat
 | .k m=>m.length
 | .t m=>m.length
def zk8:PyData->Option Key
 | .int i=>some (.inl i)
 | .str x=>some (.inr x)
 | _=>none
def ziZ:List PyData->Option (List Key)
 | []=>some []
 | d :: ds=>(zk8 d).bind fun k=>(ziZ ds).map (k :: ·)
def zmy:PyData->Option (List Key)
 | .tuple ds=>ziZ ds
 | _=>none
def DD.get:DD->PyData->Option (Option PyData)
 | .k m,y=>(zk8 y).map (lkA m)
 | .t m,y=>(zmy y).map (lkA m)
def DD.put:DD->PyData->PyData->Option DD
 | .k m,y,d=>(zk8 y).map fun k=>.k (ptA m k d)
 | .t m,y,d=>(zmy y).map fun k=>.t (ptA m k d)
def RAt (G H:Hp) (a:Addr):DD->Prop
 | .k m=>∃ m',Rd H a (.dK m')/\HasM G m m'
 | .t m=>∃ m',Rd H a (.dT m')/\HasM G m m'
def DAt (G H:Hp) (a:Addr):DD->Prop
 | .k m=>∃ m',H a = some (.dK m')/\HasM G m m'
 | .t m=>∃ m',H a = some (.dT m')/\HasM G m m'
theorem zhs {H:Hp} {y:PyData} {v:V} {k:Key} (e:zk8 y = some k) (q:Has H y v):v = kV k:=by
 cases y with
 | int i=>cases e; exact zen.mp q
 | str x=>cases e; exact zeO.mp q
 | _=>cases e
theorem ziw {H:Hp}:∀ {ds:List PyData} {vs:List V} {ks:List Key},ziZ ds = some ks->HasL H ds vs->vs = ks.map kV
 | [],vs,ks,e,l=>by cases e; exact zT.mp l
 | d :: ds,vs,ks,e,l=>by
  obtain ⟨v,r,rfl,q,l⟩:=zO.mp l
  unfold ziZ at e
  cases hk:zk8 d with
  | none=>rw [hk] at e; cases e
  | some k =>
   rw [hk,Option.bind_some] at e
   cases hs:ziZ ds with
   | none=>rw [hs] at e; cases e
   | some ks' =>
    rw [hs] at e
    cases e
    rw [zhs hk q,ziw hs l]
    rfl
theorem zjK {H:Hp} {y:PyData} {v:V} {ks:List Key} (e:zmy y = some ks) (q:Has H y v):∃ b,v = .ref b/\H b = some (.tup (ks.map kV)):=by
 cases y with
 | tuple ds =>
  obtain ⟨b,vs,rfl,eb,l⟩:=zbx.mp q
  exact ⟨b,rfl,by rw [<- ziw (show ziZ ds = some ks from e) l]; exact eb⟩
 | _=>cases e
theorem DAt.mono {G G' H H':Hp} {a:Addr} {D:DD} (s:Same G G') (e:∀ u,H a = some u->H' a = some u) (q:DAt G H a D):DAt G' H' a D:=by
 cases D with
 | k m=>obtain ⟨m',e1,l⟩:=q; exact ⟨m',e _ e1,l.mono s⟩
 | t m=>obtain ⟨m',e1,l⟩:=q; exact ⟨m',e _ e1,l.mono s⟩
theorem DAt.rd {G H:Hp} {a:Addr} {D:DD} (q:DAt G H a D):RAt G H a D:=by
 cases D with
 | k m=>obtain ⟨m',e1,l⟩:=q; exact ⟨m',.inl e1,l⟩
 | t m=>obtain ⟨m',e1,l⟩:=q; exact ⟨m',.inl e1,l⟩
theorem DAt.mo {G H:Hp} {a:Addr} {D:DD} (q:DAt G H a D):∃ u:MO,H a = some u.ho:=by
 cases D with
 | k m=>obtain ⟨m',e1,l⟩:=q; exact ⟨.k m',e1⟩
 | t m=>obtain ⟨m',e1,l⟩:=q; exact ⟨.t m',e1⟩
def RelD (G:Hp):Option PyData->Option V->Prop
 | none,r=>r = none
 | some d,r=>∃ u,r = some u/\Has G d u
theorem RAt.get {G H:Hp} {a:Addr} {D:DD} {y:PyData} {v:V} {o:Option PyData} (sv:Same G H) (q:RAt G H a D) (hy:Has G y v) (e:D.get y = some o):∃ r,DGet H a v r/\RelD G o r:=by
 cases D with
 | k m =>
  obtain ⟨m',e1,l⟩:=q
  replace e:(zk8 y).map (lkA m) = some o:=e
  cases hk:zk8 y with
  | none=>rw [hk] at e; cases e
  | some k =>
   rw [hk] at e
   cases e
   rw [zhs hk hy]
   refine ⟨_,.inl ⟨m',k,e1,rfl,rfl⟩,?_⟩
   rcases l.val k with ⟨z1,z2⟩ | ⟨d,u,z1,z2,z3⟩
   ·rw [z1]; exact z2
   ·rw [z1]; exact ⟨u,z2,z3⟩
 | t m =>
  obtain ⟨m',e1,l⟩:=q
  replace e:(zmy y).map (lkA m) = some o:=e
  cases hk:zmy y with
  | none=>rw [hk] at e; cases e
  | some k =>
   rw [hk] at e
   cases e
   obtain ⟨b,rfl,eb⟩:=zjK hk hy
   refine ⟨_,.inr ⟨m',k,b,e1,rfl,sv _ _ eb,rfl⟩,?_⟩
   rcases l.val k with ⟨z1,z2⟩ | ⟨d,u,z1,z2,z3⟩
   ·rw [z1]; exact z2
   ·rw [z1]; exact ⟨u,z2,z3⟩
theorem DAt.put {G H:Hp} {a:Addr} {D D':DD} {y d:PyData} {v u:V} (sv:Same G H) (q:DAt G H a D) (hy:Has G y v) (hd:Has G d u) (e:D.put y d = some D') (hl:D.len < 1000) :
  ∃ x:MO,DPut H a v u (upd H a x.ho)/\∀ H',H' a = some x.ho->DAt G H' a D':=by
 cases D with
 | k m =>
  obtain ⟨m',e1,l⟩:=q
  replace e:((zk8 y).map fun k=>DD.k (ptA m k d)) = some D':=e
  cases hk:zk8 y with
  | none=>rw [hk] at e; cases e
  | some k =>
   rw [hk] at e
   cases e
   rw [zhs hk hy]
   exact ⟨.k (zi2 m' k u),DPut.k e1 (by rw [l.length]; exact small1000 (Nat.le_of_lt hl)),fun H' z=>⟨_,z,l.put hd⟩⟩
 | t m =>
  obtain ⟨m',e1,l⟩:=q
  replace e:((zmy y).map fun k=>DD.t (ptA m k d)) = some D':=e
  cases hk:zmy y with
  | none=>rw [hk] at e; cases e
  | some k =>
   rw [hk] at e
   cases e
   obtain ⟨b,rfl,eb⟩:=zjK hk hy
   exact ⟨.t (zi2 m' k u),DPut.t e1 (sv _ _ eb) (by rw [l.length]; exact small1000 (Nat.le_of_lt hl)),fun H' z=>⟨_,z,l.put hd⟩⟩
theorem zqo {a b:Key} (e:kD a = kD b):a = b:=by
 cases a <;> cases b <;> cases e <;> rfl
theorem zkU {H:Hp}:∀ {m:List (Key × PyData)} {m':List (Key × V)},HasM H m m'->HasV H (m.map fun p=>(kD p.1,p.2)) (m'.map (·.2))/\m'.map (fun p=>kD p.1) = m.map fun p=>kD p.1
 | [],m',q=>by rw [show m' = [] from q]; exact ⟨zjy.mpr rfl,rfl⟩
 | p :: r,m',⟨v,t,e,q,l⟩=>by
  subst e
  obtain ⟨z1,z2⟩:=zkU l
  exact ⟨zie.mpr ⟨v,_,rfl,q,z1⟩,by rw [List.map_cons,List.map_cons,z2]⟩
theorem zkW {H:Hp}:∀ {m:List (Key × PyData)} {m':List (Key × V)},HasV H (m.map fun p=>(kD p.1,p.2)) (m'.map (·.2))->m.map (fun p=>kD p.1) = m'.map (fun p=>kD p.1)->HasM H m m'
 | [],[],_,_=>rfl
 | [],_ :: _,_,e=>by simp at e
 | _ :: _,[],_,e=>by simp at e
 | p :: r,q :: t,h,e=>by
  rw [List.map_cons,List.map_cons] at h
  obtain ⟨v,s,e1,e2,e3⟩:=zie.mp h
  rw [List.cons.injEq] at e1
  rw [List.map_cons,List.map_cons,List.cons.injEq] at e
  have z:=zqo e.1
  obtain ⟨q1,q2⟩:=q
  refine ⟨q2,t,by rw [z],?_,zkW (by rw [e1.2]; exact e3) e.2⟩
  have z1:q2 = v:=e1.1
  rw [z1]
  exact e2
theorem znT {H:Hp} {m:List (Key × PyData)} {v:V}:Has H (.dict (DD.pairs (.k m))) v ↔ ∃ a ob m',v = .ref a/\H a = some (.frz ob (.dK m'))/\HasM H m m':=by
 rw [zhz]
 constructor
 ·rintro ⟨a,vs,rfl,⟨ob,m',e,e1,e2⟩ | ⟨ob,p,m',e,e1,e2⟩,l⟩
  rotate_left
  ·cases m with
   | nil=>cases e1
   | cons q r =>
    have z:=congrArg List.head? e1
    simp only [DD.pairs,List.map_cons,List.head?_cons,Option.some.injEq] at z
    cases h:q.1 <;> rw [h] at z <;> cases z
  subst e2
  refine ⟨a,ob,m',rfl,e,zkW l ?_⟩
  rw [<- e1]
  simp [DD.pairs]
 ·rintro ⟨a,ob,m',rfl,e,l⟩
  obtain ⟨z1,z2⟩:=zkU l
  exact ⟨a,_,rfl,.inl ⟨ob,m',e,by rw [z2]; simp [DD.pairs],rfl⟩,z1⟩
abbrev DM:=List (Addr × DD)
def ad (M:DM):List Addr:=M.map (·.1)
structure RepM (h o:List Addr) (H:Hp) (M:DM):Prop where
 nd:(ad M).Nodup
 nh:∀ a ∈ ad M,a ∉ h/\a ∉ o
 ct:∀ a D,(a,D) ∈ M->DAt (vx (h ++ ad M) o H) H a D
section
variable {h o o':List Addr} {H H':Hp} {M:DM} {S:Sto}
theorem RepM.at (r:RepM h o H M) {a:Addr} (m:a ∈ ad M):∃ D,(a,D) ∈ M/\DAt (vx (h ++ ad M) o H) H a D:=by
 obtain ⟨p,mp,e⟩:=List.mem_map.mp m
 obtain ⟨b,D⟩:=p
 cases e
 exact ⟨D,mp,r.ct _ D mp⟩
theorem RepM.mono (r:RepM h o H M) (e:Ex o H o' H'):RepM h o' H' M:=by
 have k1:∀ a ∈ ad M,∀ u,H a = some u->a ∉ o'/\H' a = some u:=fun a m u z=>e.kp a u (r.nh a m).2 z
 refine ⟨r.nd,fun a m=>⟨(r.nh a m).1,?_⟩,fun a D m=>?_⟩
 ·obtain ⟨D,_,q⟩:=r.at m
  obtain ⟨u,z⟩:=q.mo
  exact (k1 a m _ z).1
 ·exact (r.ct a D m).mono e.vx fun u z=>(k1 a (List.mem_map.mpr ⟨_,m,rfl⟩) u z).2
theorem RepM.nil:RepM h o H []:=⟨List.nodup_nil,fun a m=>(by cases m),fun a D m=>(by cases m)⟩
def zoX (M:DM) (a:Addr) (D:DD):DM:=M.map fun p=>if p.1 = a then (a,D) else p
theorem zgp {a:Addr} {D:DD}:∀ {M:DM},ad (zoX M a D) = ad M
 | []=>rfl
 | p :: r=>by
  have z:=zgp (a:=a) (D:=D) (M:=r)
  unfold ad zoX at z ⊢
  rw [List.map_cons,List.map_cons,List.map_cons,z]
  by_cases e:p.1 = a <;> simp [e]
theorem zgk {a:Addr} {u:HO} (m:a ∈ h):Same (vx h o H) (vx h o (upd H a u)):=fun b w e=>by
 obtain ⟨z1,z2,z3⟩:=zay.mp e
 exact zay.mpr ⟨z1,z2,by rw [zae (fun z=>z1 (by rw [z]; exact m))]; exact z3⟩
theorem HasX.view (s:Same (vx h o H) (vx h o H')):∀ {x:XV} {v:V},HasX h o H x v->HasX h o H' x v
 | .d d,v,q=>Has.mono s d v q
 | .l k,v,q=>q
 | .o w,v,q=>q
 | .x C fs,v,q=>HasE.mono s q
theorem RepE.view {δ:XE} {σ:St} (s:Same (vx h o H) (vx h o H')) (r:RepE h o H δ σ):RepE h o H' δ σ:=⟨r.len,fun i x e=>let ⟨v,e1,e2⟩:=r.get i x e; ⟨v,e1,e2.view s⟩⟩
theorem RepS.hidden {a:Addr} {u:MO} (r:RepS h o H S) (m:a ∈ h):RepS h o (L2.upd H a u.ho) S where
 len:=r.len
 nd:=r.nd
 dis:=r.dis
 hal:=fun b mb=>by
  by_cases e:b = a
  ·subst e; exact ⟨u,zaW⟩
  ·obtain ⟨w,z⟩:=r.hal b mb
   exact ⟨w,by rw [zae e]; exact z⟩
 cont:=fun k b ds e1 e2=>by
  obtain ⟨vs,e3,l⟩:=r.cont k b ds e1 e2
  have ne:b ≠ a:=fun z=>r.dis b (List.mem_of_getElem? e1) (z ▸ m)
  exact ⟨vs,by rw [zae ne]; exact e3,HasL.mono (zgk m) _ _ l⟩
theorem RepM.put {a:Addr} {D D':DD} {u:MO} (r:RepM h o H M) (m:(a,D) ∈ M) (q:∀ H',H' a = some u.ho->DAt (vx (h ++ ad M) o H) H' a D'):RepM h o (L2.upd H a u.ho) (zoX M a D'):=by
 have ma:a ∈ ad M:=List.mem_map.mpr ⟨_,m,rfl⟩
 refine ⟨by rw [zgp]; exact r.nd,by rw [zgp]; exact r.nh,fun b D2 mb=>?_⟩
 rw [zgp]
 have sv:Same (vx (h ++ ad M) o H) (vx (h ++ ad M) o (L2.upd H a u.ho)):=zgk (List.mem_append_right _ ma)
 obtain ⟨p,mp,ep⟩:=List.mem_map.mp mb
 by_cases e:p.1 = a
 ·rw [if_pos e] at ep
  cases ep
  exact (q _ zaW).mono sv fun _ z=>z
 ·rw [if_neg e] at ep
  subst ep
  exact (r.ct _ _ mp).mono sv fun w z=>by rw [zae e]; exact z
theorem RepS.less {l:List Addr} (r:RepS (h ++ l) o H S):RepS h o H S where
 len:=r.len
 nd:=r.nd
 dis:=fun a ma z=>r.dis a ma (List.mem_append_left _ z)
 hal:=fun b mb=>r.hal b (List.mem_append_left _ mb)
 cont:=fun k b ds e1 e2=>by
  obtain ⟨vs,e3,q⟩:=r.cont k b ds e1 e2
  exact ⟨vs,e3,HasL.mono (fun c u z=>let ⟨z1,z2,z3⟩:=zay.mp z; zay.mpr ⟨fun mm=>z1 (List.mem_append_left _ mm),z2,z3⟩) _ _ q⟩
theorem zgv {l:List Addr}:Same (vx (h ++ l) o H) (vx h o H):=fun c u z=>let ⟨z1,z2,z3⟩:=zay.mp z; zay.mpr ⟨fun mm=>z1 (List.mem_append_left _ mm),z2,z3⟩
theorem HasX.less {l:List Addr}:∀ {x:XV} {v:V},HasX (h ++ l) o H x v->HasX h o H x v
 | .d d,v,q=>Has.mono zgv d v q
 | .l k,v,q=>q
 | .o w,v,q=>q
 | .x C fs,v,q=>HasE.mono zgv q
end
end
section
structure DEndsM where
 nx:XE->Sto->DM->Prop
 rt:XV->Sto->DM->Prop
 bk:XE->Sto->DM->Prop:=fun _ _ _=>False
 ct:XE->Sto->DM->Prop:=fun _ _ _=>False
abbrev DSm:=DEndsM->XE->Sto->DM->Prop
def Fr (H:Hp) (M:DM):Prop:=∀ a ∈ ad M,H a = none
def NxM (h o:List Addr) (H:Hp) (A:List Addr) (N:XE->Sto->DM->Prop) (Y:St->Hp->Prop):Prop:=∀ o' H' δ' S' M' σ',Ex o H o' H'->ad M' = A->RepE (h ++ ad M') o' H' δ' σ'->RepS (h ++ ad M') o' H' S'->RepM h o' H' M'->N δ' S' M'->Y σ' H'
structure EOkM (h o:List Addr) (H:Hp) (A:List Addr) (E:DEndsM) (D:Ends):Prop where
 nx:NxM h o H A E.nx D.nx
 rt:∀ o' H' S' M' x v,Ex o H o' H'->ad M' = A->RepS (h ++ ad M') o' H' S'->RepM h o' H' M'->HasX (h ++ ad M') o' H' x v->E.rt x S' M'->D.rt v H'
 bk:NxM h o H A E.bk D.bk
 ct:NxM h o H A E.ct D.ct
def RSm (E:XK) (EX:EXD) (t:TS) (dt:DSm):Prop:=∀ (h o0:List Addr) (H0:Hp) (o:List Addr) (H:Hp) (δ:XE) (σ:St) (S:Sto) (M:DM) (En:DEndsM) (D:Ends),Ex o0 H0 o H->Fr H0 M->RepE (h ++ ad M) o H δ σ->RepS (h ++ ad M) o H S->RepM h o H M->dt En δ S M ->
 EOkM h o0 H0 (ad M) En D->CnX h o0 H0 EX E->t D σ H
theorem CnX.inn {E:XK} {EX:EXD} {h o0 o l:List Addr} {H0 H:Hp} (x:CnX h o0 H0 EX E) (e0:Ex o0 H0 o H):CnX (h ++ l) o H EX E:=fun o' H' S' C a fs e s' hE q=>x o' H' S' C a fs (e0.trans e) s'.less (HasE.mono zgv hE) q
def zg2 (dt:DS):DSm:=fun En δ S M=>dt { nx:=fun δ' S'=>En.nx δ' S' M,rt:=fun x S'=>En.rt x S' M,bk:=fun δ' S'=>En.bk δ' S' M,ct:=fun δ' S'=>En.ct δ' S' M } δ S
def zng (t u:DSm):DSm:=fun En δ S M=>t { En with nx:=u En } δ S M
def zrZ (c:DM->DT) (t u:DSm):DSm:=fun En δ S M=>c M δ S fun b S1=>if b = true then t En δ S1 M else u En δ S1 M
def zfC (g:DG) (b:DSm):List PyData->DSm
 | [],E,δ,S,M=>E.nx δ S M
 | d :: ds,E,δ,S,M=>g (.d d) δ S fun δ1 S1=>b { nx:=fun δ2 S2 M2=>zfC g b ds E δ2 S2 M2,ct:=fun δ2 S2 M2=>zfC g b ds E δ2 S2 M2,bk:=E.nx,rt:=E.rt } δ1 S1 M
def zl5 (i:DM->DI) (g:DG) (b:DSm):DSm:=fun En δ S M=>i M δ S fun ds S1=>zfC g b ds En δ S1 M
def PhM (M:DM):Phi:=fun h' o H=>∃ h,h' = h ++ ad M/\RepM h o H M
instance {M:DM}:Stb (PhM M):=⟨fun ⟨h,e,r⟩ x=>⟨h,e,r.mono x⟩⟩
section
variable {E:XK} {EX:EXD} {t u:TS} {dt du:DSm}
theorem zmV {ds:DS} (ht:RSx E EX t ds):RSm E EX t (zg2 ds):=fun h o0 H0 o H δ σ S M En D e0 fr he hs rm q c x =>
 ht (h ++ ad M) o H δ σ S _ D he hs q ⟨fun o' H' δ' S' σ' e he' hs' n=>c.nx o' H' δ' S' M σ' (e0.trans e) rfl he' hs' (rm.mono e) n,fun o' H' S' y v e hs' hy n=>c.rt o' H' S' M y v (e0.trans e) rfl hs' (rm.mono e) hy n,
  fun o' H' δ' S' σ' e he' hs' n=>c.bk o' H' δ' S' M σ' (e0.trans e) rfl he' hs' (rm.mono e) n,fun o' H' δ' S' σ' e he' hs' n=>c.ct o' H' δ' S' M σ' (e0.trans e) rfl he' hs' (rm.mono e) n⟩ (x.inn e0)
theorem zk4 {ds:DS} (ht:RS t ds):RSm E EX t (zg2 ds):=zmV (zo6 ht)
theorem zp4 (ht:RSm E EX t dt) (hu:RSm E EX u du):RSm E EX (zf1 t u) (zng dt du):=fun h o0 H0 o H δ σ S M En D e0 fr he hs rm q c x =>
 ht h o0 H0 o H δ σ S M _ _ e0 fr he hs rm q ⟨fun o1 H1 δ1 S1 M1 σ1 e1 ea he1 hs1 rm1 q1=>hu h o0 H0 o1 H1 δ1 σ1 S1 M1 En D e1 (by unfold Fr; rw [ea]; exact fr) he1 hs1 rm1 q1 (by rw [ea]; exact c) x,c.rt,c.bk,c.ct⟩ x
theorem zr3 {tc:TT} {dc:DM->DT} (hc:∀ M,RTp (PhM M) tc (dc M)) (ht:RSm E EX t dt) (hu:RSm E EX u du):RSm E EX (zrT tc t u) (zrZ dc dt du):=fun h o0 H0 o H δ σ S M En D e0 fr he hs rm q c x =>
 hc M (h ++ ad M) o H δ σ S _ _ he hs q (fun o1 H1 S1 b e1 s1 d1=>by
  cases b with
  | true=>exact zmr (ht h o0 H0 o1 H1 δ σ S1 M En D (e0.trans e1) fr (he.mono e1) s1 (rm.mono e1) (by simpa using d1) c x)
  | false=>exact zmq (hu h o0 H0 o1 H1 δ σ S1 M En D (e0.trans e1) fr (he.mono e1) s1 (rm.mono e1) (by simpa using d1) c x)) ⟨h,rfl,rm⟩
theorem znF {wi:TI} {g:TG} {tb:TS} {di:DM->DI} {dg:DG} {db:DSm} (hi:∀ M,RIp (PhM M) wi (di M)) (hg:RG g dg) (hb:RSm E EX tb db):RSm E EX (zpV wi g tb) (zl5 di dg db):=fun h o0 H0 o H δ σ S M En D e0 fr he hs rm q c x =>
 hi M (h ++ ad M) o H δ σ S _ _ he hs q (fun o1 H1 S1 ds J e1 s1 wk d1=>by
  refine ⟨fun i m σ2 H2=>m = ds.length - i/\i <= ds.length/\∃ o2 δ2 S2 M2,Ex o0 H0 o2 H2/\ExH (h ++ ad M) o1 H1 o2 H2/\ad M2 = ad M/\RepE (h ++ ad M) o2 H2 δ2 σ2/\RepS (h ++ ad M) o2 H2 S2/\RepM h o2 H2 M2/\zfC dg db (ds.drop i) En δ2 S2 M2,
   ⟨ds.length,by simp,Nat.zero_le _,o1,δ,S1,M,e0.trans e1,ExH.refl,rfl,he.mono e1,s1,rm.mono e1,d1⟩,?_⟩
  rintro i m σ2 H2 ⟨rfl,hi,o2,δ2,S2,M2,e2,x2,ea,he2,hs2,rm2,d2⟩
  by_cases hlt:i < ds.length
  ·have ed:ds[i]? = some ds[i]:=List.getElem?_eq_getElem hlt
   rw [List.drop_eq_getElem_cons hlt] at d2
   refine .inr ⟨wk.go i _ o2 H2 x2 ed,fun σ3 H3=>∃ o3 δ3 S3 M3,Ex o0 H0 o3 H3/\ExH (h ++ ad M) o1 H1 o3 H3/\ad M3 = ad M/\RepE (h ++ ad M) o3 H3 δ3 σ3/\RepS (h ++ ad M) o3 H3 S3/\RepM h o3 H3 M3/\zfC dg db (ds.drop (i + 1)) En δ3 S3 M3,fun σ3 H3 n=>⟨ds.length - (i + 1),by omega,rfl,hlt,n⟩,fun y H3 yy=>?_⟩
   obtain ⟨s3,hx⟩:=wk.yld i _ o2 H2 y H3 S2 x2 hs2 ed yy
   have e23:Ex o2 H2 o2 H3:=Ex.of_same s3
   refine hg (h ++ ad M) o2 H3 δ2 σ2 S2 (.d ds[i]) y _ _ (he2.mono e23) (hs2.same s3) hx d2 fun o4 H4 δ4 S4 σ4 e4 he4 hs4 d4=>?_
   have e24:Ex o2 H2 o4 H4:=e23.trans e4
   have nM:∀ b u,H0 b = some u->b ∉ ad M:=fun b u z mb=>by
    rw [fr b mb] at z
    cases z
   have e04:Ex o0 H0 o4 (fun b=>if b ∈ ad M then none else H4 b):=⟨(e2.trans e24).pre,fun b u nb z=>by
    obtain ⟨z1,z2⟩:=(e2.trans e24).kp b u nb z
    exact ⟨z1,by show (if b ∈ ad M then none else H4 b) = some u; rw [if_neg (nM b u z)]; exact z2⟩⟩
   have exh:∀ {o5 H5},Ex o4 (fun b=>if b ∈ ad M then none else H4 b) o5 H5->ExH (h ++ ad M) o4 H4 o5 H5:=fun e5=>⟨e5.pre,fun b u n1 n2 z=>e5.kp b u n2 (by show (if b ∈ ad M then none else H4 b) = some u; rw [if_neg (fun mb=>n1 (List.mem_append_right _ mb))]; exact z)⟩
   have again:∀ o5 H5 δ5 S5 M5 σ5,Ex o4 (fun b=>if b ∈ ad M then none else H4 b) o5 H5->ad M5 = ad M2->RepE (h ++ ad M5) o5 H5 δ5 σ5->RepS (h ++ ad M5) o5 H5 S5->RepM h o5 H5 M5->zfC dg db (ds.drop (i + 1)) En δ5 S5 M5 ->
     ∃ o3 δ3 S3 M3,Ex o0 H0 o3 H5/\ExH (h ++ ad M) o1 H1 o3 H5/\ad M3 = ad M/\RepE (h ++ ad M) o3 H5 δ3 σ5/\RepS (h ++ ad M) o3 H5 S3/\RepM h o3 H5 M3/\zfC dg db (ds.drop (i + 1)) En δ3 S3 M3:=fun o5 H5 δ5 S5 M5 σ5 e5 a5 he5 hs5 rm5 d5 =>
    ⟨o5,δ5,S5,M5,e04.trans e5,(x2.trans e24.hid).trans (exh e5),a5.trans ea,by rw [<- ea,<- a5]; exact he5,by rw [<- ea,<- a5]; exact hs5,rm5,d5⟩
   refine hb h o4 (fun b=>if b ∈ ad M then none else H4 b) o4 H4 δ4 σ4 S4 M2 _ _ ⟨⟨[],by simp⟩,fun b u nb eb=>?_⟩ (fun a ma=>by show (if a ∈ ad M then none else H4 a) = none; rw [if_pos (by rw [<- ea]; exact ma)]) (by rw [ea]; exact he4) (by rw [ea]; exact hs4) (rm2.mono e24) d4
    ⟨again,fun o5 H5 S5 M5 y5 v5 e5 a5 hs5 rm5 hx5 q5=>c.rt o5 H5 S5 M5 y5 v5 (e04.trans e5) (a5.trans ea) hs5 rm5 hx5 q5,fun o5 H5 δ5 S5 M5 σ5 e5 a5 he5 hs5 rm5 q5=>c.nx o5 H5 δ5 S5 M5 σ5 (e04.trans e5) (a5.trans ea) he5 hs5 rm5 q5,again⟩ (x.pre e04)
   refine ⟨nb,?_⟩
   by_cases mb:b ∈ ad M
   ·simp [mb] at eb
   ·simpa [mb] using eb
  ·have ei:i = ds.length:=by omega
   subst ei
   rw [List.drop_length] at d2
   exact .inl ⟨wk.stop _ o2 H2 x2 (Nat.le_refl _),c.nx o2 H2 δ2 S2 M2 σ2 e2 ea (by rw [ea]; exact he2) (by rw [ea]; exact hs2) rm2 d2⟩) ⟨h,rfl,rm⟩
end
end
section
section
variable {h h' o:List Addr} {H H':Hp}
theorem HasX.to (s:Same (vx h o H) (vx h' o H')):∀ {x:XV} {v:V},HasX h o H x v->HasX h' o H' x v
 | .d d,v,q=>Has.mono s d v q
 | .l k,v,q=>q
 | .o w,v,q=>q
 | .x C fs,v,q=>HasE.mono s q
theorem RepE.to {δ:XE} {σ:St} (s:Same (vx h o H) (vx h' o H')) (r:RepE h o H δ σ):RepE h' o H' δ σ:=⟨r.len,fun i x e=>let ⟨v,e1,e2⟩:=r.get i x e; ⟨v,e1,e2.to s⟩⟩
end
def zq5 (a:Addr) (m:List (Key × PyData)):XV->XV
 | .o (.ref b)=>if b = a then .d (.dict (DD.pairs (.k m))) else .o (.ref b)
 | x=>x
theorem zrK {h h' o:List Addr} {H H':Hp} {a:Addr} {m:List (Key × PyData)} {m':List (Key × V)} {ob:Obj} (s:Same (vx h o H) (vx h' o H')) (e:vx h' o H' a = some (.frz ob (.dK m'))) (l:HasM (vx h o H) m m'):∀ {x:XV} {v:V},HasX h o H x v->HasX h' o H' (zq5 a m x) v
 | .d d,v,z=>Has.mono s d v z
 | .l k,v,z=>z
 | .x C fs,v,z=>HasE.mono s z
 | .o w,v,z=>by
  cases w with
  | ref b =>
   unfold zq5
   dsimp only
   split
   ·rename_i eb
    subst eb
    rw [show v = .ref b from z]
    exact znT.mpr ⟨b,ob,m',rfl,e,l.mono s⟩
   ·exact z
  | _=>exact z
theorem zm4 {h h' o:List Addr} {H H':Hp} {a:Addr} {m:List (Key × PyData)} {m':List (Key × V)} {ob:Obj} {δ:XE} {σ:St} (s:Same (vx h o H) (vx h' o H')) (e:vx h' o H' a = some (.frz ob (.dK m'))) (l:HasM (vx h o H) m m') (r:RepE h o H δ σ):RepE h' o H' (δ.map (Option.map (zq5 a m))) σ:=by
 refine ⟨by rw [List.length_map]; exact r.len,fun i x ex=>?_⟩
 rw [List.getElem?_map] at ex
 cases hd:δ[i]? with
 | none=>rw [hd] at ex; cases ex
 | some y =>
  rw [hd] at ex
  cases y with
  | none=>cases ex
  | some y =>
   cases ex
   obtain ⟨v,e1,e2⟩:=r.get i y hd
   exact ⟨v,e1,zrK s e l e2⟩
theorem zaO {M:DM} {a:Addr} {D:DD}:ad (M ++ [(a,D)]) = ad M ++ [a]:=by simp [ad]
theorem RepM.init {h o:List Addr} {H:Hp} {M:DM} {a:Addr} {D:DD} (r:RepM h o H (M ++ [(a,D)])):RepM h o H M:=by
 have nd:=r.nd
 rw [zaO] at nd
 refine ⟨(List.nodup_append.mp nd).1,fun b m=>r.nh b (by rw [zaO]; exact List.mem_append_left _ m),fun b D2 m=>?_⟩
 have z:=r.ct b D2 (List.mem_append_left _ m)
 rw [zaO,<- List.append_assoc] at z
 exact z.mono zgv fun _ z=>z
def zly (f:Bool) (i:Nat) (D0:DD) (b:DSm):DSm:=fun En δ S M=>∀ a,a ∉ ad M->b { nx:=(fun δ' S' M'=>if f = true then (∃ M1 m,M' = M1 ++ [(a,.k m)]/\δ'[i]? = some (some (.o (.ref a)))/\En.nx (δ'.map (Option.map (zq5 a m))) S' M1) else (∃ M1 D,M' = M1 ++ [(a,D)]/\En.nx δ' S' M1)),rt:=(fun x S' M'=>∃ M1 D,M' = M1 ++ [(a,D)]/\En.rt x S' M1),bk:=(fun δ' S' M'=>∃ M1 D,M' = M1 ++ [(a,D)]/\En.bk δ' S' M1),ct:=(fun δ' S' M'=>∃ M1 D,M' = M1 ++ [(a,D)]/\En.ct δ' S' M1) } (δ.set i (some (.o (.ref a)))) S (M ++ [(a,D0)])
section
variable {E:XK} {EX:EXD} {tb:TS} {db:DSm} {i:Nat}
theorem zmW {f:Bool} {u:MO} {D0:DD} (hD:∀ (G H:Hp) a,H a = some u.ho->DAt G H a D0) (hb:RSm E EX tb db) {h o0:List Addr} {H0:Hp} {o:List Addr} {H:Hp} {δ:XE} {σ:St} {S:Sto} {M:DM} {En:DEndsM} {D:Ends} (e0:Ex o0 H0 o H) (fr:Fr H0 M) (he:RepE (h ++ ad M) o H δ σ) (hs:RepS (h ++ ad M) o H S) (rm:RepM h o H M)
  (q:zly f i D0 db En δ S M) (c:EOkM h o0 H0 (ad M) En D) (x:CnX h o0 H0 EX E) (p:Addr) (hp:H p = none):(if f = true then ztm i tb else tb) D (σ.set i (some (.ref p))) (upd H p u.ho):=by
 have nM:p ∉ ad M:=fun m=>by
  obtain ⟨D2,_,z⟩:=rm.at m
  obtain ⟨w,ew⟩:=z.mo
  rw [hp] at ew
  cases ew
 have f1:=hs.fresh hp
 have nh:p ∉ h:=fun m=>f1.1 (List.mem_append_left _ m)
 have sH:Same H (upd H p u.ho):=Same.laid hp
 have e1:Ex o0 H0 o (upd H p u.ho):=e0.trans (Ex.of_same sH)
 have H0p:H0 p = none:=by
  cases z:H0 p with
  | none=>rfl
  | some w =>
   by_cases m:p ∈ o0
   ·obtain ⟨r,er⟩:=e0.pre
    exact absurd (show p ∈ o by rw [er]; exact List.mem_append_left _ m) f1.2
   ·have:=(e0.kp p w m z).2
    rw [hp] at this
    cases this
 have sv:Same (vx (h ++ ad M) o H) (vx (h ++ (ad M ++ [p])) o (upd H p u.ho)):=fun b w z=>by
  obtain ⟨z1,z2,z3⟩:=zay.mp z
  have ne:b ≠ p:=zan z3 hp
  refine zay.mpr ⟨fun m=>?_,z2,by rw [zae ne]; exact z3⟩
  rw [<- List.append_assoc] at m
  rcases List.mem_append.mp m with m | m
  ·exact z1 m
  ·exact ne (List.mem_singleton.mp m)
 have sM:RepS (h ++ ad (M ++ [(p,D0)])) o (upd H p u.ho) S:=by
  rw [zaO]
  refine ⟨hs.len,hs.nd,fun a ma z=>?_,fun b mb=>?_,fun k b ds e1 e2=>?_⟩
  ·rw [<- List.append_assoc] at z
   rcases List.mem_append.mp z with z | z
   ·exact hs.dis a ma z
   ·rw [List.mem_singleton.mp z] at ma
    exact f1.2 ma
  ·rw [<- List.append_assoc] at mb
   rcases List.mem_append.mp mb with m | m
   ·obtain ⟨w,ew⟩:=hs.hal b m
    exact ⟨w,sH _ _ ew⟩
   ·rw [List.mem_singleton.mp m]
    exact ⟨u,zaW⟩
  ·obtain ⟨vs,e3,l⟩:=hs.cont k b ds e1 e2
   exact ⟨vs,sH _ _ e3,HasL.mono sv _ _ l⟩
 have mM:RepM h o (upd H p u.ho) (M ++ [(p,D0)]):=by
  refine ⟨by rw [zaO]; exact zc8 rm.nd nM,fun a ma=>?_,fun a D2 m=>?_⟩
  ·rw [zaO] at ma
   rcases List.mem_append.mp ma with m | m
   ·exact rm.nh a m
   ·rw [List.mem_singleton.mp m]
    exact ⟨nh,f1.2⟩
  ·rw [zaO]
   rcases List.mem_append.mp m with m | m
   ·exact (rm.ct a D2 m).mono sv fun w z=>sH _ _ z
   ·have:=List.mem_singleton.mp m
    cases this
    exact hD _ _ _ zaW
 have hE:RepE (h ++ ad (M ++ [(p,D0)])) o (upd H p u.ho) (δ.set i (some (.o (.ref p)))) (σ.set i (some (.ref p))):=by
  rw [zaO]
  exact (he.to sv).set (show HasX _ _ _ (.o (.ref p)) (.ref p) from rfl)
 have fr1:Fr H0 (M ++ [(p,D0)]):=fun a ma=>by
  rw [zaO] at ma
  rcases List.mem_append.mp ma with m | m
  ·exact fr a m
  ·rw [List.mem_singleton.mp m]; exact H0p
 have back:∀ {N:XE->Sto->DM->Prop} {Y:St->Hp->Prop},NxM h o0 H0 (ad M) N Y->NxM h o0 H0 (ad (M ++ [(p,D0)])) (fun δ' S' M'=>∃ M1 D,M' = M1 ++ [(p,D)]/\N δ' S' M1) Y:=fun {N Y} nx o' H' δ' S' M' σ' ex ea hE' hS' hM' ⟨M1,D2,eM,n⟩=>by
  subst eM
  rw [zaO,zaO] at ea
  rw [zaO,<- List.append_assoc] at hE' hS'
  exact nx o' H' _ S' M1 σ' ex (List.append_inj_left' ea rfl) (hE'.to zgv) hS'.less hM'.init n
 have ret:∀ o' H' S' M' y v,Ex o0 H0 o' H'->ad M' = ad (M ++ [(p,D0)])->RepS (h ++ ad M') o' H' S'->RepM h o' H' M'->HasX (h ++ ad M') o' H' y v->(∃ M1 D,M' = M1 ++ [(p,D)]/\En.rt y S' M1)->D.rt v H':=by
  rintro o' H' S' M' y v ex ea hS' hM' hx' ⟨M1,D2,eM,n⟩
  subst eM
  rw [zaO,zaO] at ea
  rw [zaO,<- List.append_assoc] at hx' hS'
  exact c.rt o' H' S' M1 _ v ex (List.append_inj_left' ea rfl) hS'.less hM'.init hx'.less n
 have qq:=q p nM
 cases f with
 | false =>
  refine hb h o0 H0 o _ _ _ S (M ++ [(p,D0)]) _ D e1 fr1 hE sM mM qq ⟨?_,ret,back c.bk,back c.ct⟩ x
  exact fun o' H' δ' S' M' σ' ex ea hE' hS' hM' n=>back c.nx o' H' δ' S' M' σ' ex ea hE' hS' hM' (by simpa using n)
 | true =>
  refine hb h o0 H0 o _ _ _ S (M ++ [(p,D0)]) _ { D with nx:=fun σ' H'=>∃ a m,σ'[i]? = some (some (.ref a))/\H' a = some (.dK m)/\∀ ob,D.nx σ' (upd H' a (.frz ob (.dK m))) } e1 fr1 hE sM mM qq ⟨?_,ret,back c.bk,back c.ct⟩ x
  intro o' H' δ' S' M' σ' ex ea hE' hS' hM' n
  obtain ⟨M1,m,eM,ei,n2⟩:∃ M1 m,M' = M1 ++ [(p,DD.k m)]/\δ'[i]? = some (some (.o (.ref p)))/\En.nx (δ'.map (Option.map (zq5 p m))) S' M1:=by simpa using n
  subst eM
  obtain ⟨v,ev,hv⟩:=hE'.get i _ ei
  have evp:v = .ref p:=hv
  subst evp
  have nn:=hM'.nh p (by rw [zaO]; simp)
  have nd:=hM'.nd
  rw [zaO,zaO] at ea
  rw [zaO] at nd
  have pn:p ∉ ad M1:=fun m=>(List.nodup_append.mp nd).2.2 p m p (by simp) rfl
  obtain ⟨m',em,l⟩:=hM'.ct p (.k m) (by simp)
  refine ⟨p,m',ev,em,fun ob=>?_⟩
  have np:p ∉ h ++ ad M1:=fun z=>(List.mem_append.mp z).elim nn.1 pn
  have s2:Same (vx (h ++ ad (M1 ++ [(p,DD.k m)])) o' H') (vx (h ++ ad M1) o' (upd H' p (.frz ob (.dK m')))):=fun b w z=>by
   obtain ⟨z1,z2,z3⟩:=zay.mp z
   rw [zaO,<- List.append_assoc] at z1
   have ne:b ≠ p:=fun z=>z1 (by rw [z]; simp)
   exact zay.mpr ⟨fun mm=>z1 (List.mem_append_left _ mm),z2,by rw [zae ne]; exact z3⟩
  refine c.nx o' _ _ S' M1 σ' ⟨ex.pre,fun b w nb zb=>?_⟩ (List.append_inj_left' ea rfl) (zm4 s2 (zay.mpr ⟨np,nn.2,zaW⟩) l hE') ?_ ?_ n2
  ·obtain ⟨z1,z3⟩:=ex.kp b w nb zb
   exact ⟨z1,by rw [zae (fun z=>by rw [z,H0p] at zb; cases zb)]; exact z3⟩
  ·refine ⟨hS'.len,hS'.nd,fun a ma z=>hS'.dis a ma (by rw [zaO,<- List.append_assoc]; exact List.mem_append_left _ z),fun b mb=>?_,fun k b ds q1 q2=>?_⟩
   ·obtain ⟨w,ew⟩:=hS'.hal b (by rw [zaO,<- List.append_assoc]; exact List.mem_append_left _ mb)
    exact ⟨w,by rw [zae (fun z=>np (by rw [<- z]; exact mb))]; exact ew⟩
   ·obtain ⟨vs,q3,l3⟩:=hS'.cont k b ds q1 q2
    exact ⟨vs,by rw [zae (fun z=>nn.2 (by rw [<- z]; exact List.mem_of_getElem? q1))]; exact q3,HasL.mono s2 _ _ l3⟩
  ·have r1:=hM'.init
   refine ⟨r1.nd,r1.nh,fun b D3 mb=>?_⟩
   have nb:b ≠ p:=fun z=>pn (by rw [<- z]; exact List.mem_map.mpr ⟨_,mb,rfl⟩)
   exact (hM'.ct b D3 (List.mem_append_left _ mb)).mono s2 fun w z=>by rw [zae nb]; exact z
theorem zo7 (hb:RSm E EX tb db):RSm E EX (zf1 (zrp znI (zi7 i)) tb) (zly false i (.t []) db):=fun h o0 H0 o H δ σ S M En D e0 fr he hs rm q c x p hp =>
 zmW (f:=false) (D0:=.t []) (u:=.t []) (fun G H a z=>⟨[],z,rfl⟩) hb e0 fr he hs rm q c x p hp
def zqk (dt:DSm):DS:=fun En δ S=>dt { nx:=fun δ' S' _=>En.nx δ' S',rt:=fun x S' _=>En.rt x S',bk:=fun δ' S' _=>En.bk δ' S',ct:=fun δ' S' _=>En.ct δ' S' } δ S []
theorem zpq {t:TS} {dt:DSm} (ht:RSm E EX t dt):RSx E EX t (zqk dt):=fun h o H δ σ S En D he hs q c x=>by
 have z:h ++ ad [] = h:=List.append_nil _
 have nx:∀ {N:XE->Sto->Prop} {Y:St->Hp->Prop},Nx h o H N Y->NxM h o H (ad []) (fun δ' S' _=>N δ' S') Y:=fun {N Y} n o' H' δ' S' M' σ' ex ea he' hs' _ q'=>by
  rw [ea,z] at he' hs'
  exact n o' H' δ' S' σ' ex he' hs' q'
 refine ht h o H o H δ σ S [] _ D Ex.refl (fun a m=>by cases m) (by rw [z]; exact he) (by rw [z]; exact hs) RepM.nil q ⟨nx c.nx,?_,nx c.bk,nx c.ct⟩ x
 rintro o' H' S' M' y v ex ea hs' _ hx' q'
 rw [ea,z] at hs' hx'
 exact c.rt o' H' S' y v ex hs' hx' q'
theorem zpe {t:TS} {dt:DSm} (ht:RSm E0 (fun _ _=>False) t dt):RS t (zqk dt):=fun h o H δ σ S En D he hs q c=>zpq ht h o H δ σ S En D he hs q c fun _ _ _ _ _ _ _ _ _ z=>z.elim
end
end
section
def ROp (Φ:Phi) (r:R2) (rd:D2):Prop:=∀ (h o:List Addr) (H:Hp) (S:Sto) (x y:XV) (v u:V) (R:RX) (Q:VK),Φ h o H->RepS h o H S->HasX h o H x v->HasX h o H y u->rd x y S R->Cn h o H R Q->r v u H Q
section
variable {Φ:Phi} [Stb Φ] {ta tb:TE} {da db:DE}
theorem zqX {r:R2} {rd:D2} (hr:ROp Φ r rd) (ha:REp Φ ta da) (hb:REp Φ tb db):REp Φ (tOp r ta tb) (dOp rd da db):=fun h o H δ σ S R Q he hs q c w =>
 ha h o H δ σ S _ _ he hs q (fun o1 H1 S1 x v e1 s1 x1 d1=>hb h o1 H1 δ σ S1 _ _ (he.mono e1) s1 d1 (fun o2 H2 S2 y u e2 s2 y2 d2 =>
  hr h o2 H2 S2 x y v u R Q (Stb.st w (e1.trans e2)) s2 (x1.mono e2) y2 d2 (c.pre (e1.trans e2))) (Stb.st w e1)) w
theorem zqW {tt:TT} {dt:DT} (ha:RTp Φ tt dt):RTp Φ (zsu tt) (zgE dt):=fun h o H δ σ S R Q he hs q c w=>ha h o H δ σ S _ _ he hs q (fun o1 H1 S1 b e1 s1 d1=>c o1 H1 S1 _ e1 s1 d1) w
end
def IsDD (M:DM) (x:XV) (D:DD):Prop:=(∃ a,x = .o (.ref a)/\(a,D) ∈ M)\/∃ m,D = .k m/\x = .d (.dict (DD.pairs (.k m)))
theorem zoJ {M:DM} {h o:List Addr} {H:Hp} {x:XV} {D:DD} {v:V} (φ:PhM M h o H) (q:IsDD M x D) (hx:HasX h o H x v):∃ a,v = .ref a/\RAt (vx h o H) H a D:=by
 rcases q with ⟨a,rfl,m⟩ | ⟨m,rfl,rfl⟩
 ·obtain ⟨h0,rfl,rm⟩:=φ
  exact ⟨a,hx,(rm.ct a D m).rd⟩
 ·obtain ⟨a,ob,m',rfl,e,l⟩:=znT.mp (show Has _ _ v from hx)
  exact ⟨a,rfl,m',.inr ⟨ob,zbo _ _ e⟩,l⟩
def zsQ (n:Bool):R2:=fun y x H Q=>∃ a o,x = .ref a/\DGet H a y o/\Q (.bl (if n = true then !o.isSome else o.isSome)) H
theorem zqi {X:Cx} (hu:X.A.units + 64 < cLine):OpR X (compareOp .In) (zsQ false):=fun zo s σ H y x v u Q I ry rx ⟨a,o,e,g,q⟩=>by
 subst e
 obtain rfl:u = Value.ref a:=rx
 exact ztj (by omega) I g ry fun s3 I3=>⟨.bl o.isSome,H,I3,rfl,q⟩
def zr1 (M:DM) (n:Bool):D2:=fun y x S R=>asD y fun k=>∃ D o,IsDD M x D/\D.get k = some o/\R (.d (.bool (if n = true then !o.isSome else o.isSome))) S
theorem zoH {G:Hp} {o:Option PyData} {r:Option V} (q:RelD G o r):r.isSome = o.isSome:=by
 cases o with
 | none=>rw [show r = none from q]; rfl
 | some d=>obtain ⟨u,rfl,_⟩:=q; rfl
theorem zqg {M:DM} {n:Bool}:ROp (PhM M) (zsQ n) (zr1 M n):=fun h o H S y x v u R Q φ hs hy hx q c=>by
 obtain ⟨k,rfl,D,r,hD,e,q⟩:=zfH q
 obtain ⟨a,rfl,da⟩:=zoJ φ hD hx
 obtain ⟨r',g,rr⟩:=da.get zbo hy e
 refine ⟨a,r',rfl,g,?_⟩
 rw [zoH rr]
 exact c o H S _ _ Ex.refl hs (xB _) q
def zne (j:Nat) (dk dv:DM->DE):DSm:=fun En δ S M=>dv M δ S fun x S1=>asD x fun d=>zm j δ S1 fun y S2=>∃ a,y = .o (.ref a)/\dk M δ S2 fun z S3=>asD z fun k=>∃ D D',(a,D) ∈ M/\D.put k d = some D'/\D.len < 1000/\En.nx δ S3 (zoX M a D')
theorem zrm {E:XK} {EX:EXD} {j:Nat} {ty tv:TE} {dk dv:DM->DE} (hk:∀ M,REp (PhM M) ty (dk M)) (hv:∀ M,REp (PhM M) tv (dv M)):RSm E EX (zqG (zmw j) ty tv) (zne j dk dv):=fun h o0 H0 o H δ σ S M En D e0 fr he hs rm q c x =>
 hv M (h ++ ad M) o H δ σ S _ _ he hs q (fun o1 H1 S1 y v e1 s1 x1 d1=>by
  obtain ⟨d,rfl,y1,ey,a,rfl,d2⟩:=zfH d1
  have he1:=he.mono e1
  obtain ⟨v1,ev,hv1⟩:=he1.get j _ ey
  have ev1:v1 = .ref a:=hv1
  subst ev1
  refine ⟨_,ev,hk M (h ++ ad M) o1 H1 δ σ S1 _ _ he1 s1 d2 (fun o2 H2 S2 z u e2 s2 z2 d3=>?_) ⟨h,rfl,rm.mono e1⟩⟩
  obtain ⟨k,rfl,D1,D2,mD,eD,hl,n⟩:=zfH d3
  have e12:=e1.trans e2
  have rm2:=rm.mono e12
  have ma:a ∈ ad M:=List.mem_map.mpr ⟨_,mD,rfl⟩
  obtain ⟨w,pt,fin⟩:=(rm2.ct a D1 mD).put zbo z2 (x1.mono e2) eD hl
  have mh:a ∈ h ++ ad M:=List.mem_append_right _ ma
  refine ⟨a,_,rfl,pt,c.nx o2 _ δ S2 (zoX M a D2) σ ⟨(e0.trans e12).pre,fun b w' nb zb=>?_⟩ zgp ?_ ?_ (rm2.put mD fin) n⟩
  ·obtain ⟨z1,z3⟩:=(e0.trans e12).kp b w' nb zb
   exact ⟨z1,by rw [zae (fun z=>by rw [z,fr a ma] at zb; cases zb)]; exact z3⟩
  ·rw [zgp]
   exact (he1.mono e2).view (zgk mh)
  ·rw [zgp]
   exact s2.hidden mh) ⟨h,rfl,rm⟩
theorem zoS {t t':TS} {d:DS} (h:RS t d) (e:t' = t:=by rfl):RS t' d:=e ▸ h
end
end L2
namespace L2
open PySem PySem.Spec PySem.Calls PyProof.Rows
def DD.itemsD (m:List (Key × PyData)):List PyData:=m.map fun p=>.tuple [kD p.1,p.2]
def zma (e:DE):DI:=fun δ S R=>e δ S fun x S1=>∃ m,x = .d (.dict (DD.pairs (.k m)))/\R (DD.itemsD m) S1
end L2
namespace L2
open PySem PySem.Spec PyProof.Rows
section
section
variable {E:XK} {EX:EXD} {a b c d e f u:TS} {dt du:DS} {i:Nat}
theorem zpg (h:RS (zf1 a (zf1 b c)) dt) (hu:RS u du):RS (zf1 a (zf1 b (zf1 c u))) (zac dt du):=zoS (zu h hu)
end
end
end L2
namespace HT
open PySem PyProof.Rows
end HT
namespace L2
open PySem PySem.Spec PyProof.Rows
end L2
namespace L2
open PySem PySem.Spec PySem.Calls PyProof.Rows
end L2
namespace HT
open PySem PyProof.Rows
end HT
namespace L2
open PySem PySem.Spec PySem.Calls PyProof.Rows
end L2
namespace HT
open PySem PyProof.Rows
end HT
namespace L2
open PySem PySem.Spec PySem.Calls PyProof.Rows
end L2
namespace L2
open PySem PySem.Spec PyProof.Rows
end L2
namespace L2
open PySem PyProof.Rows
section
variable {prog:Program} {w:World} {A:Around} {E:Value->Shared->Prop} {s:Shared} {kd:SortKind} {D:Keyed->Prop} {lt:Keyed->Keyed->Bool}
def flt (lt:Keyed->Keyed->Bool):Keyed->Keyed->Bool:=fun x y=>lt y x
def G (xs:Array Keyed) (i:Nat):Keyed:=(xs[i]?).getD (.none,.none)
structure Ts (kd:SortKind) (D:Keyed->Prop) (a₀:Array Keyed) (st:SortSt):Prop where
 kd:kindOf st = kd
 fl:failedOf st = none
 pm:(arrOf st).Perm a₀
 d:∀ x ∈ a₀.toList,D x
end
end L2
namespace L2
open PySem PySem.Spec PySem.Calls PyProof.Rows PySem.W
section
variable {X:Cx} {zo:List (Addr × Obj)} {σ:St} {H H':Hp} {s:Shared} {h':Heap}
theorem Inv.laidAll {t':Nat} (I:Inv X zo σ H s) (k:∀ b u,s.heap.get? b = some u->h'.get? b = some u) (gr:Same H H') (new:∀ b u,H' b = some u->H b = some u\/(s.heap.objs.size <= b/\ObjOk X.prog X.w H' h' b u)):Inv X zo σ H' { s with heap:=h',toks:=t' }:=by
 refine I.un ⟨fun b u q _ _ _=>k b u q,fun b u q _ _ _=>⟨u.slots,k b u q⟩,fun b u q n _=>?_,fun b u q _=>⟨u,k b u q⟩,fun b xs q=>gr b _ q,fun b u xs q=>gr b _ q,fun b ps q=>⟨#[],by rw [gr b _ q]; simp⟩⟩ fun b u e=>?_
 ·cases e:H' b with
  | none=>rfl
  | some v =>
   rcases new b v e with z | ⟨z,_⟩
   ·rw [n] at z; cases z
   ·exact absurd (Nat.lt_of_lt_of_le (Heap.lt_size q) z) (Nat.lt_irrefl _)
 ·rcases new b u e with z | ⟨_,z⟩
  ·exact (I.hok b u z).stay (fun c v _ q=>k c v q) (fun c q=>gr c _ q) (fun c xs q=>gr c _ q) fun c o u q=>gr c _ q
  ·exact z
end
def znL:List XV->Sto->RX->Prop:=fun xs S R=>arg1 xs fun x=>∃ m:List (Key × PyData),x = .d (.dict (DD.pairs (.k m)))/\∃ ns:List Int,m.map (·.1) = ns.map Sum.inl/\ns.length <= 10000000/\∀ ms:List Int,ms.Perm ns->ms.Pairwise (· <= ·)->R (.d (.list (ms.map PyData.int))) S
end L2
namespace L2
open PySem PySem.Spec PyProof.Rows
section
section
open PySem.SeqAt
open PySem.AutoSeq1 (wpAny_loadPart')
open PySem.MeetsSeq PySem.MeetsSeq2 PySem.MeetsSeq3
theorem zkD {vs ws:List Value} {ns ms:List Int} {a b:Nat} (hz:[] = vs.zip ws) (hv:IntsAre vs ns) (hw:IntsAre ws ms) (hl:ns.length + b = ms.length + a):(!HT.lexLt ns ms) = decide (b <= a):=by
 cases hv with
 | nil=>cases hw with
  | nil=>simp only [List.length_nil] at hl; rw [HT.lexLt_nil_nil]; exact (decide_eq_true (by omega)).symm
  | cons c u _=>simp only [List.length_nil,List.length_cons] at hl; rw [HT.lexLt_nil_cons]; exact (decide_eq_false (by omega)).symm
 | cons x t _=>cases hw with
  | nil=>simp only [List.length_nil,List.length_cons] at hl; rw [HT.lexLt_cons_nil]; exact (decide_eq_true (by omega)).symm
  | cons c u _=>rw [List.zip_cons_cons] at hz; cases hz
theorem zmQ (A:Around) (s:Shared) (a:Int) (t:Tok) (c:Int) (u:Tok) (prog:Program) (w:World) (E:Value->Shared->Prop) (Q:Value->Shared->Prop) (h:Q (.bool (decide (c <= a))) s) :
  wpAny (model prog w) A (richCompare .GtE (.int a t) (.int c u)) Q E s :=
 (ge_int h:wpAny (model prog w) A (compareOp .GtE (.int a t) (.int c u)) Q E s)
theorem zhZ (l b:Addr) (xs ys:Array Value) (n n2:Nat) (dd dd2:Option Addr) (sl sl2:Array (Option Value)) (ns ms:List Int) (hi:IntsAre xs.toList ns) (hj:IntsAre ys.toList ms) :
  Meets (Builtin.«tuple.__ge__» ⟨[.ref l,.ref b],[]⟩)
   (fun _ R s=>s.heap.get? l = some { cls:=.type "tuple",dict:=dd,data:=.seq xs n,slots:=sl }/\s.heap.get? b = some { cls:=.type "tuple",dict:=dd2,data:=.seq ys n2,slots:=sl2 }/\R (.ok (.ret (.bool (!HT.lexLt ns ms)))) s) :=
 .of_wp fun prog w A R s h=>by
  obtain ⟨hp,g,d,tk,os⟩:=s
  obtain ⟨hl,hb,h⟩:=h
  have f2:=AutoSeq1.sub_tuple_tuple
  have z1:xs.size = ns.length:=by rw [<- hi.length]; simp
  have z2:ys.size = ms.length:=by rw [<- hj.length]; simp
  wp_walk using wpAny_loadPart' hl,wpAny_loadPart' hb,wpAny_forIn_list _ (fun rest c s'=>c.1 = none/\s' = ⟨hp,g,d,tk,os⟩/\∃ (vs ws:List Value) (ns' ms':List Int),rest = vs.zip ws /\
   IntsAre vs ns'/\IntsAre ws ms'/\ns'.length + ys.size = ms'.length + xs.size/\R (.ok (.ret (.bool (!HT.lexLt ns' ms')))) ⟨hp,g,d,tk,os⟩) _
  case turn =>
   rintro ⟨y,x⟩ rest c s' ⟨hc,rfl,vs,ws,ns',ms',hz,hv,hw,hl2,hR⟩
   cases hv with
   | nil=>rw [List.zip_nil_left] at hz; cases hz
   | cons a t hv =>
    cases hw with
    | nil=>rw [List.zip_nil_right] at hz; cases hz
    | cons c' u hw =>
     rw [List.zip_cons_cons] at hz
     obtain ⟨hyx,hrest⟩:=List.cons.inj hz
     obtain ⟨rfl,rfl⟩:=Prod.mk.inj hyx
     rw [HT.lexLt_cons] at hR
     simp only [List.length_cons] at hl2
     obtain ⟨e,he,hiff⟩:=HT.eqAt_int A.in1 ⟨hp,g,d,tk,os⟩ a t c' u
     refine wpAny_bind (he prog w _ _ ?_)
     cases e with
     | true =>
      rw [if_pos (hiff.mp rfl)] at hR
      wp_walk
      exact ⟨rfl,rfl,_,_,_,_,hrest,hv,hw,by omega,hR⟩
     | false =>
      have ne:a ≠ c':=fun q=>absurd (hiff.mpr q) Bool.false_ne_true
      rw [if_neg ne,show (!decide (a < c')) = decide (c' <= a) by rw [<- decide_not,decide_eq_decide]; omega] at hR
      have hri:=zmQ A.in1 ⟨hp,g,d,tk,os⟩ a t c' u prog w
      wp_walk using hri
      exact ⟨_,rfl,by simpa using hR⟩
  case fin =>
   rintro ⟨b1,b2⟩ s' ⟨hc,rfl,vs,ws,ns',ms',hz,hv,hw,hl2,hR⟩
   simp only at hc
   subst hc
   rw [zkD hz hv hw hl2] at hR
   wp_walk
   exact ⟨_,rfl,by simpa [Builtin.Tuple.tupleCompareSizes] using hR⟩
  case h=>exact ⟨rfl,rfl,xs.toList,ys.toList,ns,ms,rfl,hi,hj,by omega,h⟩
end
theorem zkN {prog:Program} {w:World} {A:Around} {E:Value->Shared->Prop} {s:Shared} {l b:Addr} {xs ys:Array Value} {ns ms:List Int} {Q:Value->Shared->Prop} (hl:IsTup s.heap l xs) (hb:IsTup s.heap b ys) (hi:IntsAre xs.toList ns) (hj:IntsAre ys.toList ms)
  (hu:A.units < cLine) (h:Q (.bool (!HT.lexLt ns ms)) s):wpAny (model prog w) A (compareOp .GtE (.ref l) (.ref b)) Q E s:=by
 obtain ⟨⟨cls,dd,data,sl⟩,ho,hc,n,hd⟩:=id hl
 obtain ⟨⟨cls2,dd2,data2,sl2⟩,ho2,hc2,n2,hd2⟩:=id hb
 simp only at hc hd hc2 hd2
 subst hc hd hc2 hd2
 exact richCompare_meets_room (op:=.GtE) ⟨_,ho,rfl⟩ ⟨_,ho2,rfl⟩ PySem.F.slot_tuple_ge PySem.F.entry_tuple_ge (PySem.F.args_tuple_ge_2 _ _) (zhZ l b xs ys n n2 dd dd2 sl sl2 ns ms hi hj)
  ⟨ho,ho2,show Value.bool (!HT.lexLt ns ms) ≠ Value.notImplemented/\Q (.bool (!HT.lexLt ns ms)) s from ⟨(fun x=>nomatch x),h⟩⟩ hu
def zsZ (K:W.Frag):R2:=fun x y H Q=>∃ a b ns ms,x = .ref a/\y = .ref b/\SqT K H a (ns.map V.int)/\SqT K H b (ms.map V.int)/\Q (.bl (!HT.lexLt ns ms)) H
theorem zrz {X:Cx} (hu:X.A.units + 64 < cLine):OpR X (compareOp .GtE) (zsZ X.K):=by
 intro zo s σ H x y v u Q I rx ry h
 obtain ⟨a,b,ns,ms,rfl,rfl,ha,hb,q⟩:=h
 cases rx
 cases ry
 obtain ⟨its,r1,p1,_⟩:=I.tuple ha
 obtain ⟨its2,r2,p2,_⟩:=I.tuple hb
 exact zkN p1 p2 (za8 r1) (za8 r2) (by omega) ⟨.bl (!HT.lexLt ns ms),H,I,rfl,q⟩
def zrU:D2:=fun x y S R=>asT x fun ds=>asT y fun es=>∃ ns,ds = ns.map PyData.int/\∃ ms,es = ms.map PyData.int/\R (.d (.bool (!HT.lexLt ns ms))) S
theorem zrw {K:W.Frag}:RO (zsZ K) zrU:=fun h o H S x y v u R Q hs hx hy q c=>by
 replace q:=zeL q
 obtain ⟨ds,rfl,q⟩:=q
 replace q:=zeL q
 obtain ⟨es,rfl,ns,rfl,ms,rfl,q⟩:=q
 obtain ⟨a,vs,rfl,ea,l1⟩:=zdA hx
 obtain ⟨b,ws,rfl,eb,l2⟩:=zdA hy
 have e1:=zbK l1
 have e2:=zbK l2
 subst e1 e2
 exact ⟨a,b,ns,ms,rfl,rfl,.of ea,.of eb,c o H S _ _ Ex.refl hs (xB _) q⟩
end
end L2
namespace L2
open PySem PySem.Spec PySem.Calls PyProof.Rows
end L2
namespace L2
open PySem PySem.Spec PySem.Calls PyProof.Rows
def zqb (j:Nat) (dk dv:DM->DE):DSm:=fun En δ S M=>zm j δ S fun y S1=>∃ a m,y = .o (.ref a)/\(a,DD.k m) ∈ M/\dk M δ S1 fun z S2=>dv M δ S2 fun x S3=>asD z fun k=>asD x fun d=>∃ kk,zk8 k = some kk/\m.length < 1000/\if (lkA m kk).isSome = true then En.nx δ S3 M else En.nx δ S3 (zoX M a (.k (ptA m kk d)))
def zol (k:Int) (e:DE):DE:=fun δ S R=>e δ S fun x S1=>asD x fun d=>R (.d (.dict [(.int k,d)])) S1
end L2
namespace L2
open PySem PySem.Spec PySem.Calls PyProof.Rows
end L2
namespace L2
open PySem PySem.Spec PyProof.Rows
end L2
namespace L2
theorem len0 {α:Type} {l:List α} (h:l.length = 0):l = []:=List.eq_nil_of_length_eq_zero h
theorem len1 {α:Type} {l:List α} (h:l.length = 1):∃ a0,l = [a0]:=by
 cases l with
 | nil=>cases h
 | cons x r =>
  obtain rfl:=len0 (Nat.succ.inj h)
  exact ⟨x,rfl⟩
theorem len2 {α:Type} {l:List α} (h:l.length = 2):∃ a0 a1,l = [a0,a1]:=by
 cases l with
 | nil=>cases h
 | cons x r =>
  obtain ⟨a1,rfl⟩:=len1 (Nat.succ.inj h)
  exact ⟨x,a1,rfl⟩
theorem len3 {α:Type} {l:List α} (h:l.length = 3):∃ a0 a1 a2,l = [a0,a1,a2]:=by
 cases l with
 | nil=>cases h
 | cons x r =>
  obtain ⟨a1,a2,rfl⟩:=len2 (Nat.succ.inj h)
  exact ⟨x,a1,a2,rfl⟩
theorem len4 {α:Type} {l:List α} (h:l.length = 4):∃ a0 a1 a2 a3,l = [a0,a1,a2,a3]:=by
 cases l with
 | nil=>cases h
 | cons x r =>
  obtain ⟨a1,a2,a3,rfl⟩:=len3 (Nat.succ.inj h)
  exact ⟨x,a1,a2,a3,rfl⟩
theorem len5 {α:Type} {l:List α} (h:l.length = 5):∃ a0 a1 a2 a3 a4,l = [a0,a1,a2,a3,a4]:=by
 cases l with
 | nil=>cases h
 | cons x r =>
  obtain ⟨a1,a2,a3,a4,rfl⟩:=len4 (Nat.succ.inj h)
  exact ⟨x,a1,a2,a3,a4,rfl⟩
theorem len6 {α:Type} {l:List α} (h:l.length = 6):∃ a0 a1 a2 a3 a4 a5,l = [a0,a1,a2,a3,a4,a5]:=by
 cases l with
 | nil=>cases h
 | cons x r =>
  obtain ⟨a1,a2,a3,a4,a5,rfl⟩:=len5 (Nat.succ.inj h)
  exact ⟨x,a1,a2,a3,a4,a5,rfl⟩
end L2
namespace L2
open PySem PySem.Spec PyProof.Rows
end L2
namespace L2
open PySem PySem.Spec PySem.Calls PyProof.Rows
open Sem (wp)
abbrev IsZipO (h:Heap) (z p r a:Addr) (f:Bool):Prop :=
 h.get? z = some { cls:=.type "zip",dict:=none,data:=.fields #[rawInt a,.bool f,.bool false,.ref p,.ref r],slots:=#[] }
section
variable {prog:Program} {w:World} {A:Around} {E:Value->Shared->Prop} {s:Shared}
theorem zl4 {t u:Bool} {z p r i j a b a0:Addr} {f:Bool} {oa:Obj} {k m:Nat} {xs ys:Array Value} {x y:Value} {Q:Value->Shared->Prop} (D:ZAp z p r i j a b) (hz:IsZipO s.heap z p r a0 f) (h0:s.heap.get? a0 = some oa) (n0:a0 ≠ z) (hp:IsPair s.heap p (.ref i) (.ref j))
  (hi:ItK t s.heap i a k) (hj:ItK u s.heap j b m) (ha:SqK t s.heap a xs) (hb:SqK u s.heap b ys) (hx:xs[k]? = some x) (hy:ys[m]? = some y)
  (hQ:∀ g,IsZipO g z p r a0 true->ItK t g i a (k + 1)->ItK u g j b (m + 1)->IsPair g s.heap.objs.size x y ->
   (∀ q o,q ≠ z->q ≠ i->q ≠ j->s.heap.get? q = some o->g.get? q = some o)->Q (.ref s.heap.objs.size) { s with heap:=g }) :
  wpAny (model prog w) A (Builtin.«zip.__next__» ⟨[.ref z],[]⟩) (fun fn s'=>∃ v,fn = .done (.ret v)/\Q v s') E s:=by
 obtain ⟨h0',gs,dr,tk,os⟩:=s
 show wpAny _ _ (field (.ref z) 2 >>= _) _ _ ⟨h0',gs,dr,tk,os⟩
 refine wpAny_bind (wpAny_field hz rfl (x:=.bool false) rfl ?_)
 show wpAny _ _ (field (.ref z) 3 >>= _) _ _ ⟨h0',gs,dr,tk,os⟩
 refine wpAny_bind (wpAny_field hz rfl (x:=.ref p) rfl (wpAny_bind (wpAny_seqItems hp rfl ?_)))
 show wpAny _ _ (Builtin.SmallTypes.ownedTupleIsFree (.ref z) >>= _) _ _ ⟨h0',gs,dr,tk,os⟩
 refine wpAny_bind ?_
 unfold Builtin.SmallTypes.ownedTupleIsFree
 refine wpAny_bind (wpAny_field hz rfl (x:=rawInt a0) rfl ?_)
 show wpAny _ _ (loadIfAlive ((a0:Int).toNat) >>= _) _ _ _
 rw [Int.toNat_natCast]
 refine wpAny_bind (PySem.W.kdx_alive h0 ?_)
 simp only [Option.isNone_some,Bool.false_eq_true,if_false]
 refine wpAny_bind (wpAny_field hz rfl (x:=.bool f) rfl ?_)
 have fin:∀ g1:Heap,IsZipO g1 z p r a0 true->Heap.SameBut z h0' g1->∀ {F:Value->Option PySem.Fin × Array Value->Sem (ForInStep (Option PySem.Fin × Array Value))} {G:Option PySem.Fin × Array Value->Sem PySem.Fin},
   (∀ (it:Value) (acc:Array Value) (R:ForInStep (Option PySem.Fin × Array Value)->Shared->Prop) (s1:Shared),wpAny (model prog w) A (Builtin.SmallTypes.nextOf it) (fun v s2=>R (.yield (none,acc.push v)) s2) E s1->wpAny (model prog w) A (F it (none,acc)) R E s1) ->
   (∀ acc,G (none,acc) = (newTuple acc.toList >>= fun v=>ret v)) ->
   wpAny (model prog w) A (forIn (#[.ref i,.ref j]:Array Value) (none,#[]) F >>= G) (fun fn s'=>∃ v,fn = .done (.ret v)/\Q v s') E ⟨g1,gs,dr,tk,os⟩:=fun g1 z1 b1 F G hF hG=>by
  refine wpAny_bind ?_
  rw [show (#[.ref i,.ref j]:Array Value) = [.ref i,.ref j].toArray from rfl,List.forIn_toArray]
  simp only [List.forIn_cons,List.forIn_nil]
  refine wpAny_bind (hF _ _ _ _ ?_)
  refine zkg (s:=⟨g1,gs,dr,tk,os⟩) (hi.at fun o e=>b1.extBut i o D.iz e) (ha.at fun o e=>b1.extBut a o D.az e) hx fun g2 i2 b2=>?_
  replace b2:Heap.SameBut i g1 g2:=b2
  refine wpAny_bind (hF _ _ _ _ ?_)
  have k2:∀ q o,q ≠ z->q ≠ i->h0'.get? q = some o->g2.get? q = some o:=fun q o n1 n2 e=>b2.extBut q o n2 (b1.extBut q o n1 e)
  refine zkg (s:=⟨g2,gs,dr,tk,os⟩) (hj.at fun o e=>k2 j o D.jz (Ne.symm D.ij) e) (hb.at fun o e=>k2 b o D.bz D.bi e) hy fun g3 j3 b3=>?_
  replace b3:Heap.SameBut j g2 g3:=b3
  refine wpAny_pure ?_
  rw [hG]
  refine wpAny_bind (wpAny_newTuple (wpAny_pure ⟨_,rfl,?_⟩) (by show 2 <= sizeLine; decide))
  have sz:g3.objs.size = h0'.objs.size:=by rw [b3.1,b2.1,b1.1]
  have k3:∀ q o,q ≠ z->q ≠ i->q ≠ j->h0'.get? q = some o->g3.get? q = some o:=fun q o n1 n2 n3 e=>b3.extBut q o n3 (k2 q o n1 n2 e)
  have z3:IsZipO g3 z p r a0 true:=b3.extBut z _ (Ne.symm D.jz) (b2.extBut z _ (Ne.symm D.iz) z1)
  have i3:ItK t g3 i a (k + 1):=ItK.at i2 fun o e=>b3.extBut i o D.ij e
  show Q (.ref g3.objs.size) _
  have nw:=Heap.get?_push_size g3 (o:={ cls:=.type "tuple",data:=.seq #[x,y] }) rfl
  rw [sz] at nw ⊢
  exact hQ (g3.push { cls:=.type "tuple",data:=.seq #[x,y] }) (Heap.get?_push_of_some _ z3) (i3.at fun o e=>Heap.get?_push_of_some _ e) (ItK.at j3 fun o e=>Heap.get?_push_of_some _ e) nw fun q o n1 n2 n3 e=>Heap.get?_push_of_some _ (k3 q o n1 n2 n3 e)
 have tail:∀ g1:Heap,IsZipO g1 z p r a0 true->Heap.SameBut z h0' g1->∀ {M:Sem PySem.Fin},(∃ F G,M = (forIn (#[.ref i,.ref j]:Array Value) (none,#[]) F >>= G) /\
   (∀ (it:Value) (acc:Array Value) (R:ForInStep (Option PySem.Fin × Array Value)->Shared->Prop) (s1:Shared),wpAny (model prog w) A (Builtin.SmallTypes.nextOf it) (fun v s2=>R (.yield (none,acc.push v)) s2) E s1->wpAny (model prog w) A (F it (none,acc)) R E s1) /\
   (∀ acc,G (none,acc) = (newTuple acc.toList >>= fun v=>ret v)))->wpAny (model prog w) A M (fun fn s'=>∃ v,fn = .done (.ret v)/\Q v s') E ⟨g1,gs,dr,tk,os⟩:=fun g1 z1 b1 M ⟨F,G,e,hF,hG⟩=>by
  rw [e]; exact fin g1 z1 b1 hF hG
 cases f with
 | true =>
  rw [if_neg (show ¬ ((Value.bool true != Value.bool true) = true) from Bool.false_ne_true)]
  refine wpAny_pure ?_
  simp only [Bool.false_eq_true,if_false]
  refine tail h0' hz (Heap.SameBut.refl _ _) ⟨_,_,rfl,fun it acc R s1 h=>?_,fun acc=>rfl⟩
  refine wpAny_bind (wpAny_holding ?_)
  show wpAny _ _ (Builtin.SmallTypes.nextOf it >>= _) _ _ _
  exact wpAny_bind (wpAny_mono h (fun v s2 q=>wpAny_pure (wpAny_pure q)) fun _ _ z=>z)
 | false =>
  rw [if_pos (show (Value.bool false != Value.bool true) = true from rfl)]
  refine wpAny_bind (wpAny_setField_rec hz (by simp) fun g1 z1 b1=>?_)
  refine wpAny_pure ?_
  simp only [Bool.false_eq_true,if_false]
  refine tail g1 z1 b1 ⟨_,_,rfl,fun it acc R s1 h=>?_,fun acc=>rfl⟩
  refine wpAny_bind (wpAny_holding ?_)
  show wpAny _ _ (Builtin.SmallTypes.nextOf it >>= _) _ _ _
  exact wpAny_bind (wpAny_mono h (fun v s2 q=>wpAny_pure (wpAny_pure q)) fun _ _ z=>z)
theorem zlI {t u:Bool} {z p r i j a b a0:Addr} {f:Bool} {oa:Obj} {k m:Nat} {xs ys:Array Value} {Q:PySem.Fin->Shared->Prop} (hh:A.handled = none) (D:ZAp z p r i j a b) (hz:IsZipO s.heap z p r a0 f) (h0:s.heap.get? a0 = some oa) (hp:IsPair s.heap p (.ref i) (.ref j))
  (hi:ItK t s.heap i a k) (hj:ItK u s.heap j b m) (ha:SqK t s.heap a xs) (hb:SqK u s.heap b ys) (hend:xs[k]? = none\/ys[m]? = none)
  (hE:∀ g e,(∀ q o,q ≠ z->q ≠ i->q ≠ j->s.heap.get? q = some o->g.get? q = some o)->(∃ o,g.get? e = some o/\o.cls = .type "StopIteration")->E (.ref e) { s with heap:=g }) :
  wpAny (model prog w) A (Builtin.«zip.__next__» ⟨[.ref z],[]⟩) Q E s:=by
 obtain ⟨h0',gs,dr,tk,os⟩:=s
 show wpAny _ _ (field (.ref z) 2 >>= _) _ _ ⟨h0',gs,dr,tk,os⟩
 refine wpAny_bind (wpAny_field hz rfl (x:=.bool false) rfl ?_)
 show wpAny _ _ (field (.ref z) 3 >>= _) _ _ ⟨h0',gs,dr,tk,os⟩
 refine wpAny_bind (wpAny_field hz rfl (x:=.ref p) rfl (wpAny_bind (wpAny_seqItems hp rfl ?_)))
 show wpAny _ _ (Builtin.SmallTypes.ownedTupleIsFree (.ref z) >>= _) _ _ ⟨h0',gs,dr,tk,os⟩
 refine wpAny_bind ?_
 unfold Builtin.SmallTypes.ownedTupleIsFree
 refine wpAny_bind (wpAny_field hz rfl (x:=rawInt a0) rfl ?_)
 show wpAny _ _ (loadIfAlive ((a0:Int).toNat) >>= _) _ _ _
 rw [Int.toNat_natCast]
 refine wpAny_bind (PySem.W.kdx_alive h0 ?_)
 simp only [Option.isNone_some,Bool.false_eq_true,if_false]
 refine wpAny_bind (wpAny_field hz rfl (x:=.bool f) rfl ?_)
 have tail:∀ g1:Heap,IsZipO g1 z p r a0 true->Heap.SameBut z h0' g1->∀ {M:Sem PySem.Fin},(∃ (F:Value->Option PySem.Fin × Array Value->Sem (ForInStep (Option PySem.Fin × Array Value))) (G:Option PySem.Fin × Array Value->Sem PySem.Fin),M = (forIn (#[.ref i,.ref j]:Array Value) (none,#[]) F >>= G) /\
   (∀ (it:Value) (acc:Array Value) (R:ForInStep (Option PySem.Fin × Array Value)->Shared->Prop) (s1:Shared),wpAny (model prog w) A (Builtin.SmallTypes.nextOf it) (fun v s2=>R (.yield (none,acc.push v)) s2) E s1->wpAny (model prog w) A (F it (none,acc)) R E s1))->wpAny (model prog w) A M Q E ⟨g1,gs,dr,tk,os⟩:=fun g1 z1 b1 M ⟨F,G,e,hF⟩=>by
  rw [e]
  refine wpAny_bind ?_
  rw [show (#[.ref i,.ref j]:Array Value) = [.ref i,.ref j].toArray from rfl,List.forIn_toArray]
  simp only [List.forIn_cons,List.forIn_nil]
  refine wpAny_bind (hF _ _ _ _ ?_)
  cases hx:xs[k]? with
  | none =>
   refine zfl (s:=⟨g1,gs,dr,tk,os⟩) hh (hi.at fun o e=>b1.extBut i o D.iz e) (ha.at fun o e=>b1.extBut a o D.az e) hx fun g2 e b2 he=>?_
   exact hE g2 e (fun q o n1 n2 _ e=>b2 q o n2 (b1.extBut q o n1 e)) he
  | some x =>
   have hy:ys[m]? = none:=hend.elim (fun w=>by rw [hx] at w; cases w) id
   refine zkg (s:=⟨g1,gs,dr,tk,os⟩) (hi.at fun o e=>b1.extBut i o D.iz e) (ha.at fun o e=>b1.extBut a o D.az e) hx fun g2 i2 b2=>?_
   replace b2:Heap.SameBut i g1 g2:=b2
   refine wpAny_bind (hF _ _ _ _ ?_)
   have k2:∀ q o,q ≠ z->q ≠ i->h0'.get? q = some o->g2.get? q = some o:=fun q o n1 n2 e=>b2.extBut q o n2 (b1.extBut q o n1 e)
   refine zfl (s:=⟨g2,gs,dr,tk,os⟩) hh (hj.at fun o e=>k2 j o D.jz (Ne.symm D.ij) e) (hb.at fun o e=>k2 b o D.bz D.bi e) hy fun g3 e b3 he=>?_
   exact hE g3 e (fun q o n1 n2 n3 e=>b3 q o n3 (k2 q o n1 n2 e)) he
 cases f with
 | true =>
  rw [if_neg (show ¬ ((Value.bool true != Value.bool true) = true) from Bool.false_ne_true)]
  refine wpAny_pure ?_
  simp only [Bool.false_eq_true,if_false]
  refine tail h0' hz (Heap.SameBut.refl _ _) ⟨_,_,rfl,fun it acc R s1 h=>?_⟩
  refine wpAny_bind (wpAny_holding ?_)
  show wpAny _ _ (Builtin.SmallTypes.nextOf it >>= _) _ _ _
  exact wpAny_bind (wpAny_mono h (fun v s2 q=>wpAny_pure (wpAny_pure q)) fun _ _ z=>z)
 | false =>
  rw [if_pos (show (Value.bool false != Value.bool true) = true from rfl)]
  refine wpAny_bind (wpAny_setField_rec hz (by simp) fun g1 z1 b1=>?_)
  refine wpAny_pure ?_
  simp only [Bool.false_eq_true,if_false]
  refine tail g1 z1 b1 ⟨_,_,rfl,fun it acc R s1 h=>?_⟩
  refine wpAny_bind (wpAny_holding ?_)
  show wpAny _ _ (Builtin.SmallTypes.nextOf it >>= _) _ _ _
  exact wpAny_bind (wpAny_mono h (fun v s2 q=>wpAny_pure (wpAny_pure q)) fun _ _ z=>z)
structure ZS (h:Heap) (t u:Bool) (z p r i j a b:Addr) (xs ys:Array Value) (k:Nat):Prop where
 z:IsZip h z p r .none\/∃ a0 f oa,IsZipO h z p r a0 f/\h.get? a0 = some oa/\a0 ≠ z/\a0 ≠ r/\a0 ≠ i/\a0 ≠ j
 p:IsPair h p (.ref i) (.ref j)
 r:∃ c d,IsPair h r c d
 i:ItK t h i a k
 j:ItK u h j b k
 a:SqK t h a xs
 b:SqK u h b ys
theorem ZS.ty {t u:Bool} {z p r i j a b:Addr} {xs ys:Array Value} {k:Nat} (Z:ZS s.heap t u z p r i j a b xs ys k):s.TypeIs (.ref z) "zip":=by
 rcases Z.z with q | ⟨_,_,_,q,_⟩
 ·exact ⟨_,q,rfl⟩
 ·exact ⟨_,q,rfl⟩
theorem ZS.keep {h h':Heap} {t u:Bool} {z p r i j a b:Addr} {xs ys:Array Value} {k:Nat} (Z:ZS h t u z p r i j a b xs ys k) (S:Addr) (hS:S ≠ z/\S ≠ p/\S ≠ r/\S ≠ i/\S ≠ j/\S ≠ a/\S ≠ b) (f:∀ q o,q ≠ S->h.get? q = some o->h'.get? q = some o) (f0:∀ o,h.get? S = some o->∃ o',h'.get? S = some o'):ZS h' t u z p r i j a b xs ys k:=by
 obtain ⟨s1,s2,s3,s4,s5,s6,s7⟩:=hS
 refine ⟨?_,f _ _ s2.symm Z.p,let ⟨c,d,q⟩:=Z.r; ⟨c,d,f _ _ s3.symm q⟩,Z.i.at fun o e=>f _ _ s4.symm e,Z.j.at fun o e=>f _ _ s5.symm e,Z.a.at fun o e=>f _ _ s6.symm e,Z.b.at fun o e=>f _ _ s7.symm e⟩
 rcases Z.z with q | ⟨a0,g,oa,q,e,n⟩
 ·exact .inl (f _ _ s1.symm q)
 ·by_cases w:a0 = S
  ·obtain ⟨o',e'⟩:=f0 oa (by rw [<- w]; exact e)
   exact .inr ⟨a0,g,o',f _ _ s1.symm q,by rw [w]; exact e',n⟩
  ·exact .inr ⟨a0,g,oa,f _ _ s1.symm q,f _ _ w e,n⟩
theorem zpy {t u:Bool} {z p r i j a b:Addr} {k:Nat} {xs ys:Array Value} {x y:Value} {Q:Option Value->Shared->Prop} (D:ZAp z p r i j a b) (Z:ZS s.heap t u z p r i j a b xs ys k) (hx:xs[k]? = some x) (hy:ys[k]? = some y)
  (hQ:∀ g,ZS g t u z p r i j a b xs ys (k + 1)->IsPair g s.heap.objs.size x y->(∀ q o,q ≠ z->q ≠ r->q ≠ i->q ≠ j->s.heap.get? q = some o->g.get? q = some o)->Q (some (.ref s.heap.objs.size)) { s with heap:=g }) :
  wpAny (model prog w) A (pyNext (.ref z)) Q E s:=by
 obtain ⟨c,d,hr⟩:=Z.r
 obtain ⟨oi,ei,_⟩:=Z.i.here
 obtain ⟨oj,ej,_⟩:=Z.j.here
 obtain ⟨oz,ez,_⟩:=Z.ty
 have lt:∀ {q o},s.heap.get? q = some o->s.heap.objs.size ≠ q:=fun e=>Nat.ne_of_gt (Heap.lt_size e)
 have go:∀ g,(∃ a0 f oa,IsZipO g z p r a0 f/\g.get? a0 = some oa/\a0 ≠ z/\a0 ≠ r/\a0 ≠ i/\a0 ≠ j)->(∃ c d,IsPair g r c d)->ItK t g i a (k + 1)->ItK u g j b (k + 1)->IsPair g s.heap.objs.size x y->(∀ q o,q ≠ z->q ≠ r->q ≠ i->q ≠ j->s.heap.get? q = some o->g.get? q = some o)->Q (some (.ref s.heap.objs.size)) { s with heap:=g }:=fun g q1 q2 q3 q4 q5 kk =>
  hQ g ⟨.inr q1,kk p _ D.pz D.pr D.pi D.pj Z.p,q2,q3,q4,Z.a.at fun o e=>kk a o D.az D.ar D.ai D.aj e,Z.b.at fun o e=>kk b o D.bz D.br D.bi D.bj e⟩ q5 kk
 unfold pyNext
 refine wpAny_bind (wpAny_attempt (wpAny_callSpecial?_slot (name:=Str.ofString "__next__") Z.ty F.slot_zip_next (wpAny_call_entry F.slot_zip_next Z.ty F.entry_zip_next ?_ (F.args_zip_next_1 _))))
 rcases Z.z with q | ⟨a0,f,oa,q,e,n1,n2,n3,n4⟩
 ·refine zh8 D q Z.p hr Z.i Z.j Z.a Z.b hx hy fun g a1 a2 a3 a4 a5 kk=>wpAny_pure ?_
  exact go g ⟨_,false,_,a1,a5,lt q,lt hr,lt ei,lt ej⟩ ⟨_,_,a2⟩ a3 a4 a5 kk
 ·refine zl4 D q e n1 Z.p Z.i Z.j Z.a Z.b hx hy fun g a1 a3 a4 a5 kk=>wpAny_pure ?_
  exact go g ⟨a0,true,oa,a1,kk a0 oa n1 n3 n4 e,n1,n2,n3,n4⟩ ⟨c,d,kk r _ D.rz D.ri D.rj hr⟩ a3 a4 a5 fun q o w1 _ w3 w4 e=>kk q o w1 w3 w4 e
theorem zpt {t u:Bool} {z p r i j a b:Addr} {k:Nat} {xs ys:Array Value} {Q:Option Value->Shared->Prop} (hh:A.handled = none) (D:ZAp z p r i j a b) (Z:ZS s.heap t u z p r i j a b xs ys k) (hend:xs[k]? = none\/ys[k]? = none)
  (hQ:∀ g,(∀ q o,q ≠ z->q ≠ r->q ≠ i->q ≠ j->s.heap.get? q = some o->g.get? q = some o)->Q none { s with heap:=g }) :
  wpAny (model prog w) A (pyNext (.ref z)) Q E s:=by
 obtain ⟨c,d,hr⟩:=Z.r
 unfold pyNext
 refine wpAny_bind (wpAny_attempt (wpAny_callSpecial?_slot (name:=Str.ofString "__next__") Z.ty F.slot_zip_next (wpAny_call_entry F.slot_zip_next Z.ty F.entry_zip_next ?_ (F.args_zip_next_1 _))))
 rcases Z.z with q | ⟨a0,f,oa,q,e,n1,n2,n3,n4⟩
 ·refine zis hh D q Z.p hr Z.i Z.j Z.a Z.b hend fun g e kk he=>?_
  obtain ⟨o,ho,hc'⟩:=he
  exact wpAny_bind (wpAny_isInstance (T:="StopIteration") (b:=true) ⟨o,ho,hc'⟩ isSubtype_stop (wpAny_pure (hQ g kk)))
 ·refine zlI hh D q e Z.p Z.i Z.j Z.a Z.b hend fun g e kk he=>?_
  obtain ⟨o,ho,hc'⟩:=he
  exact wpAny_bind (wpAny_isInstance (T:="StopIteration") (b:=true) ⟨o,ho,hc'⟩ isSubtype_stop (wpAny_pure (hQ g fun q o w1 _ w3 w4 e=>kk q o w1 w3 w4 e)))
def ZPs (h:Heap) (xs ys:Array Value) (Ts:List Addr) (N0:Nat):Prop:=∀ (l:Nat) (T:Addr),Ts[l]? = some T->N0 <= T/\∃ x y,xs[l]? = some x/\ys[l]? = some y/\IsPair h T x y
theorem zpf {R:Result->Shared->Prop} {t u:Bool} {z p r i j a b S:Addr} {xs ys:Array Value} {N0 n:Nat} (hh:A.handled = none) (D:ZAp z p r i j a b) (hS:S ≠ z/\S ≠ p/\S ≠ r/\S ≠ i/\S ≠ j/\S ≠ a/\S ≠ b) (hn:n = min xs.size ys.size) (hz:n <= sizeLine)
  (l1:z < N0) (l2:r < N0) (l3:i < N0) (l4:j < N0) (l5:S < N0) (res:Value) :
  ∀ (k m:Nat) (s:Shared) (Ts:List Addr) (c:Nat),n - m = k->m <= n->N0 <= s.heap.objs.size->ZS s.heap t u z p r i j a b xs ys m->s.heap.get? S = some { cls:=.type "list",dict:=none,data:=.seq (Ts.map Value.ref).toArray c,slots:=#[] }->Ts.length = m->ZPs s.heap xs ys Ts N0->Ts.Nodup ->
  (∀ h' Ts' c',(∀ q o,q ≠ z->q ≠ r->q ≠ i->q ≠ j->q ≠ S->s.heap.get? q = some o->h'.get? q = some o)->h'.get? S = some { cls:=.type "list",dict:=none,data:=.seq (Ts'.map Value.ref).toArray c',slots:=#[] }->Ts'.length = n->ZPs h' xs ys Ts' N0->Ts'.Nodup->R (.ok (.ret res)) { s with heap:=h' }) ->
  codeAny (model prog w) A (.builtin "list.extend.loop" ⟨[.ref S,.ref z,res],[]⟩) R s:=by
 obtain ⟨s1,s2,s3,s4,s5,s6,s7⟩:=id hS
 have ap:∀ {T:Addr},N0 <= T->T ≠ z/\T ≠ r/\T ≠ i/\T ≠ j/\T ≠ S:=fun {T} h=>⟨Nat.ne_of_gt (Nat.lt_of_lt_of_le l1 h),Nat.ne_of_gt (Nat.lt_of_lt_of_le l2 h),Nat.ne_of_gt (Nat.lt_of_lt_of_le l3 h),Nat.ne_of_gt (Nat.lt_of_lt_of_le l4 h),Nat.ne_of_gt (Nat.lt_of_lt_of_le l5 h)⟩
 have zps:∀ {h h':Heap} {Ts:List Addr},ZPs h xs ys Ts N0->(∀ q o,q ≠ z->q ≠ r->q ≠ i->q ≠ j->q ≠ S->h.get? q = some o->h'.get? q = some o)->ZPs h' xs ys Ts N0:=fun {h h' Ts} Z f l T e=>by
  obtain ⟨g,x,y,e1,e2,e3⟩:=Z l T e
  obtain ⟨w1,w2,w3,w4,w5⟩:=ap g
  exact ⟨g,x,y,e1,e2,f _ _ w1 w2 w3 w4 w5 e3⟩
 intro k
 induction k with
 | zero =>
  intro m s Ts c hk hm hN Z hL hl hP hD hR
  have e:m = n:=by omega
  refine codeAny_builtin F.entry_extend_loop ?_
  rw [Around.under_plainId F.plain_extend_loop _]
  show wpAny _ A.in1 (pyNext (.ref z) >>= _) _ _ s
  refine wpAny_bind (zpt (A:=A.in1) hh D Z ?_ fun g kk=>?_)
  ·rcases Nat.le_total xs.size ys.size with w | w
   ·exact .inl (by simp; omega)
   ·exact .inr (by simp; omega)
  ·exact wpAny_pure (hR g Ts c (fun q o w1 w2 w3 w4 _ e=>kk q o w1 w2 w3 w4 e) (kk S _ s1 s3 s4 s5 hL) (by omega) (zps hP fun q o w1 w2 w3 w4 _ e=>kk q o w1 w2 w3 w4 e) hD)
 | succ k ih =>
  intro m s Ts c hk hm hN Z hL hl hP hD hR
  have hx:xs[m]? = some xs[m]:=Array.getElem?_eq_getElem (by omega)
  have hy:ys[m]? = some ys[m]:=Array.getElem?_eq_getElem (by omega)
  refine codeAny_builtin F.entry_extend_loop ?_
  rw [Around.under_plainId F.plain_extend_loop _]
  show wpAny _ A.in1 (pyNext (.ref z) >>= _) _ _ s
  refine wpAny_bind (zpy (A:=A.in1) D Z hx hy fun g Z' pT kk=>?_)
  have hL':=kk S _ s1 s3 s4 s5 hL
  show wpAny _ A.in1 (updateSeq S (·.push (.ref s.heap.objs.size)) >>= _) _ _ _
  refine wpAny_bind ?_
  have oth:∀ q o,q ≠ S->g.get? q = some o->(g.update S (Obj.mapSeq (·.push (.ref s.heap.objs.size)))).get? q = some o:=fun q o w e=>(Heap.get?_update_other _ _ (Ne.symm w)).trans e
  have up:=Heap.get?_update_self (Obj.mapSeq (·.push (Value.ref s.heap.objs.size))) hL' rfl
  have ea:(Ts.map Value.ref).toArray.push (Value.ref s.heap.objs.size) = ((Ts ++ [s.heap.objs.size]).map Value.ref).toArray:=by simp
  obtain ⟨c2,hL2⟩:∃ c2,(g.update S (Obj.mapSeq (·.push (.ref s.heap.objs.size)))).get? S = some { cls:=.type "list",dict:=none,data:=.seq ((Ts ++ [s.heap.objs.size]).map Value.ref).toArray c2,slots:=#[] }:=by
   rw [<- ea]
   exact ⟨_,up⟩
  have gsz:s.heap.objs.size <= g.objs.size:=Nat.le_of_lt (Heap.lt_size pT)
  refine wpAny_updateSeq hL' rfl (wpAny_pure ⟨plainId_quiet F.plain_extend_loop _,ih (m + 1) { s with heap:=g.update S (Obj.mapSeq (·.push (.ref s.heap.objs.size))) } (Ts ++ [s.heap.objs.size]) c2 (by omega) (by omega) ?_ (Z'.keep S hS (fun q o w e=>oth q o w e) fun o e=>⟨_,up⟩) hL2 (by simp [hl]) (fun l T e=>?_) (zc8 hD fun hm=>?_) fun h' Ts' c' f1 f2 f3 f4 f5=>?_⟩)
   (by simp [hl]; omega) (by simp [hl]; omega)
  ·show N0 <= (g.update S _).objs.size
   rw [Heap.size_update]
   omega
  ·rcases Nat.lt_or_ge l Ts.length with w | w
   ·rw [List.getElem?_append_left w] at e
    obtain ⟨g1,x,y,e1,e2,e3⟩:=hP l T e
    obtain ⟨w1,w2,w3,w4,w5⟩:=ap g1
    exact ⟨g1,x,y,e1,e2,oth _ _ w5 (kk _ _ w1 w2 w3 w4 e3)⟩
   ·rw [List.getElem?_append_right w] at e
    have w2:l - Ts.length = 0:=by
     rcases Nat.eq_zero_or_pos (l - Ts.length) with w | w
     ·exact w
     ·rw [List.getElem?_eq_none (by simp; omega)] at e; cases e
    have el:l = m:=by omega
    rw [w2] at e
    have eT:s.heap.objs.size = T:=by simpa using e
    subst eT
    subst el
    exact ⟨hN,_,_,hx,hy,oth _ _ (ap hN).2.2.2.2 pT⟩
  ·obtain ⟨l,e⟩:=List.getElem?_of_mem hm
   obtain ⟨_,_,_,_,_,e3⟩:=hP l _ e
   exact absurd (Heap.lt_size e3) (Nat.lt_irrefl _)
  ·exact hR h' Ts' c' (fun q o w1 w2 w3 w4 w5 e=>f1 q o w1 w2 w3 w4 w5 (oth q o w5 (kk q o w1 w2 w3 w4 e))) f2 f3 f4 f5
theorem zno {z:Addr} {Q:Bool->Shared->Prop} (hT:s.TypeIs (.ref z) "zip") (h:Q true s):wpAny (model prog w) A (Builtin.List.listLengthHint (.ref z)) Q E s:=by
 unfold Builtin.List.listLengthHint
 refine wpAny_bind (wpAny_specialOf hT (r:=none) (by rw [typeLookup_type,builtinLookup_eq_fast]; kernel_rfl) ?_)
 refine wpAny_ite_split (fun hab=>absurd hab (by decide)) (fun _=>?_)
 refine wpAny_ite_split (fun hab=>absurd hab (by decide)) (fun _=>?_)
 refine wpAny_bind (wpAny_specialOf hT (r:=none) (by rw [typeLookup_type,builtinLookup_eq_fast]; kernel_rfl) ?_)
 exact wpAny_pure h
theorem zhB {t u:Bool} {z p r i j a b:Addr} {xs ys:Array Value} {n:Nat} {Q:Value->Shared->Prop} (hh:A.handled = none) (D:ZAp z p r i j a b) (hn:n = min xs.size ys.size) (hz:n <= sizeLine) (Z:ZS s.heap t u z p r i j a b xs ys 0)
  (hQ:∀ h' Ts c',(∀ q o,q ≠ z->q ≠ r->q ≠ i->q ≠ j->s.heap.get? q = some o->h'.get? q = some o)->h'.get? s.heap.objs.size = some { cls:=.type "list",dict:=none,data:=.seq (Ts.map Value.ref).toArray c',slots:=#[] }->Ts.length = n->ZPs h' xs ys Ts (s.heap.objs.size + 1)->Ts.Nodup->Q (.ref s.heap.objs.size) { s with heap:=h' }) :
  wpAny (model prog w) A (call (.type "list") [.ref z]) Q E s:=by
 refine callType_codes (Q₁:=fun obj s₁=>obj = .ref s.heap.objs.size/\s₁ = { s with heap:=s.heap.push { cls:=.type "list",data:=.seq #[] } }) PySem.F.called_list (PySem.F.typeCall_list_1 _) PySem.F.entry_list_init
  (code_list_new _ ⟨rfl,rfl⟩) fun obj s₁ h₁=>?_
 obtain ⟨rfl,rfl⟩:=h₁
 have hS:(s.heap.push { cls:=.type "list",data:=.seq #[] }).get? s.heap.objs.size = some { cls:=.type "list",data:=.seq #[] }:=Heap.get?_push_size _ rfl
 obtain ⟨oi,ei,_⟩:=Z.i.here
 obtain ⟨oj,ej,_⟩:=Z.j.here
 obtain ⟨oz,ez,_⟩:=Z.ty
 obtain ⟨oa,ea⟩:=Z.a.here
 obtain ⟨ob,eb⟩:=Z.b.here
 obtain ⟨cr,dr,er⟩:=Z.r
 have lt:∀ {q o},s.heap.get? q = some o->s.heap.objs.size ≠ q:=fun e=>Nat.ne_of_gt (Heap.lt_size e)
 have hSs:s.heap.objs.size ≠ z/\s.heap.objs.size ≠ p/\s.heap.objs.size ≠ r/\s.heap.objs.size ≠ i/\s.heap.objs.size ≠ j/\s.heap.objs.size ≠ a/\s.heap.objs.size ≠ b:=⟨lt ez,lt Z.p,lt er,lt ei,lt ej,lt ea,lt eb⟩
 refine ⟨⟨_,hS,rfl⟩,PySem.F.args_list_init_2 _ _,?_⟩
 have Z1:ZS (s.heap.push { cls:=.type "list",data:=.seq #[] }) t u z p r i j a b xs ys 0:=Z.keep s.heap.objs.size hSs (fun q o _ e=>Heap.get?_push_of_some _ e) fun o e=>⟨o,Heap.get?_push_of_some _ e⟩
 show wpAny _ _ (do let old <- Builtin.List.listItems (.ref s.heap.objs.size); Builtin.List.listUpdate (.ref s.heap.objs.size) (fun _=>#[]); letGo old.toList.reverse; Builtin.List.listExtendWith (.ref s.heap.objs.size) (.ref z) .none) _ _ _
 refine wpAny_bind ?_
 unfold Builtin.List.listItems
 refine wpAny_bind (wpAny_seqItems hS rfl (wpAny_pure ?_))
 show wpAny _ _ (updateSeq s.heap.objs.size (fun _=>#[]) >>= fun _=>letGo (#[]:Array Value).toList.reverse >>= fun _=>Builtin.List.listExtendWith (.ref s.heap.objs.size) (.ref z) .none) _ _ _
 refine wpAny_bind (wpAny_updateSeq hS rfl ?_)
 have hS₂:=Heap.get?_update_self (Obj.mapSeq (fun _=>(#[]:Array Value))) hS rfl
 generalize hg:(s.heap.push { cls:=.type "list",data:=.seq #[] }).update s.heap.objs.size (Obj.mapSeq (fun _=>(#[]:Array Value))) = g2 at hS₂ ⊢
 have oth:∀ b o,b ≠ s.heap.objs.size->(s.heap.push { cls:=.type "list",data:=.seq #[] }).get? b = some o->g2.get? b = some o :=
  fun b o hb e=>by rw [<- hg]; exact (Heap.get?_update_other _ _ (Ne.symm hb)).trans e
 have sz2:g2.objs.size = s.heap.objs.size + 1:=by rw [<- hg,Heap.size_update,Heap.size_push]
 have Z2:ZS g2 t u z p r i j a b xs ys 0:=Z1.keep s.heap.objs.size hSs (fun q o w e=>oth q o w e) fun o e=>⟨_,hS₂⟩
 refine wpAny_bind (wpAny_letGo ?_)
 unfold Builtin.List.listExtendWith
 refine wpAny_bind (wpAny_typeOf (T:="zip") Z2.ty ?_)
 have h1:Builtin.List.listSameRef (.ref s.heap.objs.size) (.ref z) = false:=by simp [Builtin.List.listSameRef,hSs.1]
 simp only [h1,show (Value.type "zip" == Value.type "list") = false from by decide,show (Value.type "zip" == Value.type "tuple") = false from by decide,Bool.or_false,Bool.false_eq_true,if_false]
 have fin:∀ (g3:Heap) (c:Nat),ZS g3 t u z p r i j a b xs ys 0->(∀ q o,q ≠ s.heap.objs.size->g2.get? q = some o->g3.get? q = some o)->g3.objs.size = s.heap.objs.size + 1->g3.get? s.heap.objs.size = some { cls:=.type "list",dict:=none,data:=.seq #[] c,slots:=#[] } ->
   codeAny (model prog w) A.in1 (.builtin "list.extend.loop" ⟨[.ref s.heap.objs.size,.ref z,.none],[]⟩) (wants (fun r s₂=>r = Value.none/\Q (Value.ref s.heap.objs.size) s₂) E) { s with heap:=g3 }:=fun g3 c Z3 k3 s3 e3=>by
  refine zpf (A:=A.in1) (N0:=s.heap.objs.size + 1) hh D hSs hn hz (Nat.lt_succ_of_lt (Heap.lt_size ez)) (Nat.lt_succ_of_lt (Heap.lt_size er)) (Nat.lt_succ_of_lt (Heap.lt_size ei)) (Nat.lt_succ_of_lt (Heap.lt_size ej)) (Nat.lt_succ_self _) .none (n - 0) 0 { s with heap:=g3 } [] c rfl (Nat.zero_le _) (Nat.le_of_eq s3.symm) Z3 (by simpa using e3) rfl (fun l T e=>by simp at e) List.nodup_nil fun h' Ts c' f1 f2 f3 f4 f5=>⟨rfl,hQ h' Ts c' (fun q o w1 w2 w3 w4 e=>?_) f2 f3 f4 f5⟩
  have w5:q ≠ s.heap.objs.size:=Nat.ne_of_lt (Heap.lt_size e)
  exact f1 q o w1 w2 w3 w4 w5 (k3 q o w5 (oth q o w5 (Heap.get?_push_of_some _ e)))
 have it:∀ {Q':Value->Shared->Prop} {E':Value->Shared->Prop} {A':Around},Q' (.ref z) { s with heap:=g2 }->wpAny (model prog w) A' (pyIter (.ref z)) Q' E' { s with heap:=g2 }:=fun {Q' E' A'} h=>by
  have hT:Shared.TypeIs { s with heap:=g2 } (.ref z) "zip":=Z2.ty
  refine wpAny_pyIter_slot hT F.slot_zip_iter (wpAny_call_entry F.slot_zip_iter hT F.entry_zip_iter ?_ (F.args_zip_iter_1 _))
  show wpAny _ _ (ret (.ref z)) _ _ _
  exact wpAny_pure ⟨_,rfl,"zip",_,hT,F.slot_zip_next.lookup,h⟩
 refine wpAny_bind (it (wpAny_bind (wpAny_holding (zno Z2.ty ?_))))
 simp only [Bool.true_or,if_true]
 refine wpAny_bind (wpAny_rule (wpAny_bind ?_))
 show wpAny _ _ (updateSeq s.heap.objs.size (·.push .none) >>= fun _=>updateSeq s.heap.objs.size (·.pop)) _ _ _
 refine wpAny_bind (wpAny_updateSeq hS₂ rfl ?_)
 have hS₃:=Heap.get?_update_self (Obj.mapSeq (·.push Value.none)) hS₂ rfl
 refine wpAny_updateSeq (hz:=by seq_fits) hS₃ rfl ?_
 have hS₄:=Heap.get?_update_self (Obj.mapSeq (·.pop)) hS₃ rfl
 have o4:∀ q o,q ≠ s.heap.objs.size->g2.get? q = some o->((g2.update s.heap.objs.size (Obj.mapSeq (·.push Value.none))).update s.heap.objs.size (Obj.mapSeq (·.pop))).get? q = some o:=fun q o w e=>(Heap.get?_update_other _ _ (Ne.symm w)).trans ((Heap.get?_update_other _ _ (Ne.symm w)).trans e)
 refine wpAny_pure ⟨plainId_quiet PySem.F.plain_extend_loop _,fin _ _ (Z2.keep s.heap.objs.size hSs o4 fun o e=>⟨_,hS₄⟩) o4 (by rw [Heap.size_update,Heap.size_update,sz2]) hS₄⟩
end
def zqT (K:W.Frag) (ta:TA):TE:=fun σ H Q=>ta σ H fun vs H1=>∃ a b t u xs ys,vs = [.ref a,.ref b]/\SqV K t H1 a xs/\SqV K u H1 b ys/\min xs.length ys.length <= 1000 /\
 ∀ (l:Addr) (H2:Hp) (Ts:List Addr),Same H1 H2->H1 l = none->(∀ T ∈ Ts,H1 T = none)->H2 l = some (.lst (Ts.map V.ref))->Ts.length = min xs.length ys.length->(∀ (m:Nat) (T:Addr),Ts[m]? = some T->∃ x y,xs[m]? = some x/\ys[m]? = some y/\H2 T = some (.tup [x,y]))->Q (.ref l) H2
theorem zhj:∀ (Ts:List Addr),Vals (Ts.map V.ref) (Ts.map Value.ref)
 | []=>.nil
 | T :: r=>.cons rfl (zhj r)
theorem zov {α:Type}:∀ {zs:List (Addr × α)} {b:Addr} {w:α},zs.lookup b = some w->(b,w) ∈ zs
 | [],_,_,e=>by cases e
 | (c,v) :: r,b,w,e=>by
  rw [List.lookup_cons] at e
  by_cases hb:b = c
  ·subst hb
   simp at e
   subst e
   exact List.mem_cons_self
  ·rw [show (b == c) = false from by simpa using hb] at e
   exact List.mem_cons_of_mem _ (zov e)
theorem zpZ {α:Type}:∀ {Ts:List Addr} {ws:List α} {m:Nat} {T:Addr} {w:α},Ts.Nodup->Ts[m]? = some T->ws[m]? = some w->(Ts.zip ws).lookup T = some w
 | [],_,_,_,_,_,e,_=>by simp at e
 | _ :: _,[],_,_,_,_,_,e=>by simp at e
 | T0 :: Ts,w0 :: ws,0,T,w,_,e1,e2=>by
  simp at e1 e2
  subst e1 e2
  simp [List.lookup_cons]
 | T0 :: Ts,w0 :: ws,m + 1,T,w,nd,e1,e2=>by
  rw [List.nodup_cons] at nd
  have e1':Ts[m]? = some T:=by simpa using e1
  have ne:T ≠ T0:=fun z=>nd.1 (by rw [<- z]; exact List.mem_of_getElem? e1')
  rw [List.zip_cons_cons,List.lookup_cons,show (T == T0) = false from by simpa using ne]
  exact zpZ nd.2 e1' (by simpa using e2)
theorem zoP {X:Cx} {a b:Expr} {ta:TA} {p p' pos pos':Pos} (hc:X.calm = true) (hgl:Gl X "list") (hml:X.mg "list" = none) (hg:Gl X "zip") (hm:X.mg "zip" = none) (ha:PA X [a,b] ta)
  (hs:starEach [a,b] X.env = [(false,eval a X.env),(false,eval b X.env)]:=by rfl) (hs2:starEach [b] X.env = [(false,eval b X.env)]:=by rfl)
  (hs3:starEach [.Call (.Name "zip" p) [a,b] [] pos] X.env = [(false,eval (.Call (.Name "zip" p) [a,b] [] pos) X.env)]:=by rfl) :
  PE X (.Call (.Name "list" p') [.Call (.Name "zip" p) [a,b] [] pos] [] pos') (zqT X.K ta):=by
 intro zo s σ H Q I h
 refine wpAny_Call_Name_kw (ze9 I hgl hml zgC ?_ (by decide) (by decide))
 refine PyProof.Rows.callWith_type1 ?_ (by rw [hs3]; rfl) rfl
 rw [hs3]
 show wpAny _ _ (spliced ((false,eval (.Call (.Name "zip" p) [a,b] [] pos) X.env) :: [])) _ _ s
 refine Calls.spliced_cons (Call_ (ze9 I hg hm zjA (PyProof.Rows.callWith_type1 (thn (ha pos zo s σ H _ I h) fun us s1 ⟨vs,H1,I1,r1,q1⟩=>?_) (by rw [hs,hs2]) (by rw [hs2]; rfl))))
 obtain ⟨a1,b1,t,u,xs,ys,e,q1,q2,hl,q⟩:=q1
 subst e
 cases r1 with
 | cons r rr =>
  cases rr with
  | cons r' rr =>
   cases rr
   cases r
   cases r'
   obtain ⟨its,rv,sq,_⟩:=I1.seqK q1
   obtain ⟨its2,rv2,sq2,_⟩:=I1.seqK q2
   have l1:=rv.length
   have l2:=rv2.length
   obtain ⟨oa,ea⟩:=sq.here
   obtain ⟨ob,eb⟩:=sq2.here
   refine ziP sq sq2 fun g z1 z2 z3 z4 z5 kk=>Calls.spliced_nil ?_
   have D:=zoh s1.heap.objs.size a1 b1 (Heap.lt_size ea) (Heap.lt_size eb)
   have I2:=I1.kept (h':=g) (t':=s1.toks) kk
   have Z:ZS g t u (s1.heap.objs.size + 4) (s1.heap.objs.size + 2) (s1.heap.objs.size + 3) s1.heap.objs.size (s1.heap.objs.size + 1) a1 b1 its.toArray its2.toArray 0:=⟨.inl z1,z2,⟨_,_,z3⟩,z4,z5,sq.at fun o e=>kk _ _ e,sq2.at fun o e=>kk _ _ e⟩
   have gsz:s1.heap.objs.size + 4 < g.objs.size:=Heap.lt_size z1
   refine zhB (s:={ s1 with heap:=g }) (n:=min its.length its2.length) (I2.ok.hd hc) D (by simp) (by rw [<- l1,<- l2,sizeLine_eq]; omega) Z fun h' Ts c' f1 f2 f3 f4 f5=>?_
   have k2:∀ q o,s1.heap.get? q = some o->h'.get? q = some o:=fun q o e=>by
    have w:=Heap.lt_size e
    exact f1 q o (Nat.ne_of_lt (Nat.lt_of_lt_of_le w (Nat.le_add_right _ _))) (Nat.ne_of_lt (Nat.lt_of_lt_of_le w (Nat.le_add_right _ _))) (Nat.ne_of_lt w) (Nat.ne_of_lt (Nat.lt_of_lt_of_le w (Nat.le_add_right _ _))) (kk q o e)
   let zs:List (Addr × HO):=Ts.zip ((xs.zip ys).map fun q=>HO.tup [q.1,q.2])
   let H2:Hp:=fun b=>if b = g.objs.size then some (.lst (Ts.map V.ref)) else (zs.lookup b).or (H1 b)
   have fr:∀ b,s1.heap.objs.size <= b->H1 b = none:=fun b w=>I1.hok.fresh w
   have lk:∀ b w,zs.lookup b = some w->∃ m,Ts[m]? = some b/\∃ x y,xs[m]? = some x/\ys[m]? = some y/\w = .tup [x,y]:=fun b w e=>by
    have mm:=zov e
    obtain ⟨m,em⟩:=List.getElem?_of_mem mm
    rw [List.getElem?_zip_eq_some] at em
    obtain ⟨e1,e2⟩:=em
    rw [List.getElem?_map] at e2
    cases e3:(xs.zip ys)[m]? with
    | none=>rw [e3] at e2; cases e2
    | some pr =>
     rw [e3] at e2
     obtain ⟨e4,e5⟩:=List.getElem?_zip_eq_some.mp e3
     exact ⟨m,e1,_,_,e4,e5,(Option.some.inj e2).symm⟩
   have bT:∀ m T,Ts[m]? = some T->g.objs.size + 1 <= T:=fun m T e=>(f4 m T e).1
   have f4':=f4
   have lg:s1.heap.objs.size <= g.objs.size:=Nat.le_trans (Nat.le_add_right _ 4) (Nat.le_of_lt gsz)
   have bN:∀ m T,Ts[m]? = some T->s1.heap.objs.size <= T/\T ≠ g.objs.size:=fun m T e=>⟨Nat.le_trans lg (Nat.le_trans (Nat.le_succ _) (bT m T e)),Nat.ne_of_gt (bT m T e)⟩
   have h2l:H2 g.objs.size = some (.lst (Ts.map V.ref)):=if_pos rfl
   have h2T:∀ m T,Ts[m]? = some T->∃ x y,xs[m]? = some x/\ys[m]? = some y/\H2 T = some (.tup [x,y]):=fun m T e=>by
    obtain ⟨_,v1,v2,e1,e2,_⟩:=f4 m T e
    have m1:m < xs.length:=by
     have:=(Array.getElem?_eq_some_iff.mp e1).1
     rw [l1]; simpa using this
    have m2:m < ys.length:=by
     have:=(Array.getElem?_eq_some_iff.mp e2).1
     rw [l2]; simpa using this
    have ex:=List.getElem?_eq_getElem m1
    have ey:=List.getElem?_eq_getElem m2
    refine ⟨_,_,ex,ey,?_⟩
    show (if T = g.objs.size then _ else (zs.lookup T).or (H1 T)) = _
    rw [if_neg (bN m T e).2,zpZ (ws:=(xs.zip ys).map fun q=>HO.tup [q.1,q.2]) (w:=HO.tup [xs[m],ys[m]]) f5 e (by rw [List.getElem?_map,(List.getElem?_zip_eq_some (z:=(xs[m],ys[m]))).mpr ⟨ex,ey⟩]; rfl)]
    rfl
   have I3:Inv X zo σ H2 { s1 with heap:=h' }:=by
    refine I1.laidAll (t':=s1.toks) k2 (fun b o e=>?_) fun b o e=>?_
    ·have w:=I1.hok.lt e
     show (if b = g.objs.size then _ else (zs.lookup b).or (H1 b)) = _
     rw [if_neg (Nat.ne_of_lt (Nat.lt_of_lt_of_le w lg))]
     cases z:zs.lookup b with
     | none=>exact e
     | some v =>
      obtain ⟨m,em,_⟩:=lk b v z
      exact absurd (Nat.lt_of_lt_of_le w (bN m b em).1) (Nat.lt_irrefl _)
    ·by_cases hb:b = g.objs.size
     ·subst hb
      rw [h2l] at e
      cases e
      refine .inr ⟨lg,by rw [List.length_map,f3,<- l1,<- l2,sizeLine_eq]; omega,Ts.map Value.ref,c',zhj Ts,f2⟩
     ·have e':(zs.lookup b).or (H1 b) = some o:=by rw [<- e]; exact (if_neg hb).symm
      cases z:zs.lookup b with
      | none=>rw [z] at e'; exact .inl e'
      | some v =>
       rw [z] at e'
       cases (show some v = some o from e')
       obtain ⟨m,em,x,y,ex,ey,rfl⟩:=lk b o z
       obtain ⟨_,v1,v2,e1,e2,pT⟩:=f4 m b em
       obtain ⟨w1,e3,r1⟩:=rv.get ex
       obtain ⟨w2,e4,r2⟩:=rv2.get ey
       have e1':its[m]? = some v1:=by simpa using e1
       have e2':its2[m]? = some v2:=by simpa using e2
       rw [e3] at e1'
       rw [e4] at e2'
       cases e1'
       cases e2'
       exact .inr ⟨(bN m b em).1,⟨by show 2 <= sizeLine; decide,_,pT,rfl⟩,[v1,v2],.cons r1 (.cons r2 .nil),⟨_,pT,rfl,_,rfl⟩⟩
   refine ⟨.ref g.objs.size,H2,I3,rfl,q g.objs.size H2 Ts (fun b o e=>?_) (fr _ lg) (fun T mT=>?_) h2l (by rw [f3,<- l1,<- l2]) h2T⟩
   ·have w:=I1.hok.lt e
    show (if b = g.objs.size then _ else (zs.lookup b).or (H1 b)) = _
    rw [if_neg (Nat.ne_of_lt (Nat.lt_of_lt_of_le w lg))]
    cases z:zs.lookup b with
    | none=>exact e
    | some v =>
     obtain ⟨m,em,_⟩:=lk b v z
     exact absurd (Nat.lt_of_lt_of_le w (bN m b em).1) (Nat.lt_irrefl _)
   ·obtain ⟨m,em⟩:=List.getElem?_of_mem mT
    exact fr _ (bN m T em).1
def zmR (a:DA):DE:=fun δ S R=>a δ S fun xs S1=>arg2 xs fun x y=>∃ ds,zkQ x = some ds/\∃ es,zkQ y = some es/\min ds.length es.length <= 1000/\R (.d (.list (zgU ds es))) S1
theorem zjz {H H':Hp} (gr:Same H H'):∀ {ds es:List PyData} {xs ys:List V} {Ts:List Addr},HasL H ds xs->HasL H es ys->Ts.length = min xs.length ys.length->(∀ (m:Nat) (T:Addr),Ts[m]? = some T->∃ x y,xs[m]? = some x/\ys[m]? = some y/\H' T = some (.tup [x,y]))->HasL H' (zgU ds es) (Ts.map V.ref)
 | [],es,xs,ys,Ts,h1,h2,hl,_=>by
  have e:=zT.mp h1
  subst e
  have:Ts = []:=List.eq_nil_of_length_eq_zero (by simpa using hl)
  subst this
  exact zT.mpr rfl
 | d :: ds,[],xs,ys,Ts,h1,h2,hl,_=>by
  have e:=zT.mp h2
  subst e
  have:Ts = []:=List.eq_nil_of_length_eq_zero (by simpa using hl)
  subst this
  exact zT.mpr rfl
 | d :: ds,e :: es,xs,ys,Ts,h1,h2,hl,hT=>by
  obtain ⟨v,r,rfl,q1,l1⟩:=zO.mp h1
  obtain ⟨u,r2,rfl,q2,l2⟩:=zO.mp h2
  cases Ts with
  | nil=>simp at hl
  | cons T Ts =>
   obtain ⟨x,y,e1,e2,e3⟩:=hT 0 T rfl
   cases e1
   cases e2
   refine zO.mpr ⟨_,_,rfl,zbx.mpr ⟨T,_,rfl,e3,zO.mpr ⟨_,_,rfl,Has.mono gr _ _ q1,zO.mpr ⟨_,_,rfl,Has.mono gr _ _ q2,zT.mpr rfl⟩⟩⟩,?_⟩
   exact zjz gr l1 l2 (by simp only [List.length_cons] at hl; omega) fun m T' eT=>by
    obtain ⟨x,y,e1,e2,e3⟩:=hT (m + 1) T' (by simpa using eT)
    exact ⟨x,y,by simpa using e1,by simpa using e2,e3⟩
theorem zo1 {K:W.Frag} {ta:TA} {da:DA} (ha:RA ta da):RE (zqT K ta) (zmR da):=fun h o H δ σ S R Q he hs q c =>
 ha h o H δ σ S _ _ he hs q fun o1 H1 S1 xs vs e1 s1 x1 d0=>by
  obtain ⟨x,y,rfl,ds,e2,es,e3,hl,d2⟩:=zgg d0
  obtain ⟨v,u,rfl,hv,hu⟩:=hxs2 x1
  obtain ⟨t,a,ws,rfl,l,k1⟩:=zfX (K:=K) e2 hv
  obtain ⟨t',b,zs,rfl,l',k2⟩:=zfX (K:=K) e3 hu
  have g1:=l.length
  have g2:=l'.length
  refine ⟨a,b,t,t',ws,zs,rfl,k1 ExH.refl,k2 ExH.refl,by omega,fun l0 H2 Ts gr f1 f2 f3 f4 f5=>?_⟩
  have v1:∀ b u,H1 b = none->H2 b = some u->vx h o1 H2 b = some u:=fun b u n e=>by
   obtain ⟨z1,z2⟩:=s1.fresh n
   exact zay.mpr ⟨z1,z2,e⟩
  exact c o1 H2 S1 (.d (.list (zgU ds es))) _ (e1.trans (Ex.of_same gr)) (s1.same gr) (zbI.mpr ⟨l0,_,rfl,v1 l0 _ f1 f3,zjz (zfw gr) l l' f4 fun m T e=>by
   obtain ⟨x,y,q1,q2,q3⟩:=f5 m T e
   exact ⟨x,y,q1,q2,v1 T _ (f2 T (List.mem_of_getElem? e)) q3⟩⟩) d2
end L2
namespace L2
open PySem PySem.Spec PyProof.Rows
section
section
variable {Φ:Phi} [Stb Φ] {ta tb te:TE} {da db de:DE}
theorem zkt {caps:List (Option Nat)} {wi:TI} {g:TG} {tt:TT} {te:TE} {di:DI} {dg:DG} {dtt:DT} {dte:DE} (hi:RIp Φ wi di) (hg:RG g dg) (ht:RTp Φ tt dtt) (he':REp Φ te dte)
  {h o:List Addr} {H:Hp} {δ:XE} {σ:St} {S:Sto} {Q:VK} {fin:Nat->Sto->Prop} (w:Φ h o H) (he:RepE h o H δ σ) (hs:RepS h o H S) (q:di δ S fun ds S1=>zfq S1.length dg dtt dte (fin S1.length) ds (zmJ caps δ) (S1 ++ [[]]))
  (c:∀ o1 H1 D o2 H2 S2,Ex o H o1 H1->H1 D = none->Ex (o1 ++ [D]) (upd H1 D (.lst [])) o2 H2->RepS h o2 H2 S2->fin o1.length S2->Q (.ref D) H2):zjn caps wi g tt te σ H Q:=by
 refine hi h o H δ σ S _ _ he hs q (fun o1 H1 S1 ds J e1 s1 wk d1 D hD=>?_) w
 have eN:Ex o1 H1 (o1 ++ [D]) (upd H1 D (.lst [])):=Ex.new s1 hD
 have sN:RepS h (o1 ++ [D]) (upd H1 D (.lst [])) (S1 ++ [[]]):=s1.new hD (zT.mpr rfl)
 have hn:S1.length = o1.length:=s1.len
 refine ⟨fun i m τ H2=>m = ds.length - i/\i <= ds.length/\∃ o2 δ2 S2,Ex (o1 ++ [D]) (upd H1 D (.lst [])) o2 H2/\RepE h o2 H2 δ2 τ/\RepS h o2 H2 S2/\zfq S1.length dg dtt dte (fin S1.length) (ds.drop i) δ2 S2,⟨ds.length,by simp,Nat.zero_le _,_,_,_,Ex.refl,((he.mono e1).mono eN).tau,sN,d1⟩,?_⟩
 rintro i m τ H2 ⟨rfl,hi,o2,δ2,S2,e2,he2,hs2,d2⟩
 by_cases hlt:i < ds.length
 ·have ed:ds[i]? = some ds[i]:=List.getElem?_eq_getElem hlt
  rw [List.drop_eq_getElem_cons hlt] at d2
  refine .inr ⟨wk.go i _ o2 H2 (eN.trans e2).hid ed,fun x H3 y=>?_⟩
  obtain ⟨s3,hx⟩:=wk.yld i _ o2 H2 x H3 S2 (eN.trans e2).hid hs2 ed y
  have e23:Ex o2 H2 o2 H3:=Ex.of_same s3
  refine hg h o2 H3 δ2 τ S2 (.d ds[i]) x _ _ (he2.mono e23) (hs2.same s3) hx d2 fun o4 H4 δ4 S4 τ4 e4 he4 hs4 d4=>?_
  refine ht h o4 H4 δ4 τ4 S4 _ _ he4 hs4 d4 (fun o5 H5 S5 b e5 s5 d5=>?_) (Stb.st w (e1.trans (eN.trans ((e2.trans e23).trans e4))))
  have e15:=((e2.trans e23).trans e4).trans e5
  cases b with
  | false=>exact zmq ⟨ds.length - (i + 1),by omega,rfl,hlt,o5,δ4,S5,e15,he4.mono e5,s5,by simpa using d5⟩
  | true =>
   refine zmr (he' h o5 H5 δ4 τ4 S5 _ _ (he4.mono e5) s5 (by simpa using d5) (fun o6 H6 S6 z v e6 s6 z6 d6=>?_) (Stb.st w (e1.trans (eN.trans e15))))
   replace d6:=zfH d6
   obtain ⟨e,rfl,acc,ea,hl,d6⟩:=d6
   have e16:=e15.trans e6
   have eD:o6[S1.length]? = some D:=by
    obtain ⟨r,rfl⟩:=e16.pre
    rw [hn]
    exact zev (by rw [List.getElem?_concat_length])
   obtain ⟨vs,ev,l⟩:=s6.cont _ D acc eD ea
   refine ⟨vs,ev,by rw [l.length]; exact small1000 (Nat.le_of_lt hl),ds.length - (i + 1),by omega,rfl,hlt,o6,δ4,_,e16.trans (Ex.upd eD),((he4.mono e5).mono e6).mono (Ex.upd eD),s6.upd eD (l.append (zO.mpr ⟨v,[],rfl,z6,zT.mpr rfl⟩)),d6⟩
 ·have ei:i = ds.length:=by omega
  subst ei
  rw [List.drop_length] at d2
  exact .inl ⟨wk.stop _ o2 H2 (eN.trans e2).hid (Nat.le_refl _),c o1 H1 D o2 H2 S2 e1 hD e2 hs2 (hn ▸ d2)⟩
theorem zmA {caps:List (Option Nat)} {wi:TI} {g:TG} {tt:TT} {te:TE} {di:DI} {dg:DG} {dtt:DT} {dte:DE} (hi:RIp Φ wi di) (hg:RG g dg) (ht:RTp Φ tt dtt) (he':REp Φ te dte):REp Φ (zjn caps wi g tt te) (zcO caps di dg dtt dte):=fun h o H δ σ S R Q he hs q c w=>by
 refine zkt (w:=w) (fin:=fun n S2=>∃ (S0:Sto) (acc:List PyData),S2 = S0 ++ [acc]/\S0.length = n/\R (.d (.list acc)) S0) hi hg ht he' he hs q fun o1 H1 D o2 H2 S2 e1 hD e2 s2 ⟨S0,acc,eS,hl,f⟩=>?_
 subst eS
 have eN:Ex o1 H1 (o1 ++ [D]) (upd H1 D (.lst [])):=⟨⟨[D],rfl⟩,fun b w hb e=>by
  have ne:b ≠ D:=zan e hD
  exact ⟨by simp [hb,ne],by rw [zae ne]; exact e⟩⟩
 have e12:=eN.trans e2
 obtain ⟨r,rfl⟩:=e2.pre
 have er:r = []:=by
  have:=s2.len
  simp only [List.length_append,List.length_singleton,hl] at this
  exact List.eq_nil_of_length_eq_zero (by omega)
 subst er
 rw [List.append_nil] at s2 e12
 have s0:RepS h o1 H2 S0:=s2.pop hl
 refine c o1 H2 S0 (.d (.list acc)) _ (e1.trans (Ex.pop (o':=o1) e12)) s0 ?_ f
 obtain ⟨vs,ev,l⟩:=s2.cont o1.length D acc (by rw [List.getElem?_concat_length]) (by rw [<- hl,List.getElem?_concat_length])
 have nD:D ∉ o1:=by
  have:=(List.nodup_append.mp s2.nd).2.2
  intro m
  exact this D m D (by simp) rfl
 exact zbI.mpr ⟨D,vs,rfl,zay.mpr ⟨s2.dis D (by simp),nD,ev⟩,l.mono zfD⟩
theorem zq0 {K:W.Frag} (ha:REp Φ ta da):RTp Φ (fun σ H Q=>ta σ H fun x H'=>∃ k,TruV K x H' k/\Q k H') (zge da):=fun h o H δ σ S R Q he hs q c w =>
 ha h o H δ σ S _ _ he hs q (fun o1 H1 S1 x v e1 s1 x1 d1=>by
  have z:=zct (K:=K) (zd (i:=0)) h o1 H1 [some x] [some v] S1 R Q ⟨rfl,fun i y e=>by
   cases i with
   | zero=>cases e; exact ⟨v,rfl,x1⟩
   | succ i=>simp at e⟩ s1 ⟨x,rfl,d1⟩ (fun o2 H2 S2 b e2=>c o2 H2 S2 b (e1.trans e2))
  obtain ⟨v',e,z⟩:=z
  cases e
  exact z) w
end
theorem zm6 {X:Cx} {K:W.Frag} (hK:X.K = K):SlR X (zr7 K):=by
 subst hK
 exact zeP
end
end L2
namespace My
open PySem L2
def zdM:PN:=fun xs S R=>(zbe (zfx (dCB zh9 (ze (zm 0) (ze (dO (.ty "int")) zt))) (zmh (dCB zh9 (ze (zm 0) (ze (dO (.ty "bool")) zt)))))) (zcS S.length R) (xs.map some ++ List.replicate 0 none) S
def zdN:PN:=fun xs S R=>(zac (zaC (dOp (dI (fun _ j=>0 < j) fun i j=>i % j) (dOp zb8 (zm 0) (dC (.int 7919))) (dC (.int 2147483647))) (zn 0)) (zbe (dOp (dI (fun _ j=>0 < j) fun i j=>i % j) (dOp zb8 (dOp zb8 (dOp zgM (zm 0) (zm 0)) (dOp zgM (dC (.int 48271)) (zm 0))) (dC (.int 12345))) (dC (.int 2147483629))))) (zcS S.length R) (xs.map some ++ List.replicate 0 none) S
def zdx:PN:=fun xs S R=>(zac (zaC (dCB (dI2 fun i j=>if j > i then j else i) (ze (zm 0) (ze (dOp (dI0 fun i j=>i - j) (dC (.int 0)) (zm 0)) zt))) (zn 1)) (zbe (zdJ (ze (zm 1) (ze (dCB zni (ze (dOp (dIb fun i j=>decide (j <= i)) (zm 1) (dOp (dI CPow fun i j=>i ^ j.toNat) (dC (.int 10)) (dC (.int 18)))) zt)) (ze (dOp (dI (fun _ j=>0 < j) fun i j=>i % j) (zm 1) (dC (.int 1000003))) zt)))))) (zcS S.length R) (xs.map some ++ List.replicate 1 none) S
def zdb:PN:=fun xs S R=>(zbe (zfx (dCB zh9 (ze (zm 0) (ze (dO (.ty "int")) zt))) (zmh (dCB zh9 (ze (zm 0) (ze (dO (.ty "bool")) zt)))))) (zcS S.length R) (xs.map some ++ List.replicate 0 none) S
def zx:PN:=fun xs S R=>(zac (zdK (dB (dOp zgl (dOp dIx (zm 0) (dC (.int 1))) (dC (.int 1)))) (zac (zaC (dOp (dI (fun _ j=>0 < j) fun i j=>i % j) (dOp dIx (zm 0) (dC (.int 0))) (zm 1)) (zn 2)) (zac (zaC (dOp dFd (dOp dIx (zm 0) (dC (.int 0))) (zm 1)) (zks (zm 0) (dC (.int 0)))) (zbe (zm 2)))) za0) (zac (zaC (zaw 1 zdN (ze (dOp zb8 (zaw 1 zdN (ze (dOp dIx (zm 0) (dC (.int 2))) zt)) (dC (.int 7))) zt)) (zks (zm 0) (dC (.int 2)))) (zbe (dOp (dI (fun _ j=>0 < j) fun i j=>i % j) (dOp dFd (dOp dIx (zm 0) (dC (.int 2))) (dC (.int 64))) (zm 1))))) (zcS S.length R) (xs.map some ++ List.replicate 1 none) S
def zjx:PN:=fun xs S R=>(zbe (zaG (ze (dOp zb8 (dOp dIx (zm 0) (dC (.int 0))) (dOp dIx (zm 1) (dC (.int 0)))) (ze (dOp zb8 (dOp dIx (zm 0) (dC (.int 1))) (dOp dIx (zm 1) (dC (.int 1)))) zt)))) (zcS S.length R) (xs.map some ++ List.replicate 0 none) S
def zds:PN:=fun xs S R=>(zac (zaC (zaG (ze (dOp zgM (dOp dIx (zm 0) (dC (.int 0))) (zm 1)) (ze (dOp zgM (dOp dIx (zm 0) (dC (.int 1))) (zm 1)) zt))) (zn 2)) (zbe (zaG (ze (dCB zkY (ze (zm 2) zt)) (ze (dCB zrD (ze (zm 2) zt)) zt))))) (zcS S.length R) (xs.map some ++ List.replicate 1 none) S
def zbz:PN:=fun xs S R=>(zac (zaC (zU 0 2 zx (ze (zm 0) (ze (dC (.int 8)) zt))) (zn 1)) (zac (zdK (dB (dOp (dIb fun i j=>decide (i < j)) (zm 1) (dC (.int 5)))) (zbe (dOp (dI0 fun i j=>i - j) (zU 0 2 zx (ze (zm 0) (ze (dC (.int 13)) zt))) (dC (.int 6)))) za0) (zac (zdK (dB (dOp (dIb fun i j=>decide (i < j)) (zm 1) (dC (.int 7)))) (zbe (dOp (dI0 fun i j=>i - j) (zU 0 2 zx (ze (zm 0) (ze (dC (.int 2001)) zt))) (dC (.int 1000)))) za0) (zbe (dOp zgM (dOp (dI0 fun i j=>i - j) (zU 0 2 zx (ze (zm 0) (ze (dOp zgM (dC (.int 2)) (dOp (dI CPow fun i j=>i ^ j.toNat) (dC (.int 10)) (dC (.int 30)))) zt))) (dOp (dI CPow fun i j=>i ^ j.toNat) (dC (.int 10)) (dC (.int 30)))) (dOp (dI CPow fun i j=>i ^ j.toNat) (dC (.int 10)) (dC (.int 28)))))))) (zcS S.length R) (xs.map some ++ List.replicate 1 none) S
def zj8:PN:=fun xs S R=>(zac (zaC (dCB (dI2 fun i j=>if j > i then j else i) (ze (dOp dIx (zm 0) (dC (.int 0))) (ze (dOp dIx (zm 1) (dC (.int 0))) zt))) (zn 2)) (zac (zaC (dCB (dI2 fun i j=>if j < i then j else i) (ze (dOp dIx (zm 0) (dC (.int 1))) (ze (dOp dIx (zm 1) (dC (.int 1))) zt))) (zn 3)) (zbe (dIf (dB (dOp (dIb fun i j=>decide (i <= j)) (zm 2) (zm 3))) (zaG (ze (zm 2) (ze (zm 3) zt))) (dC .none))))) (zcS S.length R) (xs.map some ++ List.replicate 2 none) S
def zbQ:PN:=fun xs S R=>(zac (zaC (dC (.str "abcdefghijklmnopqrstuvwxyz")) (zn 1)) (zac (zaC (zU 0 2 zx (ze (zm 0) (ze (dC (.int 3)) zt))) (zn 2)) (zac (zaC (zU 0 2 zx (ze (zm 0) (ze (dC (.int 26)) zt))) (zn 3)) (zac (zaC (zfK [none,some 1,some 3] (zaP (ze (dC (.int 8)) zt)) (zn 0) zaN (dOp zgM (dOp dIx (zm 1) (dOp (dI (fun _ j=>0 < j) fun i j=>i % j) (dOp zb8 (zm 2) (dOp zgM (dC (.int 5)) (zm 0))) (dC (.int 26)))) (dOp zb8 (dC (.int 1)) (dOp (dI (fun _ j=>0 < j) fun i j=>i % j) (dOp zb8 (zm 2) (dOp zgM (dC (.int 3)) (zm 0))) (dC (.int 8)))))) (zn 4)) (zac (zdK (dB (dOp zgl (zm 2) (dC (.int 0)))) (zac (zaC (zrY zmH (dC (.str "")) (ze (zcO [none,some 1,some 3] (zaP (ze (dC (.int 8)) zt)) (zn 0) zaN (dOp dIx (zm 1) (dOp (dI (fun _ j=>0 < j) fun i j=>i % j) (dOp zb8 (zm 2) (dOp zgM (dC (.int 7)) (zm 0))) (dC (.int 26))))) zt)) (zn 5)) (zaC (zfK [none,some 5] (zaP (ze (dC (.int 8)) zt)) (zn 0) zaN (dSl zhp (zm 1) zaD (zc3 (dOp zb8 (zm 0) (dC (.int 1)))))) (zn 4))) za0) (zac (zdK (dB (dOp zgl (zm 2) (dC (.int 1)))) (zaC (zdJ (ze (dC (.str "part")) (ze (dC (.str "gap")) (ze (dC (.str "cut")) (ze (dC (.str "a")) (ze (dC (.str "aa")) (ze (dC (.str "dear")) (ze (dC (.str "b")) (ze (dC (.str "keeps")) zt))))))))) (zn 4)) za0) (zac (zaC (zU 0 2 zx (ze (zm 0) (ze (dC (.int 8)) zt))) (zn 6)) (zac (zaC (dOp zi5 (dSl zhp (zm 4) (zc3 (zm 6)) zaD) (dSl zhp (zm 4) zaD (zc3 (zm 6)))) (zn 4)) (zac (zdK (dB (dOp zgl (zU 0 2 zx (ze (zm 0) (ze (dC (.int 2)) zt))) (dC (.int 1)))) (zej (zrR zf0 (zm 4))) za0) (zbe (zm 4))))))))))) (zcS S.length R) (xs.map some ++ List.replicate 6 none) S
def zfg:PN:=fun xs S R=>(zbe (zaG (ze (dOp dIx (zm 0) (dC (.int 1))) (ze (dOp dIx (zm 0) (dC (.int 2))) zt)))) (zcS S.length R) (xs.map some ++ List.replicate 0 none) S
def zgH:PN:=fun xs S R=>(zac (zaC (dOp dIx (zcu (ze (zcu (ze (dC (.int 1)) (ze (dUn (dUI fun i=>-i) (dC (.int 1))) (ze (dC (.int 2)) (ze (dUn (dUI fun i=>-i) (dC (.int 2))) (ze (dC (.int 3)) (ze (dUn (dUI fun i=>-i) (dC (.int 3))) zt))))))) (ze (zcu (ze (dC (.int 1)) (ze (dUn (dUI fun i=>-i) (dC (.int 1))) zt))) (ze (zcu (ze (dC (.int 2)) (ze (dUn (dUI fun i=>-i) (dC (.int 2))) zt))) (ze (zcu (ze (dC (.int 3)) (ze (dUn (dUI fun i=>-i) (dC (.int 3))) zt))) (ze (zcu (ze (dC (.int 2)) (ze (dC (.int 3)) (ze (dUn (dUI fun i=>-i) (dC (.int 2))) (ze (dUn (dUI fun i=>-i) (dC (.int 3))) zt))))) (ze (zcu (ze (dC (.int 1)) (ze (dC (.int 3)) (ze (dUn (dUI fun i=>-i) (dC (.int 1))) (ze (dUn (dUI fun i=>-i) (dC (.int 3))) zt))))) zt))))))) (zU 0 2 zx (ze (zm 0) (ze (dC (.int 6)) zt)))) (zn 2)) (zac (zaC (zdJ zt) (zn 3)) (zac (zff (zaP (ze (dCB zaB (ze (zm 1) zt)) zt)) (zn 4) (zdK (dB (dOp (dIb fun i j=>decide (j < i)) (zU 0 2 zx (ze (zm 0) (ze (dC (.int 3)) zt))) (dC (.int 0)))) (zej (dBM zcg (zm 3) (ze (zaG (ze (zm 4) (ze (dOp dIx (zm 2) (zU 0 2 zx (ze (zm 0) (ze (dCB zaB (ze (zm 2) zt)) zt)))) zt))) zt))) za0)) (zac (zdK (dB (dOp zgl (zm 3) (zcu zt))) (zaC (zdJ (ze (zaG (ze (zU 0 2 zx (ze (zm 0) (ze (dCB zaB (ze (zm 1) zt)) zt))) (ze (dOp dIx (zm 2) (zU 0 2 zx (ze (zm 0) (ze (dCB zaB (ze (zm 2) zt)) zt)))) zt))) zt)) (zn 3)) za0) (zbe (dCB zcP (ze (zm 3) zt))))))) (zcS S.length R) (xs.map some ++ List.replicate 3 none) S
def zfr:PN:=fun xs S R=>(zac (zaC (zdJ zt) (zn 2)) (zac (zff (zbU (zm 1)) (zdr 3 (zau (zn 3) (zau (zn 4) (zau (zn 5) zdV)))) (zac (zaC (zcu (ze (zm 4) (ze (zm 5) (ze (dOp zb8 (zm 4) (dOp dFd (dOp (dI0 fun i j=>i - j) (zm 5) (zm 4)) (dC (.int 2)))) (ze (dCB (dI2 fun i j=>if j < i then j else i) (ze (zm 5) (ze (dOp zb8 (zm 4) (dC (.int 1))) zt))) (ze (dCB (dI2 fun i j=>if j > i then j else i) (ze (zm 4) (ze (dOp (dI0 fun i j=>i - j) (zm 5) (dC (.int 1))) zt))) zt)))))) (zn 6)) (zej (dBM zcg (zm 2) (ze (dOp dIx (dOp zb8 (zm 6) (zcu (ze (dOp zb8 (zm 4) (dOp (dI (fun _ j=>0 < j) fun i j=>i % j) (zU 0 2 zx (ze (zm 0) (ze (dOp (dI CPow fun i j=>i ^ j.toNat) (dC (.int 10)) (dC (.int 12))) zt))) (dOp zb8 (dOp (dI0 fun i j=>i - j) (zm 5) (zm 4)) (dC (.int 1))))) zt))) (zU 0 2 zx (ze (zm 0) (ze (dC (.int 6)) zt)))) zt))))) (zbe (dCB zcP (ze (zm 2) zt))))) (zcS S.length R) (xs.map some ++ List.replicate 5 none) S
def zbZ:PN:=fun xs S R=>(zac (zaC (zaG (ze (dC (.int 0)) (ze (dC (.int 0)) zt))) (zn 2)) (zac (zff (zbU (zm 1)) (zdr 2 (zau (zn 3) (zau (zn 4) zdV))) (zaC (zaw 2 zjx (ze (zm 2) (ze (zaw 2 zds (ze (zaw 1 zfg (ze (dOp dIx (zm 0) (zm 3)) zt)) (ze (zm 4) zt))) zt))) (zn 2))) (zbe (zm 2)))) (zcS S.length R) (xs.map some ++ List.replicate 3 none) S
def zhW:PN:=fun xs S R=>(zbe (zaw 2 zbZ (ze (zm 0) (ze (dOp dIx (zm 1) (dC (.int 0))) zt)))) (zcS S.length R) (xs.map some ++ List.replicate 0 none) S
def zdY:PN:=fun xs S R=>(zbe (zaG (ze (dOp dIx (zm 0) (dC (.int 1))) (ze (dOp dIx (zm 0) (dC (.int 2))) zt)))) (zcS S.length R) (xs.map some ++ List.replicate 0 none) S
def zeX:PN:=fun xs S R=>(zac (zaC (dC (.int 0)) (zn 2)) (zac (zff (zbU (dOp dIx (zm 0) (dC (.int 0)))) (zdr 2 (zau (zn 3) (zau (zn 4) zdV))) (zaC (dOp zb8 (zm 2) (dOp zgM (zm 4) (dOp dIx (zm 1) (zm 3)))) (zn 2))) (zbe (zm 2)))) (zcS S.length R) (xs.map some ++ List.replicate 3 none) S
def zeK:PN:=fun xs S R=>(zac (zaC (dC (.int 0)) (zn 2)) (zac (zff (zbU (dOp dIx (zm 0) (dC (.int 0)))) (zdr 2 (zau (zn 3) (zau (zn 4) zdV))) (zaC (dOp zb8 (zm 2) (dOp zgM (zm 4) (dOp dIx (zm 1) (zm 3)))) (zn 2))) (zbe (zm 2)))) (zcS S.length R) (xs.map some ++ List.replicate 3 none) S
def zei:PN:=fun xs S R=>(zac (zaC (zU 0 1 zbQ (ze (zm 0) zt)) (zn 2)) (zac (zaC (zcO [none,some 0] (zaP (ze (dOp zb8 (dC (.int 1)) (zU 0 2 zx (ze (zm 0) (ze (zm 1) zt)))) zt)) (zn 0) zaN (dOp zb8 (dC (.int 1)) (zU 0 2 zx (ze (zm 1) (ze (dC (.int 3)) zt))))) (zn 3)) (zac (zdK (dB (dOp zgl (zU 0 2 zx (ze (zm 0) (ze (dC (.int 12)) zt))) (dC (.int 0)))) (zaC (dOp dIx (zcu (ze (dOp zgM (zcu (ze (dC (.int 2)) zt)) (dC (.int 8))) (ze (zcu (ze (dC (.int 17)) (ze (dC (.int 17)) zt))) (ze (zcu (ze (dC (.int 300)) zt)) (ze (dOp zgM (zcu (ze (dC (.int 1)) zt)) (dC (.int 8))) zt))))) (zU 0 2 zx (ze (zm 0) (ze (dC (.int 4)) zt)))) (zn 3)) za0) (zac (zaC (zdJ zt) (zn 4)) (zac (zff (zaP (ze (dCB zaB (ze (zm 3) zt)) zt)) (zn 5) (zac (zaC (zU 0 1 zbz (ze (zm 0) zt)) (zn 6)) (zej (dBM zcg (zm 4) (ze (zaG (ze (dOp dIx (zm 2) (zm 5)) (ze (zm 6) (ze (dOp (dI0 fun i j=>i - j) (dOp zb8 (zm 6) (dOp dIx (zm 3) (zm 5))) (dC (.int 1))) zt)))) zt))))) (zbe (dCB zcP (ze (zm 4) zt)))))))) (zcS S.length R) (xs.map some ++ List.replicate 5 none) S
def zf2:PN:=fun xs S R=>(zbe (dOp zrL (zaw 2 zj8 (ze (zaw 2 zhW (ze (zm 0) (ze (zm 1) zt))) (ze (zaw 1 zdY (ze (zm 1) zt)) zt))) (dC .none))) (zcS S.length R) (xs.map some ++ List.replicate 0 none) S
def zey:PN:=fun xs S R=>(zbe (zfK [none] (zbU (zm 0)) (zn 0) zaN (dCB zaB (ze (zm 0) zt)))) (zcS S.length R) (xs.map some ++ List.replicate 0 none) S
def zcG:PN:=fun xs S R=>(zac (zdK (dOr (zgE (zge (dCB zh9 (ze (zm 1) (ze (dO (.ty "tuple")) zt))))) (dB (dOp (dIb fun i j=>decide (j < i)) (dCB zaB (ze (zm 1) zt)) (dCB zaB (ze (zm 0) zt))))) (zbe (dC (.bool false))) za0) (zbe (dCB zm0 (ze (zcO [none,none] (zfj (ze (zm 1) (ze (zm 0) zt))) (zdr 2 (zau (zn 0) (zau (zn 1) zdV))) zaN (zfx (zaw 1 zdM (ze (zm 0) zt)) (zhn (dIb fun i j=>decide (i <= j)) (dIb fun i j=>decide (i < j)) (dC (.int 0)) (zm 0) (zm 1)))) zt)))) (zcS S.length R) (xs.map some ++ List.replicate 0 none) S
def zbk:PN:=fun xs S R=>(zac (zaC (dC (.int 1)) (zn 2)) (zac (zff (zbU (dSl zhp (zm 0) (zc3 (dCB zaB (ze (zm 1) zt))) zaD)) (zn 3) (zaC (dOp zgM (zm 2) (zm 3)) (zn 2))) (zbe (zm 2)))) (zcS S.length R) (xs.map some ++ List.replicate 2 none) S
def zbq:PN:=fun xs S R=>(zac (zdK (zgE (zge (dCB zm0 (ze (zcO [none,some 0] (zbU (zm 1)) (zn 0) zaN (zaw 2 zcG (ze (zm 1) (ze (zm 0) zt)))) zt)))) (zbe (dC (.bool false))) za0) (zac (zdK (zgE (zge (dCB zm0 (ze (zcO [none,none] (zfj (ze (zm 1) (ze (dSl zhp (zm 1) (zc3 (dC (.int 1))) zaD) zt))) (zdr 2 (zau (zn 0) (zau (zn 1) zdV))) zaN (zfx (dOp zrM (zm 0) (zm 1)) (dOp zmt (dSl zms (zm 1) zaD (zc3 (dCB zaB (ze (zm 0) zt)))) (zm 0)))) zt)))) (zbe (dC (.bool false))) za0) (zbe (dOp zgl (dCB zqm (ze (zcO [none,some 0] (zbU (zm 1)) (zn 0) zaN (zaw 2 zbk (ze (zm 1) (ze (zm 0) zt)))) zt)) (zaw 2 zbk (ze (zm 0) (ze (zaG zt) zt))))))) (zcS S.length R) (xs.map some ++ List.replicate 0 none) S
def zeB:PN:=fun xs S R=>(zac (zdK (zgE (zge (dCB zh9 (ze (zm 1) (ze (dO (.ty "list")) zt))))) (zbe (dC (.bool false))) za0) (zac (zdK (zgE (zge (dCB zm0 (ze (zcO [none] (zbU (zm 1)) (zn 0) zaN (zfx (dCB zh9 (ze (zm 0) (ze (dO (.ty "tuple")) zt))) (dOp zgl (dCB zaB (ze (zm 0) zt)) (dC (.int 2))))) zt)))) (zbe (dC (.bool false))) za0) (zbe (zaw 2 zbq (ze (zm 0) (ze (zcO [none] (zbU (zm 1)) (zn 0) zaN (dOp dIx (zm 0) (dC (.int 0)))) zt)))))) (zcS S.length R) (xs.map some ++ List.replicate 0 none) S
def zdR:PN:=fun xs S R=>(zbe (dCB zcP (ze (zcO [none] (zbU (zm 0)) (zn 0) zaN (dOp zb8 (zaG (ze (zaG (ze (dC (.int 0)) (ze (dC (.int 0)) zt))) zt)) (zm 0))) zt))) (zcS S.length R) (xs.map some ++ List.replicate 0 none) S
def za9:PN:=fun xs S R=>(zac (zaC (dC (.int 0)) (zn 2)) (zac (zff (zaP (ze (dCB zaB (ze (zm 1) zt)) zt)) (zn 3) (zaC (dOp zb8 (zm 2) (dOp dIx (dOp zb8 (zcu (ze (dC (.int 0)) zt)) (zcO [none,none] (zbU (dOp dIx (zm 0) (zm 3))) (zdr 2 (zau (zn 0) (zau (zn 1) zdV))) zaN (zm 1))) (dOp dIx (zm 1) (zm 3)))) (zn 2))) (zbe (zm 2)))) (zcS S.length R) (xs.map some ++ List.replicate 2 none) S
def zcq:PN:=fun xs S R=>(zbe (zfK [none,none] (zfj (ze (zaw 1 zdR (ze (zm 0) zt)) (ze (zm 1) zt))) (zdr 2 (zau (zn 0) (zau (zn 1) zdV))) zaN (dOp dIx (zm 0) (zm 1)))) (zcS S.length R) (xs.map some ++ List.replicate 0 none) S
def zhV:PN:=fun xs S R=>(zbe (dCB zcP (ze (zcO [none,none] (zfj (ze (zm 0) (ze (zaw 2 zcq (ze (zm 1) (ze (zm 2) zt))) zt))) (zdr 2 (zau (zn 0) (zau (zn 1) zdV))) zaN (dOp (dI0 fun i j=>i - j) (zm 0) (dOp dIx (zm 1) (dC (.int 0))))) zt))) (zcS S.length R) (xs.map some ++ List.replicate 0 none) S
def zcD:PN:=fun xs S R=>(zbe (dCB zqm (ze (zcO [none] (zbU (zaw 2 zcq (ze (zm 0) (ze (zm 1) zt)))) (zn 0) zaN (dOp dIx (zm 0) (dC (.int 1)))) zt))) (zcS S.length R) (xs.map some ++ List.replicate 0 none) S
def zcI:PN:=fun xs S R=>(zac (zaC (zdJ zt) (zn 2)) (zac (zff (zbU (zm 1)) (zn 3) (zac (zaC (zdJ zt) (zn 4)) (zac (zaC (dC (.int 0)) (zn 5)) (zac (zaC (dC (.int 0)) (zn 6)) (zac (zff (zaP (ze (zU 0 2 zx (ze (zm 0) (ze (dC (.int 4)) zt))) zt)) (zn 7) (zac (zaC (dOp zb8 (dOp zb8 (zm 5) (dC (.int 1))) (zU 0 2 zx (ze (zm 0) (ze (dOp dIx (zcu (ze (dC (.int 3)) (ze (dC (.int 3)) (ze (dC (.int 3)) (ze (dOp (dI CPow fun i j=>i ^ j.toNat) (dC (.int 10)) (dC (.int 20))) zt))))) (zU 0 2 zx (ze (zm 0) (ze (dC (.int 4)) zt)))) zt)))) (zn 5)) (zac (zaC (dOp zb8 (dOp zb8 (zm 6) (dC (.int 1))) (zU 0 2 zx (ze (zm 0) (ze (dC (.int 5)) zt)))) (zn 6)) (zej (dBM zcg (zm 4) (ze (zaG (ze (zm 5) (ze (zm 6) zt))) zt)))))) (zej (dBM zcg (zm 2) (ze (dCB zcP (ze (zm 4) zt)) zt)))))))) (zbe (dCB zcP (ze (zm 2) zt))))) (zcS S.length R) (xs.map some ++ List.replicate 6 none) S
def zd2:PN:=fun xs S R=>(zac (zaC (dCB zhL (ze (zm 0) zt)) (zn 3)) (zac (zff (zaP (ze (dCB zaB (ze (zm 2) zt)) zt)) (zn 4) (zdK (dB (dOp (dIb fun i j=>decide (j < i)) (dOp dIx (zm 2) (zm 4)) (dC (.int 0)))) (zaC (dOp (dI0 fun i j=>i - j) (dOp dIx (zm 3) (zm 4)) (dOp dIx (dOp dIx (dOp dIx (zm 1) (zm 4)) (dOp (dI0 fun i j=>i - j) (dOp dIx (zm 2) (zm 4)) (dC (.int 1)))) (dC (.int 0)))) (zks (zm 3) (zm 4))) za0)) (zbe (dCB zcP (ze (zm 3) zt))))) (zcS S.length R) (xs.map some ++ List.replicate 2 none) S
def zcl:PN:=fun xs S R=>(zac (zaC (zcu (ze (zaG zt) zt)) (zn 1)) (zac (zff (zbU (zm 0)) (zn 2) (zac (zqK (zac (zaC (zdJ zt) (zn 3)) (zff (zbU (zm 1)) (zn 4) (zej (dBM zgo (zm 3) (ze (zcO [none,some 4] (zaP (ze (dOp zb8 (dCB zaB (ze (zm 2) zt)) (dC (.int 1))) zt)) (zn 0) zaN (dOp zb8 (zm 1) (zaG (ze (zm 0) zt)))) zt)))))) (zaC (zm 3) (zn 1)))) (zbe (zm 1)))) (zcS S.length R) (xs.map some ++ List.replicate 4 none) S
def zdC:PN:=fun xs S R=>(zac (zaC (dOp dIx (zcu (ze (zcu (ze (dC (.int 1)) (ze (dUn (dUI fun i=>-i) (dC (.int 1))) (ze (dC (.int 2)) (ze (dUn (dUI fun i=>-i) (dC (.int 2))) (ze (dC (.int 3)) (ze (dUn (dUI fun i=>-i) (dC (.int 3))) zt))))))) (ze (zcu (ze (dC (.int 1)) (ze (dUn (dUI fun i=>-i) (dC (.int 1))) zt))) (ze (zcu (ze (dC (.int 2)) (ze (dUn (dUI fun i=>-i) (dC (.int 2))) zt))) (ze (zcu (ze (dC (.int 3)) (ze (dUn (dUI fun i=>-i) (dC (.int 3))) zt))) (ze (zcu (ze (dC (.int 2)) (ze (dC (.int 3)) (ze (dUn (dUI fun i=>-i) (dC (.int 2))) (ze (dUn (dUI fun i=>-i) (dC (.int 3))) zt))))) (ze (zcu (ze (dC (.int 1)) (ze (dC (.int 3)) (ze (dUn (dUI fun i=>-i) (dC (.int 1))) (ze (dUn (dUI fun i=>-i) (dC (.int 3))) zt))))) zt))))))) (zU 0 2 zx (ze (zm 0) (ze (dC (.int 6)) zt)))) (zn 2)) (zac (zaC (zdJ zt) (zn 3)) (zac (zff (zaP (ze (dCB zaB (ze (zm 1) zt)) zt)) (zn 4) (zdK (dB (dOp (dIb fun i j=>decide (j < i)) (zU 0 2 zx (ze (zm 0) (ze (dC (.int 3)) zt))) (dC (.int 0)))) (zej (dBM zcg (zm 3) (ze (zaG (ze (zm 4) (ze (dOp dIx (zm 2) (zU 0 2 zx (ze (zm 0) (ze (dCB zaB (ze (zm 2) zt)) zt)))) zt))) zt))) za0)) (zac (zdK (dB (dOp zgl (zm 3) (zcu zt))) (zaC (zdJ (ze (zaG (ze (zU 0 2 zx (ze (zm 0) (ze (dCB zaB (ze (zm 1) zt)) zt))) (ze (dOp dIx (zm 2) (zU 0 2 zx (ze (zm 0) (ze (dCB zaB (ze (zm 2) zt)) zt)))) zt))) zt)) (zn 3)) za0) (zbe (dCB zcP (ze (zm 3) zt))))))) (zcS S.length R) (xs.map some ++ List.replicate 3 none) S
def zbp:PN:=fun xs S R=>(zac (zqK (zac (zaC (zfK [none] (zbU (zaw 3 zhV (ze (zm 1) (ze (zm 2) (ze (zm 3) zt))))) (zn 0) zaN (zaG (ze (zm 0) (ze (zm 0) zt)))) (zn 4)) (zff (zbU (dSl zhp (zmR (ze (zm 1) (ze (zaw 1 zdR (ze (zm 2) zt)) zt))) (zc3 (dCB zaB (ze (zm 3) zt))) zaD)) (zdr 2 (zau (zn 5) (zau (zn 6) zdV))) (zej (dBM zcg (zm 4) (ze (zaG (ze (dOp (dI0 fun i j=>i - j) (zm 5) (dOp dIx (dOp dIx (zm 6) (dUn (dUI fun i=>-i) (dC (.int 1)))) (dC (.int 0)))) (ze (zm 5) zt))) zt)))))) (zbe (dCB zcP (ze (zcO [none,none] (zfj (ze (zm 0) (ze (zm 4) zt))) (zdr 2 (zau (zn 0) (zau (zn 1) zdV))) zaN (zaG (ze (dOp dIx (zm 0) (dC (.int 0))) (ze (dOp dIx (zm 1) (dC (.int 0))) (ze (dOp dIx (zm 1) (dC (.int 1))) zt))))) zt)))) (zcS S.length R) (xs.map some ++ List.replicate 3 none) S
def zdu:PN:=fun xs S R=>(zac (zaC (zdJ zt) (zn 4)) (zac (zff (zaP (ze (dOp zb8 (dC (.int 1)) (zU 0 2 zx (ze (zm 0) (ze (dC (.int 3)) zt)))) zt)) (zn 5) (zac (zaC (zU 0 2 zdC (ze (zm 0) (ze (zm 1) zt))) (zn 6)) (zac (zaC (zaw 1 zcl (ze (zm 3) zt)) (zn 7)) (zac (zaC (zaw 3 zd2 (ze (zm 2) (ze (zm 3) (ze (dOp dIx (zm 7) (zU 0 2 zx (ze (zm 0) (ze (dCB zaB (ze (zm 7) zt)) zt)))) zt)))) (zn 8)) (zac (zaC (dOp (dI0 fun i j=>i - j) (dOp zb8 (zaw 2 zeX (ze (zaG (ze (zm 6) (ze (dC (.int 0)) (ze (dC (.int 0)) zt)))) (ze (zm 8) zt))) (zU 0 2 zx (ze (zm 0) (ze (dC (.int 7)) zt)))) (dC (.int 5))) (zn 9)) (zej (dBM zcg (zm 4) (ze (zaG (ze (zm 6) (ze (zm 9) (ze (dOp zb8 (zm 9) (zU 0 2 zx (ze (zm 0) (ze (dC (.int 6)) zt)))) zt)))) zt)))))))) (zbe (dCB zcP (ze (zm 4) zt))))) (zcS S.length R) (xs.map some ++ List.replicate 6 none) S
def zcj:PN:=fun xs S R=>(zac (zdK (dB (dOp zgl (zm 2) (dC (.int 0)))) (zbe (dC (.int 0))) za0) (zbe (dOp dIx (dOp dIx (dOp dIx (zm 0) (zm 1)) (dOp (dI0 fun i j=>i - j) (zm 2) (dC (.int 1)))) (dC (.int 0))))) (zcS S.length R) (xs.map some ++ List.replicate 0 none) S
def zcJ:PN:=fun xs S R=>(zac (zaC (dC (.int 0)) (zn 4)) (zac (zaC (dC (.int 0)) (zn 5)) (zac (zff (zbU (dOp dIx (zm 0) (dC (.int 0)))) (zdr 2 (zau (zn 6) (zau (zn 7) zdV))) (zac (zaC (dC (.int 0)) (zn 8)) (zac (zaC (zaw 3 zcj (ze (zm 2) (ze (zm 6) (ze (dCB zaB (ze (dOp dIx (zm 2) (zm 6)) zt)) zt)))) (zn 9)) (zac (zdK (dB (dOp (dIb fun i j=>decide (i < j)) (zm 6) (dCB zaB (ze (zm 3) zt)))) (zac (zaC (zaw 3 zcj (ze (zm 2) (ze (zm 6) (ze (dOp dIx (zm 3) (zm 6)) zt)))) (zn 8)) (zaC (zm 8) (zn 9))) za0) (zac (zaC (zcu (ze (dOp zgM (zm 7) (dOp (dI0 fun i j=>i - j) (dOp dIx (zm 1) (zm 6)) (zm 8))) (ze (dOp zgM (zm 7) (dOp (dI0 fun i j=>i - j) (dOp dIx (zm 1) (zm 6)) (zm 9))) zt))) (zn 10)) (zac (zaC (dOp zb8 (zm 4) (dCB zkY (ze (zm 10) zt))) (zn 4)) (zaC (dOp zb8 (zm 5) (dCB zrD (ze (zm 10) zt))) (zn 5)))))))) (zbe (zrX (dOp (dIb fun i j=>decide (i < j)) (zm 5) (dOp dIx (zm 0) (dC (.int 1)))) (dOp (dIb fun i j=>decide (j < i)) (zm 4) (dOp dIx (zm 0) (dC (.int 2))))))))) (zcS S.length R) (xs.map some ++ List.replicate 7 none) S
def zbs:PN:=fun xs S R=>(zac (zdK (dOr (zgE (zge (dCB zh9 (ze (zm 1) (ze (dO (.ty "tuple")) zt))))) (dB (dOp (dIb fun i j=>decide (j < i)) (dCB zaB (ze (zm 1) zt)) (dCB zaB (ze (zm 0) zt))))) (zbe (dC (.bool false))) za0) (zbe (dCB zm0 (ze (zcO [none,none] (zfj (ze (zm 1) (ze (zm 0) zt))) (zdr 2 (zau (zn 0) (zau (zn 1) zdV))) zaN (zfx (zaw 1 zdb (ze (zm 0) zt)) (zhn (dIb fun i j=>decide (i <= j)) (dIb fun i j=>decide (i <= j)) (dC (.int 0)) (zm 0) (dCB zaB (ze (zm 1) zt))))) zt)))) (zcS S.length R) (xs.map some ++ List.replicate 0 none) S
def zce:PN:=fun xs S R=>(zac (zqk (zly false 2 (.t []) (zng (zl5 (fun M=>(zbU (zm 1))) (zn 3) (zne 2 (fun M=>(zm 3)) (fun M=>(dC (.bool true))))) (zl5 (fun M=>(zbU (zaw 1 zcl (ze (zm 0) zt)))) (zn 4) (zrZ (fun M=>(zgE (zge (dCB zrQ (ze (zcO [none,some 2,some 4] (zaP (ze (dOp zb8 (dCB zaB (ze (zm 0) zt)) (dC (.int 1))) zt)) (zn 0) zaN (dOp (zr1 M false) (dSl zms (zm 2) zaD (zc3 (zm 0))) (zm 1))) zt))))) (zg2 (zbe (dC (.bool false)))) (zg2 za0)))))) (zbe (dC (.bool true)))) (zcS S.length R) (xs.map some ++ List.replicate 3 none) S
def zck:PN:=fun xs S R=>(zac (zaC (zm 4) (zdr 2 (zau (zn 5) (zau (zn 6) zdV)))) (zac (zdK (dOr (zgE (zge (dCB zh9 (ze (zm 6) (ze (dO (.ty "tuple")) zt))))) (dB (dOp zgl (dCB zaB (ze (zm 6) zt)) (dC (.int 0))))) (zbe (dC (.bool false))) za0) (zac (zdK (dB (dOp zgl (dOp dIx (zm 6) (dC (.int 0))) (dC (.str "dear")))) (zbe (zfx (dOp zgl (dCB zaB (ze (zm 6) zt)) (dC (.int 1))) (dOp (dIb fun i j=>decide (j <= i)) (zaw 2 za9 (ze (zm 2) (ze (zm 5) zt))) (zm 3)))) za0) (zac (zdK (dOr (dB (dOp zmt (dOp dIx (zm 6) (dC (.int 0))) (dC (.str "off")))) (dOr (dB (dOp zmt (dCB zaB (ze (zm 6) zt)) (dC (.int 2)))) (dOr (zgE (zge (zaw 1 zdb (ze (dOp dIx (zm 6) (dC (.int 1))) zt)))) (dB (zj5 true (dOp dIx (zm 6) (dC (.int 1))) (ze (dCB zaB (ze (zm 0) zt)) zt)))))) (zbe (dC (.bool false))) za0) (zbe (zaw 4 zcJ (ze (dOp dIx (zm 0) (dOp dIx (zm 6) (dC (.int 1)))) (ze (zm 1) (ze (zm 2) (ze (zm 5) zt)))))))))) (zcS S.length R) (xs.map some ++ List.replicate 2 none) S
def zb1:PN:=fun xs S R=>(zac (zaC (zm 0) (zdr 2 (zau (zn 3) (zau (zn 4) zdV)))) (zac (zaC (zdJ (ze (zaG (ze (zm 3) (ze (zaG (ze (dC (.str "dear")) zt)) zt))) (ze (zaG (ze (zm 3) (ze (zaG (ze (dC (.str "off")) (ze (dC (.int 0)) zt))) zt))) (ze (zaG (ze (zm 3) (ze (zaG (ze (dC (.str "off")) (ze (dOp (dI0 fun i j=>i - j) (dCB zaB (ze (zm 1) zt)) (dC (.int 1))) zt))) zt))) (ze (zaG (ze (zm 3) (ze (zaG (ze (dC (.str "off")) (ze (dCB zaB (ze (zm 1) zt)) zt))) zt))) zt))))) (zn 5)) (zac (zaC (dOp zi5 (zm 5) (zcu (ze (zaG (ze (zm 3) (ze (zaG (ze (dC (.str "off")) (ze (dUn (dUI fun i=>-i) (dC (.int 1))) zt))) zt))) (ze (zaG (ze (zm 3) (ze (zaG (ze (dC (.str "off")) (ze (dC (.bool true)) zt))) zt))) (ze (zaG (ze (zm 3) (ze (zaG (ze (dC (.str "off")) zt)) zt))) (ze (zaG (ze (zm 3) (ze (zaG (ze (dC (.str "dear")) (ze (dC (.int 0)) zt))) zt))) zt)))))) (zn 5)) (zac (zej (dBM zcg (zm 5) (ze (zaG (ze (zm 3) (ze (dC (.str "dear")) zt))) zt))) (zac (zaC (dOp zi5 (zm 5) (zcu (ze (zaG (ze (zm 3) (ze (zcu (ze (dC (.str "dear")) zt)) zt))) (ze (zaG (ze (zm 3) (ze (zaG zt) zt))) (ze (zaG (ze (zm 3) (ze (dC .none) zt))) (ze (zaG (ze (zm 3) zt)) (ze (zaG (ze (zm 3) (ze (zm 4) (ze (zm 4) zt)))) (ze (zcu (ze (zm 3) (ze (zm 4) zt))) (ze (dC .none) (ze (zm 4) zt)))))))))) (zn 5)) (zac (zaC (dOp zi5 (zm 5) (zcu (ze (zaG (ze (dSl zms (zm 3) zaD (zc3 (dUn (dUI fun i=>-i) (dC (.int 1))))) (ze (zm 4) zt))) (ze (zaG (ze (dOp zb8 (zm 3) (zaG (ze (dC (.int 0)) zt))) (ze (zm 4) zt))) (ze (zaG (ze (dCB zjJ (ze (zm 3) zt)) (ze (zm 4) zt))) (ze (zaG (ze (dSl zms (zm 3) (zc3 (dC (.int 1))) zaD) (ze (zm 4) zt))) (ze (zaG (ze (zaG zt) (ze (zm 4) zt))) (ze (zaG (ze (dC .none) (ze (zm 4) zt))) zt)))))))) (zn 5)) (zac (zff (zbU (zcu (ze (dUn (dUI fun i=>-i) (dC (.int 1))) (ze (dC (.int 4)) (ze (dC (.bool true)) (ze (dC .none) (ze (dC (.str "0")) (ze (dC (.int 0)) (ze (dC (.int 1)) zt))))))))) (zn 6) (zej (dBM zcg (zm 5) (ze (zaG (ze (dOp zb8 (dSl zms (zm 3) zaD (zc3 (dUn (dUI fun i=>-i) (dC (.int 1))))) (zaG (ze (zm 6) zt))) (ze (zm 4) zt))) zt)))) (zbe (dOp dIx (zm 5) (zU 0 2 zx (ze (zm 2) (ze (dCB zaB (ze (zm 5) zt)) zt)))))))))))) (zcS S.length R) (xs.map some ++ List.replicate 4 none) S
def zc5:PN:=fun xs S R=>(zac (zdK (zgE (zge (dCB zh9 (ze (zm 4) (ze (dO (.ty "list")) zt))))) (zbe (dC (.bool false))) za0) (zac (zff (zbU (zm 4)) (zn 5) (zac (zdK (dOr (zgE (zge (dCB zh9 (ze (zm 5) (ze (dO (.ty "tuple")) zt))))) (dOr (dB (dOp zmt (dCB zaB (ze (zm 5) zt)) (dC (.int 2)))) (zgE (zge (zaw 2 zbs (ze (zm 2) (ze (dOp dIx (zm 5) (dC (.int 0))) zt))))))) (zbe (dC (.bool false))) za0) (zdK (zgE (zge (zaw 5 zck (ze (zm 0) (ze (zm 1) (ze (zm 2) (ze (zm 3) (ze (zm 5) zt)))))))) (zbe (dC (.bool false))) za0))) (zac (zff (zaP (ze (dOp (dI0 fun i j=>i - j) (dCB zaB (ze (zm 4) zt)) (dC (.int 1))) zt)) (zn 6) (zac (zaC (dOp dIx (dOp dIx (zm 4) (zm 6)) (dC (.int 0))) (zn 7)) (zac (zaC (dOp dIx (dOp dIx (zm 4) (dOp zb8 (zm 6) (dC (.int 1)))) (dC (.int 0))) (zn 8)) (zdK (dOr (dB (dOp zrU (zm 7) (zm 8))) (dB (dOp zgl (dSl zms (zm 8) zaD (zc3 (dCB zaB (ze (zm 7) zt)))) (zm 7)))) (zbe (dC (.bool false))) za0)))) (zbe (zaw 2 zce (ze (zm 2) (ze (zcO [none] (zbU (zm 4)) (zn 0) zaN (dOp dIx (zm 0) (dC (.int 0)))) zt))))))) (zcS S.length R) (xs.map some ++ List.replicate 4 none) S
def zcs:PN:=fun xs S R=>(zac (zaC (zU 0 2 zx (ze (zm 2) (ze (dCB zaB (ze (zm 0) zt)) zt))) (zn 3)) (zac (zdK (dB (dOp zgl (zU 0 2 zx (ze (zm 2) (ze (dC (.int 2)) zt))) (dC (.int 0)))) (zbe (dOp zb8 (dOp zb8 (dSl zhp (zm 0) zaD (zc3 (zm 3))) (zcu (ze (zU 2 3 zb1 (ze (dOp dIx (zm 0) (zm 3)) (ze (zm 1) (ze (zm 2) zt)))) zt))) (dSl zhp (zm 0) (zc3 (dOp zb8 (zm 3) (dC (.int 1)))) zaD))) za0) (zac (zaC (zcu (ze (dOp zb8 (dSl zhp (zm 0) zaD (zc3 (zm 3))) (dSl zhp (zm 0) (zc3 (dOp zb8 (zm 3) (dC (.int 1)))) zaD)) (ze (dOp zb8 (dSl zhp (zm 0) zaD (zc3 (dOp zb8 (zm 3) (dC (.int 1))))) (dSl zhp (zm 0) (zc3 (zm 3)) zaD)) (ze (zrP (zm 0) (dUn (dUI fun i=>-i) (dC (.int 1)))) (ze (dCB zcP (ze (zm 0) zt)) (ze (zcu zt) (ze (dC .none) (ze (dC (.dict [])) (ze (dOp zb8 (zm 0) (zcu (ze (dC .none) zt))) zt))))))))) (zn 4)) (zac (zaC (dOp zb8 (zm 4) (zcu (ze (dOp zb8 (dSl zhp (zm 0) (zc3 (zm 3)) zaD) (dSl zhp (zm 0) zaD (zc3 (zm 3)))) (ze (dOp zb8 (zm 0) (zcu (ze (dOp dIx (zm 0) (dC (.int 0))) zt))) (ze (zcu (ze (zaG (ze (zaG zt) (ze (zaG (ze (dC (.str "dear")) zt)) zt))) zt)) (ze (zcu (ze (zaG (ze (zaG zt) (ze (zaG (ze (dC (.str "off")) (ze (dC (.int 0)) zt))) zt))) zt)) (ze (dC (.str "")) (ze (dOp dIx (zm 0) (zm 3)) zt)))))))) (zn 4)) (zbe (dOp dIx (zm 4) (zU 0 2 zx (ze (zm 2) (ze (dCB zaB (ze (zm 4) zt)) zt))))))))) (zcS S.length R) (xs.map some ++ List.replicate 2 none) S
def zbt:PN:=fun xs S R=>(zac (zdK (dB (dOp zgl (zm 5) (zaG (ze (dC (.str "dear")) zt)))) (zbe (dOp (dIb fun i j=>decide (j <= i)) (zaw 2 zcD (ze (zm 2) (ze (zm 4) zt))) (zm 3))) za0) (zac (zdK (dOr (zgE (zge (dCB zh9 (ze (zm 5) (ze (dO (.ty "tuple")) zt))))) (dOr (dB (dOp zmt (dCB zaB (ze (zm 5) zt)) (dC (.int 2)))) (dB (dOp zmt (dOp dIx (zm 5) (dC (.int 0))) (dC (.str "off")))))) (zbe (dC (.bool false))) za0) (zac (zdK (dOr (zgE (zge (zaw 1 zdM (ze (dOp dIx (zm 5) (dC (.int 1))) zt)))) (zgE (dB (zhn (dIb fun i j=>decide (i <= j)) (dIb fun i j=>decide (i < j)) (dC (.int 0)) (dOp dIx (zm 5) (dC (.int 1))) (dCB zaB (ze (dOp dIx (zm 0) (dC (.int 1))) zt)))))) (zbe (dC (.bool false))) za0) (zbe (zaw 2 zf2 (ze (zaw 4 zbp (ze (dOp dIx (zm 0) (dC (.int 0))) (ze (zm 1) (ze (zm 2) (ze (zm 4) zt))))) (ze (dOp dIx (dOp dIx (zm 0) (dC (.int 1))) (dOp dIx (zm 5) (dC (.int 1)))) zt))))))) (zcS S.length R) (xs.map some ++ List.replicate 0 none) S
def zd0:PN:=fun xs S R=>(zac (zdK (zgE (zge (zaw 2 zeB (ze (zaw 1 zey (ze (zaw 1 zdR (ze (zm 2) zt)) zt)) (ze (zm 4) zt))))) (zbe (dC (.bool false))) za0) (zbe (dCB zm0 (ze (zcO [none,none,some 0,some 1,some 2,some 3] (zbU (zm 4)) (zdr 2 (zau (zn 0) (zau (zn 1) zdV))) zaN (zaw 6 zbt (ze (zm 2) (ze (zm 3) (ze (zm 4) (ze (zm 5) (ze (zm 0) (ze (zm 1) zt)))))))) zt)))) (zcS S.length R) (xs.map some ++ List.replicate 0 none) S
def zbw:PN:=fun xs S R=>(zac (zaC (zaw 5 zc5 (ze (zm 1) (ze (zm 2) (ze (zm 3) (ze (zm 4) (ze (zm 5) zt)))))) (zn 6)) (zac (zaC (zaw 5 zd0 (ze (zaG (ze (zm 0) (ze (zm 1) zt))) (ze (zm 2) (ze (zm 3) (ze (zm 4) (ze (zm 5) zt)))))) (zn 7)) (zbe (zfx (dCB zh9 (ze (zm 7) (ze (dO (.ty "bool")) zt))) (dOp zgl (zm 7) (zm 6)))))) (zcS S.length R) (xs.map some ++ List.replicate 2 none) S
def zax:Nat->PN
 | 0=>fun _ _ _=>False
 | n + 1=>fun xs S R=>(zac (zdK (dB (dOp (dIb fun i j=>decide (j <= i)) (zaw 2 za9 (ze (zm 2) (ze (zm 4) zt))) (zm 3))) (zbe (zdJ (ze (zaG (ze (zm 4) (ze (zaG (ze (dC (.str "dear")) zt)) zt))) zt))) za0) (zac (zaC (zcO [none,some 1,some 2,some 4,some 0] (zaP (ze (dCB zaB (ze (zm 0) zt)) zt)) (zn 0) (zge (zaw 4 zcJ (ze (dOp dIx (zm 4) (zm 0)) (ze (zm 1) (ze (zm 2) (ze (zm 3) zt)))))) (zm 0)) (zn 5)) (zac (zdK (dB (dOp zmt (zm 5) (zcu zt))) (zbe (zdJ (ze (zaG (ze (zm 4) (ze (zaG (ze (dC (.str "off")) (ze (dOp dIx (zm 5) (dUn (dUI fun i=>-i) (dC (.int 1)))) zt))) zt))) zt))) za0) (zac (zdK (dB (dOp zgl (dCB zaB (ze (zm 4) zt)) (dCB zaB (ze (zm 2) zt)))) (zbe (zdJ (ze (zaG (ze (zm 4) (ze (zaG (ze (dC (.str "off")) (ze (dC (.int 0)) zt))) zt))) zt))) za0) (zac (zaC (zdJ zt) (zn 6)) (zac (zff (zaP (ze (dOp zb8 (dCB zaB (ze (dOp dIx (zm 2) (dCB zaB (ze (zm 4) zt))) zt)) (dC (.int 1))) zt)) (zn 7) (zej (dBM zgo (zm 6) (ze (zaw 5 (zax n) (ze (zm 0) (ze (zm 1) (ze (zm 2) (ze (zm 3) (ze (dOp zb8 (zm 4) (zaG (ze (zm 7) zt))) zt)))))) zt)))) (zbe (zm 6)))))))) (zcS S.length R) (xs.map some ++ List.replicate 3 none) S
def zc0:PN:=zax 160
def zi4:DS:=(zac (zaC (zaG (ze (zaG (ze (dC (.str "a")) (ze (dC (.int 0)) (ze (dC (.int 2)) zt)))) zt)) (zn 1)) (zac (zaC (zaG (ze (zaG (ze (zaG (ze (zaG (ze (dC (.int 0)) (ze (dC (.int 1)) zt))) zt)) (ze (dC (.int 0)) (ze (dC (.int 0)) zt)))) zt)) (zn 2)) (zff (zbU (zcu (ze (zcu zt) (ze (zcu (ze (zaG (ze (zaG zt) (ze (zaG (ze (dC (.str "off")) (ze (dC (.int 0)) zt))) zt))) zt)) (ze (zcu (ze (zaG (ze (zaG (ze (dC (.int 0)) zt)) (ze (zaG (ze (dC (.str "off")) (ze (dC (.int 0)) zt))) zt))) (ze (zaG (ze (zaG (ze (dC (.int 1)) zt)) (ze (zaG (ze (dC (.str "dear")) zt)) zt))) zt))) (ze (zcu (ze (zaG (ze (zaG zt) (ze (zaG (ze (dC (.str "dear")) zt)) zt))) zt)) zt)))))) (zn 3) (zff (zbU (zcu (ze (dC (.int 0)) (ze (dC (.int 1)) (ze (dC (.int 2)) (ze (dC (.int 5)) zt)))))) (zn 4) (zdK (zgE (zge (zaw 6 zbw (ze (zm 1) (ze (zm 2) (ze (zaG (ze (dC (.int 2)) zt)) (ze (zaG (ze (zaG (ze (zaG (ze (dC (.int 2)) (ze (dC (.int 5)) zt))) zt)) zt)) (ze (zm 4) (ze (zm 3) zt))))))))) (zbe (dC (.bool false))) za0)))))
def zpo:DS:=(zac (zaC (zaw 1 zdx (ze (zm 5) zt)) (zn 6)) (zac (zaC (zU 0 2 zei (ze (zm 6) (ze (dC (.int 4)) zt))) (zn 7)) (zac (zaC (zU 0 2 zcI (ze (zm 6) (ze (zm 7) zt))) (zn 8)) (zac (zdK (dB (dOp (dIb fun i j=>decide (j < i)) (dCB zaB (ze (zm 7) zt)) (dC (.int 4)))) (zaC (dCB zcP (ze (zcO [none] (zbU (zm 8)) (zn 0) zaN (dSl zms (zm 0) zaD (zc3 (dC (.int 1))))) zt)) (zn 8)) za0) (zac (zaC (zU 0 2 zfr (ze (zm 6) (ze (zm 7) zt))) (zn 9)) (zac (zaC (zU 0 4 zdu (ze (zm 6) (ze (zm 7) (ze (zm 9) (ze (zm 8) zt))))) (zn 2)) (zac (zaC (dOp (dI0 fun i j=>i - j) (zU 0 2 zx (ze (zm 6) (ze (dC (.int 16)) zt))) (dC (.int 1))) (zn 4)) (zac (zaC (zaw 5 zc0 (ze (zm 2) (ze (zm 9) (ze (zm 8) (ze (zm 4) (ze (zaG zt) zt)))))) (zn 10)) (zff (zbU (dOp zb8 (dOp zb8 (zcu (ze (zm 10) zt)) (zcO [none,some 10,some 2,some 6] (zaP (ze (dC (.int 4)) zt)) (zn 0) zaN (zU 2 3 zcs (ze (zm 1) (ze (zm 2) (ze (zm 3) zt)))))) (zcu (ze (zm 10) zt)))) (zn 3) (zff (zhT (ze (dUn (dUI fun i=>-i) (dC (.int 1))) (ze (dC (.int 2)) zt))) (zn 11) (zdK (zgE (zge (zaw 6 zbw (ze (zm 7) (ze (zm 2) (ze (zm 9) (ze (zm 8) (ze (dOp zb8 (zm 4) (zm 11)) (ze (zm 3) zt))))))))) (zbe (dC (.bool false))) za0)))))))))))
end My
namespace My
open PySem L2
theorem seq1 {t u:DS} {E:DEnds} {δ:XE} {S:Sto} (h:t { E with nx:=u E } δ S):zac t u E δ S:=h
theorem seqm {t u:DSm} {E:DEndsM} {δ:XE} {S:Sto} {M:DM} (h:t { E with nx:=u E } δ S M):zng t u E δ S M:=h
theorem cut {t u:DS} {E:DEnds} {δ:XE} {S:Sto} (I:XE->Sto->Prop) (h1:∀ N:XE->Sto->Prop,(∀ δ' S',I δ' S'->N δ' S')->t { E with nx:=N } δ S) (h2:∀ δ' S',I δ' S'->u E δ' S'):zac t u E δ S:=h1 _ h2
theorem zja (i j:Int):PyData.eqv (.int i) (.int j) = decide (i = j):=rfl
theorem zjP (i j:Bool):PyData.eqv (.bool i) (.bool j) = decide (i = j):=by cases i <;> cases j <;> rfl
theorem zrv (i:Int):SeqAt.shaped (.int i) = true:=rfl
theorem zp5 (i:Bool):SeqAt.shaped (.bool i) = true:=rfl
theorem zkV:("int" ∈ zmF) = True:=eq_true (by decide)
theorem zjR:("bool" ∈ zmF) = True:=eq_true (by decide)
theorem zio:("tuple" ∈ zmF) = True:=eq_true (by decide)
theorem zjG:("list" ∈ zmF) = True:=eq_true (by decide)
end My
namespace My
open PySem L2
local macro_rules | `(tactic| walk_at "d")=>`(tactic| (try simp -implicitDefEqProofs only [zaC,zmR,List.all_cons,List.all_nil,Bool.and_self,zls,znZ,zqk,zly,zg2,zrZ,zl5,zne,zr1,zma,zj5,znL,zqb,zol,zrM,zms,zn,zm,dC,dO,dOp,dUn,zt,ze,dCB,zaG,zcu,zdJ,dB,zgE,dOr,zfx,zrX,zmh,dIf,zhn,dI,dI0,dIb,dUI,zgl,zmt,zrL,zrJ,zqv,zqq,zqr,zoo,znA,zn4,znK,znR,zor,zl0,znM,zob,zow,dFd,zge,znW,zon,zaD,zc3,dSl,zaB,znN,znO,zn6,zh9,zni,dI2,zcP,zjJ,zhL,dBM,zrR,zrY,zcg,zf0,zgo,zsI,zmH,zi5,zqm,zm0,zrQ,zaw,zU,zrb,zre,zqJ,zqP,asL,znG,znJ,zq8,zqn,zri,zqz,zmf,zk9,zn9,zom,zoc,zqd,zqL,zlt,zot,zok,znS,znB,zbe,zdK,zej,za0,zod,zff,zbU,zoe,zn3,zaP,zhT,zlb,zfj,zdr,zau,zqO,zqY,zrt,zq9,zp3,zra,zdV,zks,zcO,zfK,zaN,zmJ,zqK,zgy,zkb,zjF,zjS,zi1,zhf,List.replicate,List.map_cons,List.map_nil,Option.map_some,Option.bind_some,Option.bind_none,Option.join_some,List.getElem?_cons_zero,List.getElem?_cons_succ,List.set_cons_zero,List.set_cons_succ,List.take_succ_cons,List.take_zero,List.take_nil,List.length_cons,List.length_nil,List.nil_append,List.cons_append,Option.some.injEq,exists_eq_left',exists_eq_left,List.cons.injEq,XV.d.injEq,XV.l.injEq,XV.o.injEq,PyData.int.injEq,PyData.list.injEq,PyData.tuple.injEq,PyData.bool.injEq,PyData.str.injEq,and_true,true_and,decide_eq_true_eq,Bool.not_true,Bool.not_false,Bool.false_eq_true,Bool.true_eq_false,not_true_eq_false,not_false_eq_true,↓reduceIte,decide_true,decide_false,Bool.not_eq_true',zmS,decide_eq_false_iff_not,Nat.reduceAdd,Nat.reduceMul,Nat.zero_add,Nat.reduceLT,Nat.reduceLeDiff,Nat.reduceEqDiff,Int.reduceLT,Int.reduceLE,Int.reduceNeg,Int.reducePow,Int.reduceToNat,Int.reduceEq,Int.reduceAdd,Int.reduceSub,Int.reduceMul,Nat.le_refl,Nat.zero_le,List.length_append,List.length_map,zja,zjP,zrv,zp5,List.isEmpty_nil,List.isEmpty_cons,Int.cast_ofNat_Int,Int.natCast_zero,Int.natCast_one,zkV,zjR,zio,zjG,zlU,zjQ,ziI,zjN,zrP,zmk,zrU]))
local macro_rules | `(tactic| walk_at "e")=>`(tactic| (try simp -implicitDefEqProofs only [zac,zaC,zmR,List.all_cons,List.all_nil,Bool.and_self,zls,znZ,zqk,zly,zg2,zng,zrZ,zl5,zne,zr1,zma,zj5,znL,zqb,zol,zrM,zms,zn,zm,dC,dO,dOp,dUn,zt,ze,dCB,zaG,zcu,zdJ,dB,zgE,dOr,zfx,zrX,zmh,dIf,zhn,dI,dI0,dIb,dUI,zgl,zmt,zrL,zrJ,zqv,zqq,zqr,zoo,znA,zn4,znK,znR,zor,zl0,znM,zob,zow,dFd,zge,znW,zon,zaD,zc3,dSl,zaB,znN,znO,zn6,zh9,zni,dI2,zcP,zjJ,zhL,dBM,zrR,zrY,zcg,zf0,zgo,zsI,zmH,zi5,zqm,zm0,zrQ,zaw,zU,zrb,zre,zqJ,zqP,asL,znG,znJ,zq8,zqn,zri,zqz,zmf,zk9,zn9,zom,zoc,zqd,zqL,zlt,zot,zok,znS,znB,zbe,zdK,zej,za0,zod,zff,zbU,zoe,zn3,zaP,zhT,zlb,zfj,zdr,zau,zqO,zqY,zrt,zq9,zp3,zra,zdV,zks,zcO,zfK,zaN,zmJ,zqK,zgy,zkb,zjF,zjS,zi1,zhf,List.replicate,List.map_cons,List.map_nil,Option.map_some,Option.bind_some,Option.bind_none,Option.join_some,List.getElem?_cons_zero,List.getElem?_cons_succ,List.set_cons_zero,List.set_cons_succ,List.take_succ_cons,List.take_zero,List.take_nil,List.length_cons,List.length_nil,List.nil_append,List.cons_append,Option.some.injEq,exists_eq_left',exists_eq_left,List.cons.injEq,XV.d.injEq,XV.l.injEq,XV.o.injEq,PyData.int.injEq,PyData.list.injEq,PyData.tuple.injEq,PyData.bool.injEq,PyData.str.injEq,and_true,true_and,decide_eq_true_eq,Bool.not_true,Bool.not_false,Bool.false_eq_true,Bool.true_eq_false,not_true_eq_false,not_false_eq_true,↓reduceIte,decide_true,decide_false,Bool.not_eq_true',zmS,decide_eq_false_iff_not,Nat.reduceAdd,Nat.reduceMul,Nat.zero_add,Nat.reduceLT,Nat.reduceLeDiff,Nat.reduceEqDiff,Int.reduceLT,Int.reduceLE,Int.reduceNeg,Int.reducePow,Int.reduceToNat,Int.reduceEq,Int.reduceAdd,Int.reduceSub,Int.reduceMul,Nat.le_refl,Nat.zero_le,List.length_append,List.length_map,zja,zjP,zrv,zp5,List.isEmpty_nil,List.isEmpty_cons,Int.cast_ofNat_Int,Int.natCast_zero,Int.natCast_one,zkV,zjR,zio,zjG,zlU,zjQ,ziI,zjN,zrP,zmk,zrU]))
section
variable {R:RX}
theorem zgO {n:Int} (q:∀ m,0 <= m->R (.d (.int m)) []):zdN [.d (.int n)] [] R:=by
 unfold zdN
 walk_at "e"
 have h1:=Int.emod_nonneg (n + 7919) (show (2147483647:Int) ≠ 0 by decide)
 have h2:=Int.emod_lt_of_pos (n + 7919) (show (0:Int) < 2147483647 by decide)
 exact ⟨ze8 (by omega) (by omega),ze8 (by decide) (by decide),q _ (Int.emod_nonneg _ (by decide))⟩
theorem zD {p:List PyData} {n:Int} (hp:za6 p) (hn:0 < n) (hb:n.natAbs.log2 < 9000) (q:∀ r p',0 <= r->r < n->za6 p'->R (.d (.int r)) [p']):zx [.l 0,.d (.int n)] [p] R:=by
 obtain ⟨l,g,sd,rfl,hl⟩:=hp
 unfold zx
 walk_at "e"
 split
 ·refine ⟨hn,.inl ⟨⟨hn,hb⟩,0,rfl,?_⟩⟩
  walk_at "e"
  exact q _ _ (Int.emod_nonneg _ (by omega)) (Int.emod_lt_of_pos _ hn) ⟨_,_,_,rfl,Int.ediv_nonneg hl (by omega)⟩
 ·refine zgO fun m _=>?_
  walk_at "e"
  refine zgO fun m' h'=>?_
  walk_at "e"
  refine ⟨2,rfl,?_⟩
  walk_at "e"
  exact .inl ⟨⟨by decide,by decide +kernel⟩,hn,q _ _ (Int.emod_nonneg _ (by omega)) (Int.emod_lt_of_pos _ hn) ⟨_,_,_,rfl,hl⟩⟩
theorem zhM {n:Int} (q:∀ p,za6 p->R (.l 0) [p]):zdx [.d (.int n)] [] R:=by
 unfold zdx
 walk_at "e"
 refine ⟨⟨by decide,by decide,by decide⟩,?_⟩
 refine .inr (q _ ⟨_,_,_,rfl,?_⟩)
 split <;> omega
theorem zfV {p:List PyData} (hp:za6 p) (q:∀ r p',-10 ^ 58 <= r->r <= 10 ^ 58->za6 p'->R (.d (.int r)) [p']):zbz [.l 0] [p] R:=by
 unfold zbz
 walk_at "e"
 refine zD hp (by decide) (by decide +kernel) fun r p1 r0 r1 hp1=>?_
 walk_at "e"
 split
 ·refine zD hp1 (by decide) (by decide +kernel) fun r p2 r0 r1 hp2=>?_
  walk_at "e"
  exact q _ _ (by omega) (by omega) hp2
 ·split
  ·refine zD hp1 (by decide) (by decide +kernel) fun r p2 r0 r1 hp2=>?_
   walk_at "e"
   exact q _ _ (by omega) (by omega) hp2
  ·refine ⟨⟨by decide,by decide,by decide⟩,ze8 (by decide) (by decide),?_⟩
   have k1:(10:Int) ^ 30 = 1000000000000000000000000000000:=by decide +kernel
   have k2:(10:Int) ^ 28 = 10000000000000000000000000000:=by decide +kernel
   refine zD hp1 (by decide +kernel) (by decide +kernel) fun r p2 r0 r1 hp2=>?_
   walk_at "e"
   try simp only [k1,k2] at r1 ⊢
   refine ⟨⟨by decide,by decide,by decide⟩,⟨by decide,by decide,by decide⟩,zsB 128 128 (by omega) (by decide +kernel),q _ _ (by omega) (by omega) hp2⟩
end
section
variable {R:RX}
theorem zqB {α:Type} [Inhabited α] {l:List α} {i:Int} (h0:0 <= i) (h1:i < l.length) (d:α):atI l i = some (l.getD i.toNat d):=by
 obtain ⟨k,rfl⟩:=Int.eq_ofNat_of_zero_le h0
 have hk:k < l.length:=by omega
 rw [zcp (List.getElem?_eq_getElem hk)]
 simp [List.getD_eq_getElem?_getD,hk]
theorem zjX:("abcdefghijklmnopqrstuvwxyz":Str).length = 26:=by decide
theorem zm8:("abcdefghijklmnopqrstuvwxyz":Str).cps.toList.length = 26:=by rw [<- zjX]; simp [Str.length]
theorem zil:("abcdefghijklmnopqrstuvwxyz":Str).length <= sizeLine:=Nat.le_of_lt (small1000 (by rw [zjX]; decide))
theorem len1 (c:Nat):(⟨#[c]⟩:Str).length = 1:=rfl
abbrev lsgn (i:Int):Str:=⟨#[("abcdefghijklmnopqrstuvwxyz":Str).cps.toList.getD i.toNat 0]⟩
theorem zlZ {i:Int} (h0:0 <= i) (h1:i < 26):atI ("abcdefghijklmnopqrstuvwxyz":Str).cps.toList i = some (("abcdefghijklmnopqrstuvwxyz":Str).cps.toList.getD i.toNat 0):=zqB h0 (by rw [zm8]; exact h1) 0
theorem zlA {ds:List PyData} {a b:Option Int} {d:PyData} (m:d ∈ zc7 ds a b):d ∈ ds:=by
 unfold zc7 at m
 exact List.mem_of_mem_drop (List.mem_of_mem_take m)
def zfO (z:Str):Bool:=decide (z.length <= 100) && PyData.strOk z && !decide (z = "zy")
theorem zqe:∀ f < 26,∀ k < 8,zfO (PySem.Txt.mul (lsgn (((f:Nat) + 5 * (0 + ((k:Nat):Int))) % 26)) (1 + ((f:Nat) + 3 * (0 + ((k:Nat):Int))) % 8)) = true:=by decide +kernel
theorem zqV:∀ f < 26,∀ k < 8,zfO (PySem.Txt.slice (PySem.Txt.join "" ((List.range 8).map fun k:Nat=>lsgn (((f:Nat) + 7 * (0 + (k:Int))) % 26))) none (some (0 + ((k:Nat):Int) + 1))) = true:=by decide +kernel
theorem zpj {ds:List PyData} (h:∀ d ∈ ds,∃ z:Str,d = .str z/\zfO z = true):∃ zs:List Str,ds = zs.map PyData.str/\zs.length = ds.length/\∀ z ∈ zs,zfO z = true:=by
 induction ds with
 | nil=>exact ⟨[],rfl,rfl,by simp⟩
 | cons d ds ih =>
  obtain ⟨z,rfl,hz⟩:=h d List.mem_cons_self
  obtain ⟨zs,rfl,hl,hzs⟩:=ih fun d m=>h d (List.mem_cons_of_mem _ m)
  refine ⟨z :: zs,rfl,by simp,fun y m=>?_⟩
  rcases List.mem_cons.mp m with rfl | m
  ·exact hz
  ·exact hzs y m
theorem zlm (a b:Str):(a ++ b).length = a.length + b.length:=strLen_append a b
theorem ziS:∀ zs:List Str,(∀ z ∈ zs,z.length <= 1)->(Str.join "" zs).length <= zs.length
 | [],_=>Nat.le_refl 0
 | [a],h=>h a List.mem_cons_self
 | a :: b :: r,h=>by
  show (a ++ "" ++ Str.join "" (b :: r)).length <= _
  rw [zlm,zlm]
  have e:("":Str).length = 0:=rfl
  have h1:=h a List.mem_cons_self
  have h2:=ziS (b :: r) fun z m=>h z (List.mem_cons_of_mem _ m)
  rw [e]
  simp only [List.length_cons] at h2 ⊢
  omega
def zib (ds:List PyData):Prop:=∀ d ∈ ds,∃ z:Str,d = .str z/\zfO z = true
theorem zjk {ds:List PyData} {a:Int} (h0:0 <= a) (h1:a <= ds.length):(zc7 ds (some a) none ++ zc7 ds none (some a)).length = ds.length:=by
 obtain ⟨k,rfl⟩:=Int.eq_ofNat_of_zero_le h0
 have e1:HT.sIx ds.length 0 (some (k:Int)) = k:=by rw [HT.sIx_nat]; omega
 have e2:HT.sIx ds.length ds.length (some (k:Int)) = k:=by rw [HT.sIx_nat]; omega
 have e3:HT.sIx ds.length ds.length none = ds.length:=rfl
 have e4:HT.sIx ds.length 0 none = 0:=rfl
 unfold zc7
 rw [e1,e2,e3,e4,List.length_append,List.length_take,List.length_take,List.length_drop,List.length_drop]
 omega
def zmb:List Str:=["part","gap","cut","a","aa","dear","b","keeps"]
set_option maxHeartbeats 8000000 in
theorem zgq {p:List PyData} (hp:za6 p) (q:∀ (ns:List Str) p',ns.length = 8->(∀ z ∈ ns,zfO z = true)->za6 p'->R (.d (.list (ns.map PyData.str))) [p']):zbQ [.l 0] [p] R:=by
 unfold zbQ
 walk_at "d"
 (refine seq1 ?_; walk_at "d")
 (refine seq1 ?_; walk_at "d")
 refine zD hp (by decide) (by decide +kernel) fun way p1 w0 w1 hp1=>?_
 walk_at "d"
 (refine seq1 ?_; walk_at "d")
 refine zD hp1 (by decide) (by decide +kernel) fun fst p2 f0 f1 hp2=>?_
 walk_at "d"
 refine cut (fun δ' S'=>∃ (ds:List PyData),zib ds/\ds.length = 8/\S' = [p2,ds]/\δ' = [some (.l 0),some (.d (.str ("abcdefghijklmnopqrstuvwxyz":Str))),some (.d (.int way)),some (.d (.int fst)),some (.l 1),none,none]) (fun N hN=>?_) ?_
 ·walk_at "d"
  refine cmp1 (S0:=[p2]) (fun k:Nat=>.str (PySem.Txt.mul (lsgn ((fst + 5 * (0 + k)) % 26)) (1 + (fst + 3 * (0 + k)) % 8))) rfl (List.range 8) (by simp) ?_ ?_
  ·intro k mk u acc R' hk
   have b1:=Int.emod_nonneg (fst + 5 * (0 + (k:Int))) (show (26:Int) ≠ 0 by decide)
   have b2:=Int.emod_lt_of_pos (fst + 5 * (0 + (k:Int))) (show (0:Int) < 26 by decide)
   have b3:=Int.emod_nonneg (fst + 3 * (0 + (k:Int))) (show (8:Int) ≠ 0 by decide)
   have b4:=Int.emod_lt_of_pos (fst + 3 * (0 + (k:Int))) (show (0:Int) < 8 by decide)
   walk_at "d"
   refine ⟨ze8 (by decide) (by decide),zil,_,zlZ b1 b2,?_⟩
   walk_at "d"
   refine ⟨ze8 (by decide) (by decide),?_⟩
   walk_at "d"
   exact ⟨by rw [len1]; decide,by omega,by omega,hk _⟩
  ·refine hN _ _ ⟨_,?_,by simp,rfl,rfl⟩
   intro d m
   obtain ⟨k,mk,rfl⟩:=List.mem_map.mp m
   obtain ⟨f,rfl⟩:=Int.eq_ofNat_of_zero_le f0
   exact ⟨_,rfl,zqe f (by omega) k (List.mem_range.mp mk)⟩
 rintro _ _ ⟨ds,hds,hl,rfl,rfl⟩
 refine cut (fun δ' S'=>∃ (ds:List PyData) (T:Sto) (k:Nat) (u:Option XV),zib ds/\ds.length = 8/\T[k]? = some ds/\S' = p2 :: T/\δ' = [some (.l 0),some (.d (.str ("abcdefghijklmnopqrstuvwxyz":Str))),some (.d (.int way)),some (.d (.int fst)),some (.l (k + 1)),u,none]) (fun N hN=>?_) ?_
 ·walk_at "d"
  split
  ·refine seq1 ?_
   walk_at "d"
   refine cmp1 (S0:=[p2,ds]) (fun k:Nat=>.str (lsgn ((fst + 7 * (0 + k)) % 26))) rfl (List.range 8) (by simp) ?_ ?_
   ·intro k mk u acc R' hk
    have b1:=Int.emod_nonneg (fst + 7 * (0 + (k:Int))) (show (26:Int) ≠ 0 by decide)
    have b2:=Int.emod_lt_of_pos (fst + 7 * (0 + (k:Int))) (show (0:Int) < 26 by decide)
    walk_at "d"
    refine ⟨ze8 (by decide) (by decide),zil,_,zlZ b1 b2,?_⟩
    exact hk _
   ·walk_at "d"
    refine ⟨(List.range 8).map fun k:Nat=>lsgn ((fst + 7 * (0 + k)) % 26),by rw [List.map_map]; rfl,by decide,by simp,fun y m=>?_,?_⟩
    ·obtain ⟨k,_,rfl⟩:=List.mem_map.mp m
     show 1 <= 1000
     decide
    ·have wl:(PySem.Txt.join "" ((List.range 8).map fun k:Nat=>lsgn ((fst + 7 * (0 + k)) % 26))).length <= 8 * 1016:=by
      have:=zmT (y:=("":Str)) (zs:=(List.range 8).map fun k:Nat=>lsgn ((fst + 7 * (0 + k)) % 26)) (by decide) (fun y m=>by
       obtain ⟨k,_,rfl⟩:=List.mem_map.mp m
       show 1 <= 1000
       decide)
      simpa using this
     have wl':(PySem.Txt.join "" ((List.range 8).map fun k:Nat=>lsgn ((fst + 7 * (0 + k)) % 26))).length <= 8:=by
      show (Builtin.Str.glued _ _).length <= _
      rw [StrLaws.glued_eq_join]
      have:=ziS ((List.range 8).map fun k:Nat=>lsgn ((fst + 7 * (0 + k)) % 26)) (fun y m=>by
       obtain ⟨k,_,rfl⟩:=List.mem_map.mp m
       exact Nat.le_refl 1)
      simpa using this
     walk_at "d"
     refine cmp1 (S0:=[p2,ds]) (fun k:Nat=>.str (PySem.Txt.slice (PySem.Txt.join "" ((List.range 8).map fun k:Nat=>lsgn ((fst + 7 * (0 + k)) % 26))) none (some (0 + k + 1)))) rfl (List.range 8) (by simp) ?_ ?_
     ·intro k mk u acc R' hk
      walk_at "d"
      exact ⟨Nat.le_trans wl (by rw [sizeLine_eq]; decide),hk _⟩
     ·refine hN _ _ ⟨_,[ds,_],1,_,?_,?_,rfl,rfl,rfl⟩
      ·intro d m
       obtain ⟨k,mk,rfl⟩:=List.mem_map.mp m
       obtain ⟨f,rfl⟩:=Int.eq_ofNat_of_zero_le f0
       exact ⟨_,rfl,zqV f (by omega) k (List.mem_range.mp mk)⟩
      ·simp
  ·exact hN _ _ ⟨ds,[ds],0,none,hds,hl,rfl,rfl,rfl⟩
 rintro _ _ ⟨ds,T,k,u,hds,hl,hk,rfl,rfl⟩
 refine cut (fun δ' S'=>∃ (ds:List PyData) (T:Sto) (k:Nat),zib ds/\ds.length = 8/\T[k]? = some ds/\S' = p2 :: T/\δ' = [some (.l 0),some (.d (.str ("abcdefghijklmnopqrstuvwxyz":Str))),some (.d (.int way)),some (.d (.int fst)),some (.l (k + 1)),u,none]) (fun N hN=>?_) ?_
 ·walk_at "d"
  split
  ·refine hN _ _ ⟨zmb.map PyData.str,T ++ [zmb.map PyData.str],T.length,?_,rfl,by rw [List.getElem?_concat_length],rfl,rfl⟩
   intro d m
   obtain ⟨z,hz,rfl⟩:=List.mem_map.mp m
   refine ⟨z,rfl,?_⟩
   simp only [zmb,List.mem_cons,List.not_mem_nil,or_false] at hz
   rcases hz with rfl | rfl | rfl | rfl | rfl | rfl | rfl | rfl <;> decide +kernel
  ·exact hN _ _ ⟨ds,T,k,hds,hl,hk,rfl,rfl⟩
 rintro _ _ ⟨ds,T,k,hds,hl,hk,rfl,rfl⟩
 (refine seq1 ?_; walk_at "d")
 refine zD hp2 (by decide) (by decide +kernel) fun at' p3 a0 a1 hp3=>?_
 walk_at "d"
 (refine seq1 ?_; walk_at "d")
 refine ⟨ds,hk,ds,hk,?_⟩
 have hc:=zjk (ds:=ds) a0 (by omega)
 rw [List.length_append] at hc
 refine ⟨by omega,?_⟩
 have hk2:(T ++ [zc7 ds (some at') none ++ zc7 ds none (some at')])[T.length]? = some (zc7 ds (some at') none ++ zc7 ds none (some at')):=by rw [List.getElem?_concat_length]
 have hs2:zib (zc7 ds (some at') none ++ zc7 ds none (some at')):=fun d m=>(List.mem_append.mp m).elim (fun m=>hds d (zlA m)) fun m=>hds d (zlA m)
 have hl2:(zc7 ds (some at') none ++ zc7 ds none (some at')).length = 8:=by rw [List.length_append]; omega
 generalize zc7 ds (some at') none ++ zc7 ds none (some at') = es at hk2 hs2 hl2 ⊢
 refine seq1 ?_
 walk_at "d"
 refine zD hp3 (by decide) (by decide +kernel) fun r p4 r0 r1 hp4=>?_
 walk_at "d"
 have fin':∀ (fs:List PyData),zib fs->fs.length = 8->R (.d (.list fs)) [p4]:=by
  intro fs h1 h2
  obtain ⟨zs,rfl,z1,z2⟩:=zpj h1
  exact q zs p4 (by omega) z2 hp4
 split
 ·refine ⟨by simp,es,hk2,?_⟩
  walk_at "d"
  rw [if_neg (by omega)]
  refine ⟨es.reverse,by simp [zhY],.inl (fin' _ (fun d m=>hs2 d (List.mem_reverse.mp m)) (by simpa using hl2))⟩
 ·rw [if_neg (by omega)]
  exact ⟨es,hk2,.inl (fin' _ hs2 hl2)⟩
abbrev Part:=Str × Int × Int
def zkp (p:Part):PyData:=.tuple [.str p.1,.int p.2.1,.int p.2.2]
def zeE (ps:List Part):PyData:=.tuple (ps.map zkp)
structure Prt (p:Part):Prop where
 nm:zfO p.1 = true
 le:p.2.1 <= p.2.2
 lo:-10 ^ 58 <= p.2.1
 hi:p.2.2 <= 10 ^ 59
structure Drw (ps:List Part):Prop where
 l1:1 <= ps.length
 l8:ps.length <= 8
 all:∀ p ∈ ps,Prt p
theorem zbN {α:Type} {f:α->PyData} {l:List α} {k:Nat} {x:α} (e:l[k]? = some x):atI (l.map f) (k:Int) = some (f x):=zcp (by rw [List.getElem?_map,e]; rfl)
end
section
variable {R:RX} {S:Sto}
theorem zoq {a b m:Int} (h1:m ∈ [a,b]) (h2:∀ x,x ∈ [a,b]->m <= x):m = min a b:=by
 have ha:=h2 a (by simp)
 have hb:=h2 b (by simp)
 simp only [List.mem_cons,List.not_mem_nil,or_false] at h1
 omega
theorem znP {a b m:Int} (h1:m ∈ [a,b]) (h2:∀ x,x ∈ [a,b]->x <= m):m = max a b:=by
 have ha:=h2 a (by simp)
 have hb:=h2 b (by simp)
 simp only [List.mem_cons,List.not_mem_nil,or_false] at h1
 omega
theorem zte {a b:Int} (q:R (.d (.int (min a b))) S):zkY [.d (.list [.int a,.int b])] S R:=.inl ⟨_,rfl,[a,b],rfl,by simp,fun m h1 h2=>by rw [zoq h1 h2]; exact q⟩
theorem ztl {a b:Int} (q:R (.d (.int (min a b))) S):zkY [.d (.tuple [.int a,.int b])] S R:=.inl ⟨_,rfl,[a,b],rfl,by simp,fun m h1 h2=>by rw [zoq h1 h2]; exact q⟩
theorem zs6 {a b:Int} (q:R (.d (.int (max a b))) S):zrD [.d (.list [.int a,.int b])] S R:=⟨_,rfl,[a,b],rfl,by simp,fun m h1 h2=>by rw [znP h1 h2]; exact q⟩
theorem ztk {a b:Int} (q:R (.d (.int (max a b))) S):zrD [.d (.tuple [.int a,.int b])] S R:=⟨_,rfl,[a,b],rfl,by simp,fun m h1 h2=>by rw [znP h1 h2]; exact q⟩
abbrev Term:=Nat × Int
def tmD (t:Term):PyData:=.tuple [.int t.1,.int t.2]
def zpW (ts:List Term):PyData:=.tuple (ts.map tmD)
structure Gap where
 ts:List Term
 lo:Int
 hi:Int
def zi3 (g:Gap):PyData:=.tuple [zpW g.ts,.int g.lo,.int g.hi]
theorem zgj (g:Gap):zi3 g = .tuple [zpW g.ts,.int g.lo,.int g.hi]:=rfl
theorem znz (t:Term):tmD t = .tuple [.int t.1,.int t.2]:=rfl
theorem zln (p:Part):zkp p = .tuple [.str p.1,.int p.2.1,.int p.2.2]:=rfl
def zaE (ns:List Int):PyData:=.tuple (ns.map PyData.int)
structure Tms (n:Nat) (ts:List Term):Prop where
 ne:ts ≠ []
 len:ts.length <= n
 ok:∀ t ∈ ts,t.1 < n/\t.2 ≠ 0/\-3 <= t.2/\t.2 <= 3
 srt:ts.Pairwise fun t u=>t.1 < u.1
structure Tm3 (n:Nat) (ts:List Term):Prop where
 len:ts.length <= 100
 ok:∀ t ∈ ts,t.1 < n/\-3 <= t.2/\t.2 <= 3
theorem Tms.tm3 {n:Nat} {ts:List Term} (h:Tms n ts) (hn:n <= 8):Tm3 n ts:=⟨by have:=h.len; omega,fun t m=>⟨(h.ok t m).1,(h.ok t m).2.2⟩⟩
def worth (ts:List Term) (ns:List Int):Int:=(ts.map fun t=>t.2 * ns.getD t.1 0).sum
theorem zpv {ns:List Int} {k:Nat} (h:k < ns.length):ns[k]? = some (ns.getD k 0):=by
 rw [List.getElem?_eq_getElem h,List.getD_eq_getElem?_getD,List.getElem?_eq_getElem h]
 rfl
def part (ps:List Part) (k:Nat):Part:=ps.getD k ("",0,0)
theorem zhx {ps:List Part} {k:Nat} (h:k < ps.length):ps[k]? = some (part ps k):=by
 unfold part
 rw [List.getElem?_eq_getElem h,List.getD_eq_getElem?_getD,List.getElem?_eq_getElem h]
 rfl
def plo (ps:List Part) (k:Nat):Int:=(part ps k).2.1
def phi (ps:List Part) (k:Nat):Int:=(part ps k).2.2
def tLo (ps:List Part) (t:Term):Int:=min (t.2 * plo ps t.1) (t.2 * phi ps t.1)
def tHi (ps:List Part) (t:Term):Int:=max (t.2 * plo ps t.1) (t.2 * phi ps t.1)
def zdo (ps:List Part) (ts:List Term):Int:=(ts.map (tLo ps)).sum
def zeF (ps:List Part) (ts:List Term):Int:=(ts.map (tHi ps)).sum
theorem zje {ps:List Part} {t:Term} {ts:List Term}:zdo ps (t :: ts) = tLo ps t + zdo ps ts:=by simp [zdo]
theorem zkM {ps:List Part} {t:Term} {ts:List Term}:zeF ps (t :: ts) = tHi ps t + zeF ps ts:=by simp [zeF]
theorem zgi {ps:List Part} {ts:List Term} {i:Nat} {t:Term} (h:ts[i]? = some t):zdo ps (ts.take (i + 1)) = zdo ps (ts.take i) + tLo ps t:=by
 unfold zdo
 rw [List.take_add_one,h]
 simp
theorem zhq {ps:List Part} {ts:List Term} {i:Nat} {t:Term} (h:ts[i]? = some t):zeF ps (ts.take (i + 1)) = zeF ps (ts.take i) + tHi ps t:=by
 unfold zeF
 rw [List.take_add_one,h]
 simp
theorem zkJ {ns:List Int} {ts:List Term} {i:Nat} {t:Term} (h:ts[i]? = some t):worth (ts.take (i + 1)) ns = worth (ts.take i) ns + t.2 * ns.getD t.1 0:=by
 unfold worth
 rw [List.take_add_one,h]
 simp
theorem zdW (ps:List Part):∀ ts:List Term,zdo ps ts <= zeF ps ts
 | []=>by simp [zdo,zeF]
 | t :: ts=>by
  have:=zdW ps ts
  rw [zje,zkM]
  unfold tLo tHi
  omega
theorem zdp {α:Type} {f:α->PyData} {l:List α} {i:Nat} {d:PyData} (h:(l.map f)[i]? = some d):∃ x,l[i]? = some x/\d = f x:=by
 rw [List.getElem?_map] at h
 obtain ⟨x,e,rfl⟩:=Option.map_eq_some_iff.mp h
 exact ⟨x,e,rfl⟩
theorem zkz {ds:List PyData} {r:Int} {P:PyData->Prop} (h0:0 <= r) (h1:r < ds.length) (hP:∀ d ∈ ds,P d):∃ d,atI ds r = some d/\P d:=by
 obtain ⟨k,rfl⟩:=Int.eq_ofNat_of_zero_le h0
 have hk:k < ds.length:=by omega
 exact ⟨ds[k],zcp (List.getElem?_eq_getElem hk),hP _ (List.getElem_mem hk)⟩
theorem zlE (ds:List PyData):PyData.eqv (.list ds) (.list []) = decide (ds = []):=by
 cases ds with
 | nil=>rfl
 | cons d ds=>rfl
theorem zrx (t:Term):Shp 1 (tmD t):=zgt (zo0 zdI zdI)
theorem zkw (ts:List Term):SeqAt.shaped (.list (ts.map tmD)) = true:=(zka (zjs fun t _=>zrx t)).ok
def zdi (gs:List Gap):PyData:=.tuple (gs.map zi3)
theorem zsj {g:DG} {te:DE} {fin:Sto->Prop} {α:Type} (F:α->Prop) (f:α->PyData) (P:XE->Prop):∀ (ds:List PyData) (acc:List α) (p:List PyData) (τ:XE),P τ->za6 p->acc.length + ds.length <= 1000 ->
  (∀ d ∈ ds,∀ τ p acc (R:XE->RX),P τ->za6 p->(∀ τ' x p',P τ'->za6 p'->F x->R τ' (.d (f x)) [p',acc])->g (.d d) τ [p,acc] fun τ1 S1=>te τ1 S1 (R τ1)) ->
  (∀ xs p',za6 p'->(∀ x ∈ xs,F x)->xs.length = ds.length->fin [p',(acc ++ xs).map f])->zfq 1 g zaN te fin ds τ [p,acc.map f]
 | [],acc,p,τ,_,hp,_,_,h=>by
  have:=h [] p hp (by simp) rfl
  rw [List.append_nil] at this
  exact this
 | d :: ds,acc,p,τ,hP,hp,hl,el,h=>by
  show g (.d d) τ [p,acc.map f] fun τ1 S1=>zaN τ1 S1 fun b S2=>if b = true then te τ1 S2 fun x S3=>asD x fun e=>∃ acc,S3[1]? = some acc/\acc.length < 1000/\zfq 1 g zaN te fin ds τ1 (S3.set 1 (acc ++ [e])) else zfq 1 g zaN te fin ds τ1 S2
  simp only [zaN,↓reduceIte]
  rw [List.length_cons] at hl
  refine el d List.mem_cons_self τ p (acc.map f) (fun τ1 x S3=>asD x fun e=>∃ acc,S3[1]? = some acc/\acc.length < 1000/\zfq 1 g zaN te fin ds τ1 (S3.set 1 (acc ++ [e]))) hP hp fun τ' x p' hP' hp' hF=>?_
  refine ⟨acc.map f,rfl,by rw [List.length_map]; omega,?_⟩
  have e:([p',acc.map f]:Sto).set 1 (acc.map f ++ [f x]) = [p',(acc ++ [x]).map f]:=by simp
  rw [e]
  refine zsj F f P ds (acc ++ [x]) p' τ' hP' hp' (by rw [List.length_append,List.length_singleton]; omega) (fun e m=>el e (List.mem_cons_of_mem _ m)) fun xs p'' hp'' fs hl=>?_
  rw [List.append_assoc]
  exact h (x :: xs) p'' hp'' (fun y m=>(List.mem_cons.mp m).elim (fun e=>e ▸ hF) (fs y)) (by simp [hl])
end
section
variable {R:RX} {S:Sto}
theorem zoD {a b c d:Int} (q:R (.d (spD (a + c) (b + d))) []):zjx [.d (spD a b),.d (spD c d)] [] R:=by
 unfold zjx spD
 walk_at "e"
 exact q
theorem zhX {a b n:Int} (h1:-3 <= n) (h2:n <= 3) (q:R (.d (spD (min (a * n) (b * n)) (max (a * n) (b * n)))) []):zds [.d (spD a b),.d (.int n)] [] R:=by
 unfold zds spD
 walk_at "e"
 refine ⟨zme (by omega) (by omega),zme (by omega) (by omega),?_⟩
 refine ztl ?_
 walk_at "e"
 refine ztk ?_
 walk_at "e"
 exact q
theorem zkl {p:Part} (q:R (.d (spD p.2.1 p.2.2)) []):zfg [.d (zkp p)] [] R:=by
 unfold zfg zkp
 walk_at "e"
 exact q
theorem zsf {ps:List Part} {t:Term}:min ((part ps t.1).2.1 * t.2) ((part ps t.1).2.2 * t.2) = tLo ps t:=by
 unfold tLo plo phi
 rw [Int.mul_comm t.2,Int.mul_comm t.2]
theorem zsv {ps:List Part} {t:Term}:max ((part ps t.1).2.1 * t.2) ((part ps t.1).2.2 * t.2) = tHi ps t:=by
 unfold tHi plo phi
 rw [Int.mul_comm t.2,Int.mul_comm t.2]
theorem zft {ps:List Part} {ts:List Term} {t:PyData} (ht:zkQ (.d t) = some (ts.map tmD)) (h3:Tm3 ps.length ts) (q:R (.d (spD (zdo ps ts) (zeF ps ts))) []):zbZ [.d (zeE ps),.d t] [] R:=by
 unfold zbZ zeE
 walk_at "d"
 (refine seq1 ?_; walk_at "d")
 refine seq1 ?_
 walk_at "d"
 refine ⟨_,ht,?_⟩
 refine zao (fun i δ S=>∃ (u1 u2:Option XV),S = []/\δ = [some (.d (.tuple (ps.map zkp))),some (.d t),some (.d (spD (zdo ps (ts.take i)) (zeF ps (ts.take i)))),u1,u2]) ⟨_,_,rfl,rfl⟩ ?_ ?_
 ·rintro i d _ _ N hi ⟨u1,u2,rfl,rfl⟩ hN
  obtain ⟨t,ht,rfl⟩:=zdp hi
  obtain ⟨t1,t2,t3⟩:=h3.ok t (List.mem_of_getElem? ht)
  have ep:=zbN (f:=zkp) (zhx t1)
  rw [znz]
  walk_at "d"
  refine ⟨_,ep,?_⟩
  refine zkl ?_
  walk_at "d"
  refine zhX t2 t3 ?_
  walk_at "d"
  refine zoD ?_
  walk_at "d"
  exact hN _ _ ⟨_,_,rfl,by rw [zgi ht,zhq ht,<- zsf,<- zsv]⟩
 ·rintro _ _ ⟨u1,u2,rfl,rfl⟩
  rw [List.length_map,List.take_length]
  walk_at "d"
  exact q
structure InBox (ps:List Part) (ns:List Int):Prop where
 len:ns.length = ps.length
 ok:∀ k,k < ps.length->plo ps k <= ns.getD k 0/\ns.getD k 0 <= phi ps k
end
section
variable {R:RX} {S:Sto}
def zgZ:PyData->Bool
 | .int _=>true
 | _=>false
end
section
variable {R:RX} {S:Sto}
def rng (lo:Int) (n:Nat):List Int:=(List.range n).map fun k:Nat=>lo + k
def ztg (p:Part):List Int:=rng p.2.1 (p.2.2 - p.2.1 + 1).toNat
def ext (found:List (List Int)) (p:Part):List (List Int):=found.flatMap fun a=>(ztg p).map fun x=>a ++ [x]
def zaI:List Nat->Nat
 | []=>1
 | x :: xs=>x * zaI xs
def zpn (ps:List Part):Nat:=zaI (ps.map fun p=>(p.2.2 - p.2.1 + 1).toNat)
theorem zgJ {α β:Type} {f:α->List β} {n:Nat}:∀ {l:List α},(∀ x ∈ l,(f x).length = n)->(l.flatMap f).length = l.length * n
 | [],_=>by simp
 | x :: l,h=>by
  rw [List.flatMap_cons,List.length_append,h x List.mem_cons_self,zgJ fun y m=>h y (List.mem_cons_of_mem _ m),List.length_cons,Nat.succ_mul,Nat.add_comm]
theorem zew:∀ {l:List Nat},(∀ x ∈ l,1 <= x)->1 <= zaI l
 | [],_=>Nat.le_refl _
 | x :: l,h=>Nat.mul_le_mul (h x List.mem_cons_self) (zew fun y m=>h y (List.mem_cons_of_mem _ m))
theorem zdz:∀ (a b:List Nat),zaI (a ++ b) = zaI a * zaI b
 | [],b=>by simp [zaI]
 | x :: a,b=>by simp [zaI,zdz a b,Nat.mul_assoc]
theorem zhH {α:Type} {l:List α} {i:Nat} {x:α} (h:l[i]? = some x):l.take (i + 1) = l.take i ++ [x]:=by rw [List.take_add_one,h]; rfl
end
section
variable {R:RX} {S:Sto}
structure Wds (ws:List Int):Prop where
 l1:1 <= ws.length
 l8:ws.length <= 8
 pos:∀ x ∈ ws,1 <= x
 le:∀ x ∈ ws,x <= 300
 prod:zaI (ws.map Int.toNat) <= 300
theorem prod3:∀ {ws:List Int},(∀ x ∈ ws,1 <= x/\x <= 3)->zaI (ws.map Int.toNat) <= 3 ^ ws.length
 | [],_=>by simp [zaI]
 | x :: ws,h=>by
  have h1:=h x List.mem_cons_self
  have h2:=prod3 fun y m=>h y (List.mem_cons_of_mem _ m)
  rw [List.map_cons,zaI,List.length_cons,Nat.pow_succ,Nat.mul_comm]
  exact Nat.mul_le_mul h2 (by omega)
theorem wds3 {ws:List Int} (l1:1 <= ws.length) (l4:ws.length <= 4) (h:∀ x ∈ ws,1 <= x/\x <= 3):Wds ws:=by
 refine ⟨l1,by omega,fun x m=>(h x m).1,fun x m=>by have:=(h x m).2; omega,Nat.le_trans (prod3 h) ?_⟩
 have:ws.length = 1\/ws.length = 2\/ws.length = 3\/ws.length = 4:=by omega
 rcases this with e | e | e | e <;> rw [e] <;> decide
theorem zmX {Q names number:PN} {p:List PyData} {m:Int} (hQ:Q = fun xs S R=>(zac (zaC (zU 0 1 names (ze (zm 0) zt)) (zn 2)) (zac (zaC (zcO [none,some 0] (zaP (ze (dOp zb8 (dC (.int 1)) (zU 0 2 zx (ze (zm 0) (ze (zm 1) zt)))) zt)) (zn 0) zaN (dOp zb8 (dC (.int 1)) (zU 0 2 zx (ze (zm 1) (ze (dC (.int 3)) zt))))) (zn 3)) (zac (zdK (dB (dOp zgl (zU 0 2 zx (ze (zm 0) (ze (dC (.int 12)) zt))) (dC (.int 0)))) (zaC (dOp dIx (zcu (ze (dOp zgM (zcu (ze (dC (.int 2)) zt)) (dC (.int 8))) (ze (zcu (ze (dC (.int 17)) (ze (dC (.int 17)) zt))) (ze (zcu (ze (dC (.int 300)) zt)) (ze (dOp zgM (zcu (ze (dC (.int 1)) zt)) (dC (.int 8))) zt))))) (zU 0 2 zx (ze (zm 0) (ze (dC (.int 4)) zt)))) (zn 3)) za0) (zac (zaC (zdJ zt) (zn 4)) (zac (zff (zaP (ze (dCB zaB (ze (zm 3) zt)) zt)) (zn 5) (zac (zaC (zU 0 1 number (ze (zm 0) zt)) (zn 6)) (zej (dBM zcg (zm 4) (ze (zaG (ze (dOp dIx (zm 2) (zm 5)) (ze (zm 6) (ze (dOp (dI0 fun i j=>i - j) (dOp zb8 (zm 6) (dOp dIx (zm 3) (zm 5))) (dC (.int 1))) zt)))) zt))))) (zbe (dCB zcP (ze (zm 4) zt)))))))) (zcS S.length R) (xs.map some ++ List.replicate 5 none) S)
  (hnames:∀ {p:List PyData} {R:RX},za6 p->(∀ (ns:List Str) p',ns.length = 8->(∀ z ∈ ns,zfO z = true)->za6 p'->R (.d (.list (ns.map PyData.str))) [p'])->names [.l 0] [p] R)
  (hnumber:∀ {p:List PyData} {R:RX},za6 p->(∀ r p',-10 ^ 58 <= r->r <= 10 ^ 58->za6 p'->R (.d (.int r)) [p'])->number [.l 0] [p] R)
  (hp:za6 p) (m1:0 < m) (m4:m <= 4) (q:∀ (ps:List Part) p',Drw ps->zpn ps <= 300->za6 p'->R (.d (zeE ps)) [p']):Q [.l 0,.d (.int m)] [p] R:=by
 subst hQ
 walk_at "d"
 (refine seq1 ?_; walk_at "d")
 refine hnames hp fun ns p1 hn hz hp1=>?_
 walk_at "d"
 (refine seq1 ?_; walk_at "d")
 refine zD hp1 m1 (zcA m1 (by omega)) fun r p2 r0 r1 hp2=>?_
 walk_at "d"
 refine zsj (α:=Int) (fun x=>1 <= x/\x <= 3) PyData.int (fun τ=>∃ u,τ = [u,some (.l 0)]) _ [] p2 _ ⟨_,rfl⟩ hp2 (by rw [zam]; simp; omega) ?_ ?_
 ·rintro d md _ p acc R' ⟨u,rfl⟩ hp hk
  walk_at "d"
  refine zD hp (by decide) (by decide +kernel) fun r p' r0 r1 hp'=>?_
  walk_at "d"
  exact hk _ _ p' ⟨_,rfl⟩ hp' ⟨by omega,by omega⟩
 ·intro ws p3 hp3 hw hl
  rw [zam] at hl
  have hws:Wds ws:=wds3 (by omega) (by omega) hw
  rw [List.nil_append]
  walk_at "d"
  refine cut (fun δ S=>∃ (p:List PyData) (ws:List Int),za6 p/\Wds ws/\S = [p]/\δ = [some (.l 0),some (.d (.int m)),some (.d (.list (ns.map PyData.str))),some (.d (.list (ws.map PyData.int))),none,none,none]) (fun N hN=>?_) ?_
  ·walk_at "d"
   refine zD hp3 (by decide) (by decide +kernel) fun r2 p4 r3 r4 hp4=>?_
   walk_at "d"
   split
   ·refine zD hp4 (by decide) (by decide +kernel) fun r5 p5 r6 r7 hp5=>?_
    obtain ⟨d,ed,ws',rfl,hw'⟩:=zkz (P:=fun d=>∃ ws:List Int,d = .list (ws.map PyData.int)/\Wds ws) (ds:=[PyData.list (List.replicate 8 [PyData.int 2]).flatten,.list [.int 17,.int 17],.list [.int 300],.list (List.replicate 8 [PyData.int 1]).flatten]) r6 r7 (by
     intro d m
     simp only [List.mem_cons,List.not_mem_nil,or_false] at m
     rcases m with rfl | rfl | rfl | rfl
     ·exact ⟨[2,2,2,2,2,2,2,2],rfl,by decide,by decide,by decide,by decide,by decide⟩
     ·exact ⟨[17,17],rfl,by decide,by decide,by decide,by decide,by decide⟩
     ·exact ⟨[300],rfl,by decide,by decide,by decide,by decide,by decide⟩
     ·exact ⟨[1,1,1,1,1,1,1,1],rfl,by decide,by decide,by decide,by decide,by decide⟩)
    walk_at "d"
    refine ⟨_,ed,hN _ _ ⟨p5,ws',hp5,hw',rfl,rfl⟩⟩
   ·exact hN _ _ ⟨p4,ws,hp4,hws,rfl,rfl⟩
  rintro _ _ ⟨p,ws,hp,hws,rfl,rfl⟩
  have w8:=hws.l8
  (refine seq1 ?_; walk_at "d")
  refine seq1 ?_
  walk_at "d"
  refine zao (fun i δ S=>∃ (p:List PyData) (ps:List Part) (u1 u2:Option XV),za6 p/\ps.length = i/\(∀ p ∈ ps,Prt p)/\ps.map (fun p=>(p.2.2 - p.2.1 + 1).toNat) = (ws.take i).map Int.toNat/\S = [p,ps.map zkp]/\δ = [some (.l 0),some (.d (.int m)),some (.d (.list (ns.map PyData.str))),some (.d (.list (ws.map PyData.int))),some (.l 1),u1,u2]) ⟨p,[],_,_,hp,rfl,by simp,rfl,rfl,rfl⟩ ?_ ?_
  ·rintro i d _ _ N hi ⟨p,ps,u1,u2,hp,hl,ha,hs,rfl,rfl⟩ hN
   obtain ⟨hi',rfl⟩:=zbB hi
   have iw:i < ws.length:=by simpa using hi'
   have i8:i < ns.length:=by omega
   have e:=zbN (f:=PyData.str) (List.getElem?_eq_getElem i8)
   have ew:=zbN (f:=PyData.int) (List.getElem?_eq_getElem iw)
   have w1:=hws.pos _ (List.getElem_mem iw)
   have w300:=hws.le _ (List.getElem_mem iw)
   have e0:(0:Int) + (i:Int) = (i:Int):=by omega
   walk_at "d"
   (refine seq1 ?_; walk_at "d")
   refine hnumber hp fun lo p3 h1 h2 hp3=>?_
   walk_at "d"
   rw [e0]
   refine ⟨_,e,?_⟩
   walk_at "d"
   refine ⟨_,ew,?_⟩
   walk_at "d"
   refine ⟨by omega,hN _ _ ⟨p3,ps ++ [(ns[i],lo,lo + ws[i] - 1)],_,_,hp3,by simp [hl],fun x hx=>?_,?_,by simp [zkp],rfl⟩⟩
   ·rcases List.mem_append.mp hx with hx | hx
    ·exact ha x hx
    ·rw [List.mem_singleton.mp hx]
     exact ⟨hz _ (List.getElem_mem i8),by simp only; omega,h1,by simp only; omega⟩
   ·rw [List.map_append,hs,zhH (List.getElem?_eq_getElem iw),List.map_append]
    congr 1
    simp only [List.map_cons,List.map_nil,List.cons.injEq,and_true]
    omega
  ·rintro _ _ ⟨p,ps,u1,u2,hp,hl,ha,hs,rfl,rfl⟩
   rw [zam] at hl hs
   have hz':(ws.length:Int).toNat = ws.length:=by simp
   rw [hz'] at hl hs
   rw [List.take_length] at hs
   walk_at "d"
   have hw1:=hws.l1
   exact q ps p ⟨by omega,by omega,ha⟩ (by unfold zpn; rw [hs]; exact hws.prod) hp
theorem zhP {p:List PyData} {m:Int} (hp:za6 p) (m1:0 < m) (m4:m <= 4) (q:∀ (ps:List Part) p',Drw ps->zpn ps <= 300->za6 p'->R (.d (zeE ps)) [p']):zei [.l 0,.d (.int m)] [p] R :=
 zmX (names:=zbQ) (number:=zbz) rfl zgq zfV hp m1 m4 q
theorem zgm {g:Gap} {ns:List Int} (h3:Tm3 ns.length g.ts) (q:R (.d (.int (worth g.ts ns))) []):zeK [.d (zi3 g),.d (zaE ns)] [] R:=by
 unfold zeK zaE
 rw [zgj,zpW]
 walk_at "d"
 (refine seq1 ?_; walk_at "d")
 refine seq1 ?_
 walk_at "d"
 refine zao (fun i δ S=>∃ (u1 u2:Option XV),S = []/\δ = [some (.d (.tuple [.tuple (g.ts.map tmD),.int g.lo,.int g.hi])),some (.d (.tuple (ns.map PyData.int))),some (.d (.int (worth (g.ts.take i) ns))),u1,u2]) ⟨_,_,rfl,rfl⟩ ?_ ?_
 ·rintro i d _ _ N hi ⟨u1,u2,rfl,rfl⟩ hN
  obtain ⟨t,ht,rfl⟩:=zdp hi
  obtain ⟨t1,t2,t3⟩:=h3.ok t (List.mem_of_getElem? ht)
  have e:=zbN (f:=PyData.int) (zpv t1)
  rw [znz]
  walk_at "d"
  refine ⟨_,e,?_⟩
  walk_at "d"
  exact ⟨ze8 (by omega) (by omega),hN _ _ ⟨_,_,rfl,by rw [zkJ ht]⟩⟩
 ·rintro _ _ ⟨u1,u2,rfl,rfl⟩
  rw [List.length_map,List.take_length]
  walk_at "d"
  exact q
theorem ziX {g:Gap} {ns:List Int} (h3:Tm3 ns.length g.ts) (q:R (.d (.int (worth g.ts ns))) []):zeX [.d (zi3 g),.d (zaE ns)] [] R:=zgm h3 q
theorem zgG:∀ (a b:List Int),PyData.eqvAll (a.map PyData.int) (b.map PyData.int) = decide (a = b)
 | [],[]=>rfl
 | [],_ :: _=>rfl
 | _ :: _,[]=>rfl
 | x :: a,y :: b=>by
  show (PyData.eqv (.int x) (.int y) && PyData.eqvAll (a.map PyData.int) (b.map PyData.int)) = _
  rw [zja,zgG a b]
  by_cases h1:x = y <;> by_cases h2:a = b <;> simp [h1,h2]
theorem zlT (a b:List Int):PyData.eqv (zaE a) (zaE b) = decide (a = b):=zgG a b
theorem zpl {n:Nat} (a:List Int):Shp (n + 1) (zaE a):=zgt (zjs fun _ _=>zdI)
theorem zeA (a:List Int):SeqAt.shaped (zaE a) = true:=(zpl (n:=0) a).ok
end
section
variable {R:RX}
def blk (n i:Nat):List (List Nat):=(List.range (n - (i + 1))).map fun k=>[i,i + 1 + k]
end
section
variable {R:RX} {S:Sto}
def few0 (s1 s2 r:Int):Int:=if (r - (s1 + 2 * s2) + 2) / 3 > 0 then (r - (s1 + 2 * s2) + 2) / 3 else 0
def few (s1 s2 r:Int):Int:=if s1 = 0/\(r - few0 s1 s2 r) % 2 = 1 then few0 s1 s2 r + 1 else few0 s1 s2 r
theorem zmO {ps:List Part} {g:Gap} (h3:Tm3 ps.length g.ts) (q:R (.d (spD (zdo ps g.ts) (zeF ps g.ts))) []):zhW [.d (zeE ps),.d (zi3 g)] [] R:=by
 unfold zhW
 rw [zgj]
 walk_at "d"
 refine zft rfl h3 ?_
 walk_at "d"
 exact q
end
section
variable {R:RX} {S:Sto}
structure TimesL (l:List Int):Prop where
 l1:1 <= l.length
 l6:l.length <= 6
 ok:∀ x ∈ l,x ≠ 0/\-3 <= x/\x <= 3
theorem zeC {l:List Int} (h:(decide (1 <= l.length) && decide (l.length <= 6) && l.all fun x=>decide (x ≠ 0/\-3 <= x/\x <= 3)) = true):TimesL l:=by
 simp only [Bool.and_eq_true,decide_eq_true_eq,List.all_eq_true] at h
 exact ⟨h.1.1,h.1.2,h.2⟩
theorem TimesL.at {l:List Int} (h:TimesL l) {r:Int} (r0:0 <= r) (r1:r < l.length):∃ n,atI (l.map PyData.int) r = some (.int n)/\n ≠ 0/\-3 <= n/\n <= 3:=by
 obtain ⟨k,rfl⟩:=Int.eq_ofNat_of_zero_le r0
 have hk:k < l.length:=by omega
 exact ⟨l[k],zbN (List.getElem?_eq_getElem hk),h.ok _ (List.getElem_mem hk)⟩
theorem zii {p:List PyData} {ps:List Part} (hp:za6 p) (hd:Drw ps) (q:∀ ts p',Tms ps.length ts->za6 p'->R (.d (zpW ts)) [p']):zgH [.l 0,.d (zeE ps)] [p] R:=by
 have h8:=hd.l8
 have h1:=hd.l1
 unfold zgH
 walk_at "d"
 (refine seq1 ?_; walk_at "d")
 refine zD hp (by decide) (by decide +kernel) fun r p1 r0 r1 hp1=>?_
 obtain ⟨d,ed,l,rfl,hl⟩:=zkz (P:=fun d=>∃ l:List Int,d = .list (l.map PyData.int)/\TimesL l) (ds:=[PyData.list [.int 1,.int (-1),.int 2,.int (-2),.int 3,.int (-3)],.list [.int 1,.int (-1)],.list [.int 2,.int (-2)],.list [.int 3,.int (-3)],.list [.int 2,.int 3,.int (-2),.int (-3)],.list [.int 1,.int 3,.int (-1),.int (-3)]]) r0 r1 (by
  intro d m
  simp only [List.mem_cons,List.not_mem_nil,or_false] at m
  rcases m with rfl | rfl | rfl | rfl | rfl | rfl
  ·exact ⟨[1,-1,2,-2,3,-3],rfl,zeC (by decide)⟩
  ·exact ⟨[1,-1],rfl,zeC (by decide)⟩
  ·exact ⟨[2,-2],rfl,zeC (by decide)⟩
  ·exact ⟨[3,-3],rfl,zeC (by decide)⟩
  ·exact ⟨[2,3,-2,-3],rfl,zeC (by decide)⟩
  ·exact ⟨[1,3,-1,-3],rfl,zeC (by decide)⟩)
 have l1:=hl.l1
 have l6:=hl.l6
 walk_at "d"
 refine ⟨_,ed,?_⟩
 walk_at "d"
 (refine seq1 ?_; walk_at "d")
 refine cut (fun δ S=>∃ (p:List PyData) (ts:List Term) (u1:Option XV),za6 p/\ts.length <= ps.length/\(∀ t ∈ ts,t.1 < ps.length/\t.2 ≠ 0/\-3 <= t.2/\t.2 <= 3)/\(ts.Pairwise fun t u=>t.1 < u.1)/\S = [p,ts.map tmD]/\δ = [some (.l 0),some (.d (zeE ps)),some (.d (.list (l.map PyData.int))),some (.l 1),u1]) (fun N hN=>?_) ?_
 ·walk_at "d"
  refine ⟨ps.length,by unfold zeE; walk_at "d",?_⟩
  refine zao (fun i δ S=>∃ (p:List PyData) (ts:List Term) (u1:Option XV),za6 p/\ts.length <= i/\(∀ t ∈ ts,t.1 < i/\t.2 ≠ 0/\-3 <= t.2/\t.2 <= 3)/\(ts.Pairwise fun t u=>t.1 < u.1)/\S = [p,ts.map tmD]/\δ = [some (.l 0),some (.d (zeE ps)),some (.d (.list (l.map PyData.int))),some (.l 1),u1]) ⟨p1,[],_,hp1,Nat.le_refl _,by simp,.nil,rfl,rfl⟩ ?_ ?_
  ·rintro i d _ _ N hi ⟨p,ts,u1,hp,hl',ht,hw,rfl,rfl⟩ hN
   obtain ⟨hi',rfl⟩:=zbB hi
   have hi8:i < ps.length:=by simpa using hi'
   walk_at "d"
   refine zD hp (by decide) (by decide +kernel) fun r p2 r0 r1 hp2=>?_
   walk_at "d"
   split
   ·refine zD hp2 (by omega) (zcA (by omega) (by omega)) fun r3 p3 r30 r31 hp3=>?_
    obtain ⟨n,en,hn⟩:=hl.at r30 r31
    walk_at "d"
    refine ⟨_,en,?_⟩
    walk_at "d"
    refine ⟨by omega,hN _ _ ⟨p3,ts ++ [(i,n)],_,hp3,by simp; omega,fun t m=>?_,?_,by simp [tmD],rfl⟩⟩
    ·rcases List.mem_append.mp m with m | m
     ·exact ⟨by have:=(ht t m).1; omega,(ht t m).2⟩
     ·rw [List.mem_singleton.mp m]
      exact ⟨by simp,hn⟩
    ·rw [List.pairwise_append]
     exact ⟨hw,by simp,fun t m u m'=>by rw [List.mem_singleton.mp m']; exact (ht t m).1⟩
   ·exact hN _ _ ⟨p2,ts,_,hp2,by omega,fun t m=>⟨by have:=(ht t m).1; omega,(ht t m).2⟩,hw,rfl,rfl⟩
  ·rintro _ _ ⟨p,ts,u1,hp,hl',ht,hw,rfl,rfl⟩
   rw [zam] at hl' ht
   have hz:(ps.length:Int).toNat = ps.length:=by simp
   rw [hz] at hl' ht
   exact hN _ _ ⟨p,ts,u1,hp,hl',ht,hw,rfl,rfl⟩
 rintro _ _ ⟨p,ts,u1,hp,hl',ht,hw,rfl,rfl⟩
 refine cut (fun δ S=>∃ (p:List PyData) (ts:List Term) (T:Sto) (k:Nat),za6 p/\Tms ps.length ts/\T[k]? = some (ts.map tmD)/\S = p :: T/\δ = [some (.l 0),some (.d (zeE ps)),some (.d (.list (l.map PyData.int))),some (.l (k + 1)),u1]) (fun N hN=>?_) ?_
 ·walk_at "d"
  refine ⟨zkw ts,rfl,?_⟩
  rw [zlE]
  walk_at "d"
  split
  ·refine ⟨ps.length,by unfold zeE; walk_at "d",?_⟩
   refine zD hp (by omega) (zcA (by omega) (by omega)) fun r p2 r0 r1 hp2=>?_
   walk_at "d"
   refine zD hp2 (by omega) (zcA (by omega) (by omega)) fun r3 p3 r30 r31 hp3=>?_
   obtain ⟨n,en,hn⟩:=hl.at r30 r31
   obtain ⟨k,rfl⟩:=Int.eq_ofNat_of_zero_le r0
   walk_at "d"
   refine ⟨_,en,?_⟩
   walk_at "d"
   refine hN _ _ ⟨p3,[(k,n)],[ts.map tmD,[tmD (k,n)]],1,hp3,⟨by simp,by simpa using h1,fun t m=>by rw [List.mem_singleton.mp m]; exact ⟨by simp only; omega,hn⟩,by simp⟩,rfl,rfl,rfl⟩
  ·rename_i hne
   exact hN _ _ ⟨p,ts,[ts.map tmD],0,hp,⟨fun z=>hne (by rw [z]; rfl),hl',ht,hw⟩,rfl,rfl,rfl⟩
 rintro _ _ ⟨p,ts,T,k,hp,hts,hk,rfl,rfl⟩
 walk_at "d"
 exact ⟨_,hk,q ts p hts hp⟩
end
section
variable {R:RX}
theorem len2 {ds:List PyData} (h:ds.length = 2):∃ x y,ds = [x,y]:=by
 match ds,h with
 | [x,y],_=>exact ⟨x,y,rfl⟩
theorem Rb {x y:Bool} {S:Sto} (q:R (.d (.bool y)) S) (e:x = y):R (.d (.bool x)) S:=by rw [e]; exact q
end
section
variable {R:RX} {S:Sto}
def zhC (ps:List Part) (g:Gap):Bool:=decide (g.hi < zdo ps g.ts\/zeF ps g.ts < g.lo)
theorem zoy {a b c d:Int} (q:R (.d (if max a c <= min b d then spD (max a c) (min b d) else .none)) []):zj8 [.d (spD a b),.d (spD c d)] [] R:=by
 unfold zj8 spD
 unfold spD at q
 have e1:(if c > a then c else a) = max a c:=by split <;> omega
 have e2:(if d < b then d else b) = min b d:=by split <;> omega
 walk_at "d"
 (refine seq1 ?_; walk_at "d")
 (refine seq1 ?_; walk_at "d")
 rw [e1,e2]
 split
 ·rename_i h
  rw [if_pos h] at q
  exact q
 ·rename_i h
  rw [if_neg h] at q
  exact q
theorem ziM {g:Gap} (q:R (.d (spD g.lo g.hi)) []):zdY [.d (zi3 g)] [] R:=by
 unfold zdY
 rw [zgj]
 walk_at "d"
 exact q
theorem zk0 {ps:List Part} {g:Gap} (h3:Tm3 ps.length g.ts) (hle:g.lo <= g.hi) (q:R (.d (.bool (zhC ps g))) []):zf2 [.d (zeE ps),.d (zi3 g)] [] R:=by
 have lm:=zdW ps g.ts
 unfold zf2
 walk_at "d"
 refine zmO h3 ?_
 walk_at "d"
 refine ziM ?_
 walk_at "d"
 refine zoy ?_
 walk_at "d"
 refine Rb q ?_
 unfold zhC
 by_cases h:max (zdo ps g.ts) g.lo <= min (zeF ps g.ts) g.hi
 ·rw [if_pos h]
  show false = _
  symm
  rw [decide_eq_false_iff_not]
  omega
 ·rw [if_neg h]
  show true = _
  symm
  rw [decide_eq_true_eq]
  omega
inductive Hs:PyData->Prop
 | tup {ds:List PyData}:(∀ x r,ds = x :: r->SeqAt.shaped x = true)->(∀ y ∈ ds,Hs y)->Hs (.tuple ds)
 | oth {d:PyData}:(∀ ds,d ≠ .tuple ds)->Hs d
theorem Hs.hd {x:PyData} {r:List PyData} (h:Hs (.tuple (x :: r))):SeqAt.shaped x = true:=by
 cases h with
 | tup h1 h2=>exact h1 x r rfl
 | oth h=>exact absurd rfl (h _)
theorem Hs.item {ds:List PyData} (h:Hs (.tuple ds)):∀ y ∈ ds,Hs y:=by
 cases h with
 | tup h1 h2=>exact h2
 | oth h=>exact absurd rfl (h _)
theorem len5 {ds:List PyData} (h:ds.length = 5):∃ x y z u v,ds = [x,y,z,u,v]:=by
 match ds,h with
 | [x,y,z,u,v],_=>exact ⟨x,y,z,u,v,rfl⟩
end
section
theorem zjh (a b:Int) (x y:List Int):HT.lexLt (a :: x) (b :: y) = true ↔ a < b\/a = b/\HT.lexLt x y = true:=by
 rw [HT.lexLt_cons]
 split
 ·rename_i h
  exact ⟨fun z=>.inr ⟨h,z⟩,fun z=>z.elim (fun z=>by omega) fun z=>z.2⟩
 ·rename_i h
  rw [decide_eq_true_eq]
  exact ⟨fun z=>.inl z,fun z=>z.elim id fun z=>absurd z.1 h⟩
theorem zij (x:List Int):HT.lexLt x [] = false:=by cases x <;> rfl
theorem zpY:∀ {x y z:List Int},HT.lexLt x y = true->HT.lexLt y z = true->HT.lexLt x z = true
 | x,y,[],_,h=>by rw [zij] at h; cases h
 | x,[],_,h,_=>by rw [zij] at h; cases h
 | [],_ :: _,_ :: _,_,_=>rfl
 | a :: x,b :: y,c :: z,h,k=>by
  rw [zjh] at h k ⊢
  rcases h with h | ⟨h,h'⟩ <;> rcases k with k | ⟨k,k'⟩
  ·exact .inl (by omega)
  ·exact .inl (by omega)
  ·exact .inl (by omega)
  ·exact .inr ⟨by omega,zpY h' k'⟩
theorem zlY:∀ {x y z:List Int},HT.lexLt x y = true->HT.lexLt y z = true->x <+: z->x <+: y
 | [],y,_,_,_,_=>List.nil_prefix
 | a :: x,[],_,h,_,_=>by rw [zij] at h; cases h
 | a :: x,b :: y,[],_,h,_=>by rw [zij] at h; cases h
 | a :: x,b :: y,c :: z,h,k,p=>by
  rw [zjh] at h k
  rw [List.cons_prefix_cons] at p ⊢
  obtain ⟨rfl,p⟩:=p
  rcases h with h | ⟨h,h'⟩ <;> rcases k with k | ⟨k,k'⟩
  ·omega
  ·omega
  ·omega
  ·exact ⟨h,zlY h' k' p⟩
theorem zn5:∀ {x y:List Int},x <+: y->HT.lexLt y x = false
 | [],y,_=>zij y
 | a :: x,[],p=>by simp at p
 | a :: x,b :: y,p=>by
  rw [List.cons_prefix_cons] at p
  obtain ⟨rfl,p⟩:=p
  cases h:HT.lexLt (a :: y) (a :: x) with
  | false=>rfl
  | true =>
   rcases (zjh a a y x).mp h with z | ⟨_,z⟩
   ·omega
   ·rw [zn5 p] at z; cases z
def zic:List (List Int)->Bool
 | x :: y :: r=>HT.lexLt x y && !(x.isPrefixOf y) && zic (y :: r)
 | _=>true
def Free (x y:List Int):Prop:=¬ x <+: y/\¬ y <+: x
theorem zhJ:∀ {x:List Int} {B:List (List Int)},zic (x :: B) = true->∀ y ∈ B,HT.lexLt x y = true/\¬ x <+: y
 | x,[],_,y,m=>by cases m
 | x,z :: r,h,y,m=>by
  simp only [zic,Bool.and_eq_true,Bool.not_eq_true'] at h
  obtain ⟨⟨h1,h2⟩,h3⟩:=h
  have n:¬ x <+: z:=fun p=>by rw [List.isPrefixOf_iff_prefix.mpr p] at h2; cases h2
  rcases List.mem_cons.mp m with rfl | m
  ·exact ⟨h1,n⟩
  ·have k:=zhJ h3 y m
   exact ⟨zpY h1 k.1,fun p=>n (zlY h1 k.1 p)⟩
theorem zjH:∀ {B:List (List Int)},zic B = true->B.Pairwise Free
 | [],_=>.nil
 | x :: B,h=>by
  refine .cons (fun y m=>⟨(zhJ h y m).2,fun p=>?_⟩) (zjH ?_)
  ·have:=zn5 p
   rw [(zhJ h y m).1] at this
   cases this
  ·cases B with
   | nil=>rfl
   | cons z r =>
    simp only [zic,Bool.and_eq_true] at h
    exact h.2
def fil:List Nat->List (List Int)
 | []=>[[]]
 | s :: r=>(List.range s).flatMap fun k:Nat=>(fil r).map fun z=>(k:Int) :: z
theorem zfz:∀ sz:List Nat,(fil sz).length = zaI sz
 | []=>rfl
 | s :: r=>by
  have:∀ (n:Nat),((List.range n).flatMap fun k:Nat=>(fil r).map fun z=>(k:Int) :: z).length = n * zaI r:=by
   intro n
   induction n with
   | zero=>simp
   | succ n ih =>
    rw [List.range_succ,List.flatMap_append,List.length_append,ih]
    simp [zfz r,Nat.succ_mul]
  exact this s
def Bgn:List Nat->List Int->Prop
 | _,[]=>True
 | [],_ :: _=>False
 | s :: r,k :: b=>(0 <= k/\k < s)/\Bgn r b
theorem zf9:∀ {sz:List Nat} {z:List Int},z ∈ fil sz ↔ z.length = sz.length/\Bgn sz z
 | [],z=>by
  cases z with
  | nil=>simp [fil,Bgn]
  | cons a z=>simp [fil,Bgn]
 | s :: r,z=>by
  simp only [fil,List.mem_flatMap,List.mem_range,List.mem_map]
  constructor
  ·rintro ⟨k,hk,y,hy,rfl⟩
   have:=(zf9 (sz:=r)).mp hy
   exact ⟨by simp [this.1],⟨by omega,by omega⟩,this.2⟩
  ·rintro ⟨h1,h2⟩
   cases z with
   | nil=>simp at h1
   | cons k z =>
    obtain ⟨⟨a,b⟩,c⟩:=h2
    exact ⟨k.toNat,by omega,z,(zf9 (sz:=r)).mpr ⟨by simpa using h1,c⟩,by rw [Int.toNat_of_nonneg a]⟩
theorem zi0:∀ {sz:List Nat} {b:List Int},Bgn sz b->((fil sz).filter fun z=>b.isPrefixOf z).length = zaI (sz.drop b.length)
 | sz,[],_=>by
  rw [List.filter_eq_self.mpr (fun _ _=>by simp [List.isPrefixOf])]
  simp [zfz]
 | s :: r,k :: b,h=>by
  obtain ⟨⟨h0,h1⟩,hb⟩:=h
  have ih:=zi0 (sz:=r) hb
  have blk:∀ j:Nat,(((fil r).map fun z=>(j:Int) :: z).filter fun z=>(k :: b).isPrefixOf z).length = if (j:Int) = k then zaI (r.drop b.length) else 0:=by
   intro j
   rw [List.filter_map,List.length_map]
   by_cases e:(j:Int) = k
   ·rw [if_pos e,<- ih]
    congr 1
    apply List.filter_congr
    intro z _
    simp [List.isPrefixOf,e]
   ·rw [if_neg e]
    rw [List.length_eq_zero_iff,List.filter_eq_nil_iff]
    intro z _
    simp [List.isPrefixOf,Ne.symm e]
  have all:∀ n:Nat,(((List.range n).flatMap fun j:Nat=>(fil r).map fun z=>(j:Int) :: z).filter fun z=>(k :: b).isPrefixOf z).length = if k < n then zaI (r.drop b.length) else 0:=by
   intro n
   induction n with
   | zero=>rw [if_neg (by omega)]; rfl
   | succ n ih2 =>
    rw [List.range_succ,List.flatMap_append,List.filter_append,List.length_append,ih2]
    have:=blk n
    simp only [List.flatMap_cons,List.flatMap_nil,List.append_nil]
    rw [this]
    by_cases e1:k < n
    ·rw [if_pos e1,if_neg (by omega),if_pos (by omega)]; rfl
    ·by_cases e2:(n:Int) = k
     ·rw [if_neg e1,if_pos e2,if_pos (by omega)]; omega
     ·rw [if_neg e1,if_neg e2,if_neg (by omega)]
  have:=all s
  rw [if_pos h1] at this
  exact this
theorem zh3 {α β:Type} (p:α->β->Bool):∀ (A:List α) (B:List β),(A.map fun a=>(B.filter fun b=>p a b).length).sum = (B.map fun b=>(A.filter fun a=>p a b).length).sum
 | [],B=>by
  induction B with
  | nil=>rfl
  | cons b B ih=>simpa using ih
 | a :: A,B=>by
  have ih:=zh3 p A B
  rw [List.map_cons,List.sum_cons,ih]
  induction B with
  | nil=>rfl
  | cons b B ihB =>
   have ih':(B.filter fun b=>p a b).length + (B.map fun b=>(A.filter fun a=>p a b).length).sum = (B.map fun b=>((a :: A).filter fun a=>p a b).length).sum:=ihB (zh3 p A B)
   rw [List.map_cons,List.map_cons,List.sum_cons,List.sum_cons,<- ih']
   by_cases h:p a b = true
   ·simp only [List.filter_cons,h,if_true,List.length_cons]
    omega
   ·simp only [List.filter_cons,h,if_false,Bool.false_eq_true]
    omega
theorem zhk:∀ {l:List Nat},(∀ x ∈ l,x <= 1)->(l.sum = l.length ↔ ∀ x ∈ l,x = 1)
 | [],_=>by simp
 | a :: l,h=>by
  have h1:=h a List.mem_cons_self
  have ih:=zhk (l:=l) fun x m=>h x (List.mem_cons_of_mem _ m)
  have le:l.sum <= l.length:=by
   have:∀ {l:List Nat},(∀ x ∈ l,x <= 1)->l.sum <= l.length:=by
    intro l
    induction l with
    | nil=>simp
    | cons b l ih=>intro h; have:=h b List.mem_cons_self; have:=ih fun x m=>h x (List.mem_cons_of_mem _ m); simp; omega
   exact this fun x m=>h x (List.mem_cons_of_mem _ m)
  rw [List.sum_cons,List.length_cons]
  constructor
  ·intro e x m
   rcases List.mem_cons.mp m with rfl | m
   ·omega
   ·exact ih.mp (by omega) x m
  ·intro e
   have:=e a List.mem_cons_self
   have:=ih.mpr fun x m=>e x (List.mem_cons_of_mem _ m)
   omega
theorem zhN:∀ {B:List (List Int)} (z:List Int),B.Pairwise Free->(B.filter fun b=>b.isPrefixOf z).length <= 1
 | [],_,_=>by simp
 | b :: B,z,h=>by
  rw [List.pairwise_cons] at h
  by_cases p:b.isPrefixOf z = true
  ·have:B.filter (fun b=>b.isPrefixOf z) = []:=by
    rw [List.filter_eq_nil_iff]
    intro c mc pc
    have p1:=List.isPrefixOf_iff_prefix.mp p
    have p2:=List.isPrefixOf_iff_prefix.mp pc
    have fr:=h.1 c mc
    rcases Nat.le_total b.length c.length with w | w
    ·exact fr.1 (List.prefix_of_prefix_length_le p1 p2 w)
    ·exact fr.2 (List.prefix_of_prefix_length_le p2 p1 w)
   simp [List.filter_cons,p,this]
  ·simp only [List.filter_cons,p,if_false,Bool.false_eq_true]
   exact zhN z h.2
def zoA (sz:List Nat) (B:List (List Int)):Nat:=(B.map fun b=>zaI (sz.drop b.length)).sum
theorem zlx {sz:List Nat} {B:List (List Int)} (hB:∀ b ∈ B,Bgn sz b) (ha:zic B = true):zoA sz B = zaI sz ↔ ∀ z ∈ fil sz,∃ b ∈ B,b <+: z:=by
 have e1:zoA sz B = ((fil sz).map fun z=>(B.filter fun b=>b.isPrefixOf z).length).sum:=by
  rw [<- zh3 (fun (b:List Int) (z:List Int)=>b.isPrefixOf z) B (fil sz)]
  unfold zoA
  congr 1
  apply List.map_congr_left
  intro b mb
  exact (zi0 (hB b mb)).symm
 have fr:=zjH ha
 have one:∀ x ∈ (fil sz).map fun z=>(B.filter fun b=>b.isPrefixOf z).length,x <= 1:=by
  intro x m
  obtain ⟨z,_,rfl⟩:=List.mem_map.mp m
  exact zhN z fr
 have:=zhk one
 rw [List.length_map,zfz] at this
 rw [e1,this]
 constructor
 ·intro h z mz
  have:=h _ (List.mem_map_of_mem mz)
  cases hf:B.filter fun b=>b.isPrefixOf z with
  | nil=>rw [hf] at this; cases this
  | cons b r =>
   have mb:b ∈ B.filter fun b=>b.isPrefixOf z:=by rw [hf]; exact List.mem_cons_self
   obtain ⟨m1,m2⟩:=List.mem_filter.mp mb
   exact ⟨b,m1,List.isPrefixOf_iff_prefix.mp m2⟩
 ·intro h x m
  obtain ⟨z,mz,rfl⟩:=List.mem_map.mp m
  obtain ⟨b,mb,p⟩:=h z mz
  have le:=zhN z fr
  have:0 < (B.filter fun b=>b.isPrefixOf z).length:=List.length_pos_of_mem (List.mem_filter.mpr ⟨mb,List.isPrefixOf_iff_prefix.mpr p⟩)
  omega
end
section
variable {R:RX} {S:Sto}
abbrev Trm:=Int × Int
def zh2 (p:Trm):PyData:=.tuple [.int p.1,.int p.2]
def zg8 (l:List Trm):PyData:=.tuple (l.map zh2)
def zcV (tr:List (List Trm)):PyData:=.tuple (tr.map zg8)
theorem zfA (p:Trm):zh2 p = .tuple [.int p.1,.int p.2]:=rfl
theorem zcY (l:List Trm):zg8 l = .tuple (l.map zh2):=rfl
def wys (l:List Trm):List Trm:=(0,0) :: l
def szT (tr:List (List Trm)):List Nat:=tr.map fun l=>l.length + 1
def szD (sz:List Nat):PyData:=.list (sz.map fun n:Nat=>.int n)
def way (l:List Trm) (k:Int):Trm:=(wys l).getD k.toNat (0,0)
structure Trs (n:Nat) (tr:List (List Trm)):Prop where
 len:tr.length = n
 l3:∀ l ∈ tr,l.length <= 3
 n8:n <= 8
theorem zb3 {n:Nat} {tr:List (List Trm)} (h:Trs n tr):tr.length <= 8:=by have:=h.len; have:=h.n8; omega
theorem zfB {n:Nat} {tr:List (List Trm)} (ht:Trs n tr) (q:R (.d (zcV (tr.map wys))) []):zdR [.d (zcV tr)] [] R:=by
 have h8:=zb3 ht
 unfold zdR zcV
 walk_at "d"
 refine cmp1 (S0:=[]) (fun l:List Trm=>zg8 (wys l)) rfl tr (by omega) ?_ ?_
 ·intro l ml u acc R' hk
  have:=ht.l3 l ml
  rw [zcY]
  walk_at "d"
  refine ⟨by first | omega | (simp only [List.length_map]; omega),?_⟩
  exact hk _
 ·walk_at "d"
  unfold zcV at q
  rw [List.map_map] at q
  exact q
theorem zlv {n:Nat} {tr:List (List Trm)} (ht:Trs n tr) (q:R (.d (szD (szT tr))) []):zey [.d (zcV (tr.map wys))] [] R:=by
 have h8:=zb3 ht
 unfold zey zcV
 walk_at "d"
 rw [List.map_map]
 refine cmp1 (S0:=[]) (fun l:List Trm=>.int ((l.length + 1:Nat):Int)) rfl tr (by omega) ?_ ?_
 ·intro l ml u acc R' hk
  show zn 0 (.d (zg8 (wys l))) _ _ _
  rw [zcY]
  walk_at "d"
  have:=hk (some (.d (.tuple ((wys l).map zh2))))
  simpa [wys] using this
 ·walk_at "d"
  unfold szD szT at q
  rw [List.map_map] at q
  exact .inl q
theorem zho:∀ {sz:List Nat} {b:List Int} {i:Nat} {k:Int} {s:Nat},Bgn sz b->b[i]? = some k->sz[i]? = some s->0 <= k/\k < s
 | _,[],_,_,_,_,e,_=>by simp at e
 | [],_ :: _,_,_,_,h,_,_=>by cases h
 | s0 :: sz,k0 :: b,0,k,s,h,e1,e2=>by
  simp at e1 e2
  subst e1 e2
  exact h.1
 | s0 :: sz,k0 :: b,i + 1,k,s,h,e1,e2=>zho h.2 (by simpa using e1) (by simpa using e2)
theorem zek:∀ {sz:List Nat} {b:List Int},Bgn sz b->b.length <= sz.length
 | _,[],_=>Nat.zero_le _
 | [],_ :: _,h=>by cases h
 | s :: sz,k :: b,h=>by have:=zek h.2; simp; omega
theorem zqs {tr:List (List Trm)} {b:List Int} (hb:Bgn (szT tr) b) {i:Nat} {l:List Trm} {k:Int} (h1:tr[i]? = some l) (h2:b[i]? = some k):atI ((wys l).map zh2) k = some (zh2 (way l k)):=by
 have:=zho hb h2 (s:=l.length + 1) (by unfold szT; rw [List.getElem?_map,h1]; rfl)
 obtain ⟨n,rfl⟩:=Int.eq_ofNat_of_zero_le this.1
 refine zcp ?_
 have hn:n < (wys l).length:=by simp [wys]; omega
 rw [List.getElem?_map,List.getElem?_eq_getElem hn]
 simp [way,List.getD_eq_getElem?_getD,List.getElem?_eq_getElem hn]
theorem zeG {n:Nat} {tr:List (List Trm)} {b:List Int} (ht:Trs n tr) (hb:Bgn (szT tr) b) (q:R (.d (.list ((tr.zip b).map fun q=>zh2 (way q.1 q.2)))) []):zcq [.d (zcV tr),.d (zaE b)] [] R:=by
 have h8:=zb3 ht
 unfold zcq
 walk_at "d"
 refine zfB ht ?_
 unfold zcV zaE
 walk_at "d"
 rw [List.map_map,zdv]
 refine cmp2 (S0:=[]) (fun q:List Trm × Int=>zh2 (way q.1 q.2)) rfl (tr.zip b) (by simp; omega) ?_ ?_
 ·intro x mx u v acc R' hk
  obtain ⟨i,hi⟩:=List.mem_iff_getElem?.mp mx
  rw [List.getElem?_zip_eq_some] at hi
  have e:=zqs hb hi.1 hi.2
  show zdr 2 _ (.d (.tuple [zg8 (wys x.1),.int x.2])) _ _ _
  rw [zcY]
  walk_at "d"
  refine ⟨_,e,?_⟩
  exact hk _ _
 ·walk_at "d"
  exact .inl q
def prc (tr:List (List Trm)) (b:List Int):Int:=((tr.zip b).map fun q=>(way q.1 q.2).2).sum
theorem zgD {n:Nat} {tr:List (List Trm)} {b:List Int} (ht:Trs n tr) (hb:Bgn (szT tr) b) (q:R (.d (.int (prc tr b))) []):zcD [.d (zcV tr),.d (zaE b)] [] R:=by
 have h8:=zb3 ht
 unfold zcD
 walk_at "d"
 refine zeG ht hb ?_
 walk_at "d"
 refine cmp1 (S0:=[]) (fun q:List Trm × Int=>.int (way q.1 q.2).2) rfl (tr.zip b) (by simp; omega) ?_ ?_
 ·intro x mx u acc R' hk
  rw [zfA]
  walk_at "d"
  exact hk _
 ·walk_at "d"
  exact ⟨_,by rw [List.map_map]; rfl,q⟩
def fld (ns:List Int) (tr:List (List Trm)) (b:List Int):List Int:=(ns.zip (tr.zip b)).map fun q=>q.1 - (way q.2.1 q.2.2).1
theorem znf {n:Nat} {ns:List Int} {tr:List (List Trm)} {b:List Int} (ht:Trs n tr) (hb:Bgn (szT tr) b) (q:R (.d (zaE (fld ns tr b))) []):zhV [.d (zaE ns),.d (zcV tr),.d (zaE b)] [] R:=by
 have h8:=zb3 ht
 unfold zhV
 walk_at "d"
 refine zeG ht hb ?_
 unfold zaE
 walk_at "d"
 rw [zdv]
 refine cmp2 (S0:=[]) (fun q:Int × (List Trm × Int)=>.int (q.1 - (way q.2.1 q.2.2).1)) rfl (ns.zip (tr.zip b)) (by simp; omega) ?_ ?_
 ·intro x mx u v acc R' hk
  show zdr 2 _ (.d (.tuple [.int x.1,zh2 (way x.2.1 x.2.2)])) _ _ _
  rw [zfA]
  walk_at "d"
  exact hk _ _
 ·walk_at "d"
  unfold zaE fld at q
  rw [List.map_map] at q
  exact q
def mst (l:List Trm):Int:=((wys l).getLastD (0,0)).1
def spn (ns:List Int) (tr:List (List Trm)) (b:List Int):List (Int × Int):=(fld ns tr b).map (fun x=>(x,x)) ++ ((ns.zip tr).drop b.length).map fun q=>(q.1 - mst q.2,q.1)
def lft (ps:List Part) (ns:List Int) (tr:List (List Trm)) (b:List Int):List Part:=(ps.zip (spn ns tr b)).map fun q=>(q.1.1,q.2.1,q.2.2)
theorem zjm {ns:List Int} {tr:List (List Trm)} {b:List Int} (h1:ns.length = tr.length) (hb:b.length <= tr.length):(fld ns tr b).length = b.length:=by
 simp [fld]
 omega
theorem zoE {ns:List Int} {tr:List (List Trm)} {b:List Int} (h1:ns.length = tr.length) (hb:b.length <= tr.length):(spn ns tr b).length = tr.length:=by
 simp only [spn,List.length_append,List.length_map,zjm h1 hb,List.length_drop,List.length_zip]
 omega
theorem zmc {ps:List Part} {ns:List Int} {tr:List (List Trm)} {b:List Int} (h0:ps.length = tr.length) (h1:ns.length = tr.length) (hb:b.length <= tr.length):(lft ps ns tr b).length = ps.length:=by
 simp only [lft,List.length_map,List.length_zip,zoE h1 hb]
 omega
theorem ziA {α:Type} (l:List α) (x:α):atI (l ++ [x]) (-1) = some x:=by
 have h:ixN (l ++ [x]).length (-1) = some l.length:=by
  unfold ixN
  rw [List.length_append,List.length_singleton,if_neg (by omega),if_pos (by omega)]
  congr 1
  omega
 unfold atI
 rw [h]
 simp
theorem zpu {l:List Trm}:atI ((wys l).map zh2) (-1) = some (zh2 ((wys l).getLastD (0,0))):=by
 have e:wys l = (wys l).dropLast ++ [(wys l).getLastD (0,0)]:=by
  have h:wys l ≠ []:=by simp [wys]
  have:=List.dropLast_concat_getLast h
  rw [List.getLastD_eq_getLast?,List.getLast?_eq_some_getLast h]
  exact this.symm
 rw [e,List.map_append]
 simp only [List.map_cons,List.map_nil]
 rw [ziA]
 congr 2
 simp
theorem zjv {α:Type} {ds:List α} {k:Nat} (h:k <= ds.length):zc7 ds (some (k:Int)) none = ds.drop k:=by
 have e1:HT.sIx ds.length 0 (some (k:Int)) = k:=by rw [HT.sIx_nat]; omega
 have e2:HT.sIx ds.length ds.length none = ds.length:=rfl
 unfold zc7
 rw [e1,e2,List.take_of_length_le (by simp)]
theorem zeR {n:Nat} {ps:List Part} {ns:List Int} {tr:List (List Trm)} {b:List Int} (ht:Trs n tr) (hb:Bgn (szT tr) b) (h0:ps.length = tr.length) (h1:ns.length = tr.length) (q:R (.d (zeE (lft ps ns tr b))) []):zbp [.d (zeE ps),.d (zaE ns),.d (zcV tr),.d (zaE b)] [] R:=by
 have h8:=zb3 ht
 have bl:=zek hb
 have bl':b.length <= tr.length:=by simpa [szT] using bl
 have fl:=zjm h1 bl'
 unfold zbp
 walk_at "d"
 (refine seq1 ?_; walk_at "d")
 (refine seq1 ?_; walk_at "d")
 refine znf ht hb ?_
 unfold zaE
 walk_at "d"
 refine cmp1 (S0:=[]) (fun x:Int=>.tuple [.int x,.int x]) rfl (fld ns tr b) (by omega) ?_ ?_
 ·intro x mx u acc R' hk
  walk_at "d"
  exact hk _
 walk_at "d"
 refine zfB ht ?_
 unfold zcV
 walk_at "d"
 refine ⟨by omega,?_⟩
 rw [List.map_map,zdv,zjv (by simp; omega),<- List.map_drop]
 refine zao (fun i δ S=>∃ (u v:Option XV),S = [((fld ns tr b).map (fun x=>(x,x)) ++ (((ns.zip tr).drop b.length).take i).map fun q=>(q.1 - mst q.2,q.1)).map fun s:Int × Int=>.tuple [.int s.1,.int s.2]]/\δ = [some (.d (zeE ps)),some (.d (.tuple (ns.map PyData.int))),some (.d (.tuple (tr.map zg8))),some (.d (.tuple (b.map PyData.int))),some (.l 0),u,v]) ⟨none,none,by simp,rfl⟩ ?_ ?_
 ·rintro i d _ _ N hi ⟨u,v,rfl,rfl⟩ hN
  obtain ⟨x,hx,rfl⟩:=zdp hi
  show zdr 2 _ (.d (.tuple [.int x.1,zg8 (wys x.2)])) _ _ _
  rw [zcY]
  walk_at "d"
  refine ⟨_,zpu,?_⟩
  rw [zfA]
  walk_at "d"
  have il:i < ((ns.zip tr).drop b.length).length:=(List.getElem?_eq_some_iff.mp hx).1
  refine ⟨by simp at il ⊢; omega,hN _ _ ⟨_,_,?_,rfl⟩⟩
  rw [List.take_add_one,hx]
  simp [mst]
 ·rintro _ _ ⟨u,v,rfl,rfl⟩
  rw [List.take_of_length_le (by simp)]
  refine ⟨[],_,rfl,_,rfl,_,rfl,_,rfl,_,rfl,?_⟩
  show zfq 0 _ _ _ _ (zgU (ps.map zkp) ((spn ns tr b).map fun s:Int × Int=>.tuple [.int s.1,.int s.2])) _ _
  rw [zdv]
  refine cmp2 (S0:=[]) (fun q:Part × (Int × Int)=>zkp (q.1.1,q.2.1,q.2.2)) rfl (ps.zip (spn ns tr b)) (by simp; omega) ?_ ?_
  ·intro x mx u v acc R' hk
   rw [zln]
   walk_at "d"
   exact hk _ _
  ·walk_at "d"
   unfold zeE lft at q
   rw [List.map_map] at q
   exact q
def Sz (sz:List Nat):Prop:=sz.length <= 8/\∀ s ∈ sz,s <= 4
theorem zoj {n:Nat} {tr:List (List Trm)} (ht:Trs n tr):Sz (szT tr):=by
 refine ⟨by simp [szT]; exact zb3 ht,fun s m=>?_⟩
 obtain ⟨l,ml,rfl⟩:=List.mem_map.mp m
 have:=ht.l3 l ml
 omega
theorem zjO:∀ {sz:List Nat},(∀ s ∈ sz,s <= 4)->zaI sz <= 4 ^ sz.length
 | [],_=>by decide
 | s :: sz,h=>by
  have h1:=h s List.mem_cons_self
  have h2:=zjO (sz:=sz) fun x m=>h x (List.mem_cons_of_mem _ m)
  show s * zaI sz <= 4 ^ (sz.length + 1)
  rw [Nat.pow_succ,Nat.mul_comm]
  exact Nat.mul_le_mul h2 h1
theorem zg3 (l:List Nat) (x:Nat):zaI (l ++ [x]) = zaI l * x:=by
 rw [zdz]
 simp [zaI]
theorem zdT {sz:List Nat} {ds:List PyData} (hz:Sz sz) (hl:ds.length <= sz.length) (q:R (.d (.int (zaI (sz.drop ds.length)))) []):zbk [.d (szD sz),.d (.tuple ds)] [] R:=by
 obtain ⟨h8,h4⟩:=hz
 unfold zbk szD
 walk_at "d"
 (refine seq1 ?_; walk_at "d")
 (refine seq1 ?_; walk_at "d")
 rw [zjv (by simpa using hl),<- List.map_drop]
 refine zao (fun i δ S=>∃ (u:Option XV),S = []/\δ = [some (.d (.list (sz.map fun n:Nat=>PyData.int n))),some (.d (.tuple ds)),some (.d (.int (zaI ((sz.drop ds.length).take i):Nat))),u]) ⟨none,rfl,by simp [zaI]⟩ ?_ ?_
 ·rintro i d _ _ N hi ⟨u,rfl,rfl⟩ hN
  obtain ⟨x,hx,rfl⟩:=zdp hi
  walk_at "d"
  have mx:x ∈ sz:=List.mem_of_mem_drop (List.mem_of_getElem? hx)
  have x4:=h4 x mx
  refine ⟨zme (by omega) (by omega),hN _ _ ⟨some (.d (.int x)),rfl,?_⟩⟩
  rw [List.take_add_one,hx]
  simp [zg3]
 ·rintro _ _ ⟨u,rfl,rfl⟩
  rw [List.length_map,List.take_length]
  walk_at "d"
  exact q
def chN (n:Nat):PyData->Bool
 | .int k=>decide (0 <= k/\k < n)
 | _=>false
def bgN (sz:List Nat):PyData->Bool
 | .tuple ds=>decide (ds.length <= sz.length) && ((ds.zip sz).map fun q=>chN q.2 q.1).all id
 | _=>false
theorem zg4 {sz:List Nat} {ds:List PyData}:bgN sz (.tuple ds) = (decide (ds.length <= sz.length) && ((ds.zip sz).map fun q=>chN q.2 q.1).all id):=rfl
theorem zfJ {d:PyData} (q:R (.d (.bool (zgZ d))) []):zdM [.d d] [] R:=by
 unfold zdM
 cases d <;> (walk_at "e"; exact q)
theorem zfS {sz:List Nat} {d:PyData} (hz:Sz sz) (q:R (.d (.bool (bgN sz d))) []):zcG [.d (szD sz),.d d] [] R:=by
 obtain ⟨h8,h4⟩:=hz
 unfold zcG szD
 cases d with
 | tuple ds =>
  walk_at "d"
  (refine seq1 ?_; walk_at "d")
  by_cases h:ds.length <= sz.length
  ·rw [if_neg (by omega)]
   walk_at "d"
   rw [zg4,decide_eq_true h] at q
   have ez:zgU ds (sz.map fun n:Nat=>PyData.int n) = (ds.zip sz).map fun q=>.tuple [q.1,.int (q.2:Nat)]:=by
    have:=zdv (fun d:PyData=>d) (fun n:Nat=>PyData.int n) ds sz
    rwa [List.map_id'] at this
   rw [ez]
   refine cmp2 (S0:=[]) (fun q:PyData × Nat=>.bool (chN q.2 q.1)) rfl (ds.zip sz) (by simp; omega) ?_ ?_
   ·intro x mx u v acc R' hk
    obtain ⟨d,l⟩:=x
    walk_at "d"
    refine zfJ ?_
    cases d with
    | int k =>
     simp only [zgZ]
     walk_at "d"
     have e0:chN l (.int k) = decide (0 <= k/\k < l):=rfl
     by_cases h0:0 <= k
     ·rw [if_pos h0]
      have:=hk (some (.d (.int k))) (some (.d (.int l)))
      rw [e0] at this
      simpa [h0] using this
     ·rw [if_neg h0]
      have:=hk (some (.d (.int k))) (some (.d (.int l)))
      rw [e0] at this
      simpa [h0] using this
    | none=>exact hk _ _
    | bool b=>exact hk _ _
    | str b=>exact hk _ _
    | list b=>exact hk _ _
    | dict b=>exact hk _ _
    | tuple b=>exact hk _ _
   ·walk_at "d"
    refine ⟨(ds.zip sz).map fun q=>chN q.2 q.1,by rw [List.map_map]; rfl,?_⟩
    exact q
  ·rw [if_pos (by omega)]
   rw [zg4,decide_eq_false h] at q
   exact q
 | none=>(walk_at "d"; (refine seq1 ?_; walk_at "d"); exact q)
 | bool b=>(walk_at "d"; (refine seq1 ?_; walk_at "d"); exact q)
 | int b=>(walk_at "d"; (refine seq1 ?_; walk_at "d"); exact q)
 | str b=>(walk_at "d"; (refine seq1 ?_; walk_at "d"); exact q)
 | list b=>(walk_at "d"; (refine seq1 ?_; walk_at "d"); exact q)
 | dict b=>(walk_at "d"; (refine seq1 ?_; walk_at "d"); exact q)
def bgO:PyData->List Int
 | .tuple ds=>ds.map fun d=>match d with | .int k=>k | _=>0
 | _=>[]
theorem zlB:∀ {sz:List Nat} {ds:List PyData},ds.length <= sz.length->((ds.zip sz).map fun q=>chN q.2 q.1).all id = true->∃ b:List Int,ds = b.map PyData.int/\Bgn sz b
 | sz,[],_,_=>⟨[],rfl,by cases sz <;> trivial⟩
 | [],_ :: _,h,_=>by simp at h
 | s :: sz,d :: ds,h,k=>by
  simp only [List.zip_cons_cons,List.map_cons,List.all_cons,Bool.and_eq_true,id] at k
  obtain ⟨b,rfl,hb⟩:=zlB (by simpa using h) k.2
  cases d with
  | int i=>exact ⟨i :: b,rfl,of_decide_eq_true k.1,hb⟩
  | _=>cases k.1
theorem zhv {sz:List Nat} {d:PyData}:bgN sz d = true ↔ ∃ b,d = zaE b/\Bgn sz b:=by
 constructor
 ·intro h
  cases d with
  | tuple ds =>
   rw [zg4,Bool.and_eq_true,decide_eq_true_eq] at h
   obtain ⟨b,rfl,hb⟩:=zlB h.1 h.2
   exact ⟨b,rfl,hb⟩
  | _=>cases h
 ·rintro ⟨b,rfl,hb⟩
  have hl:=zek hb
  unfold zaE
  rw [zg4,Bool.and_eq_true,decide_eq_true_eq]
  refine ⟨by simpa using hl,?_⟩
  rw [List.all_eq_true]
  intro x m
  obtain ⟨q,mq,rfl⟩:=List.mem_map.mp m
  obtain ⟨i,hi⟩:=List.mem_iff_getElem?.mp mq
  rw [List.getElem?_zip_eq_some] at hi
  obtain ⟨k,hk,e⟩:=zdp hi.1
  rw [e]
  exact decide_eq_true (zho hb hk hi.2)
theorem zhG (b:List Int):bgO (zaE b) = b:=by
 show (b.map PyData.int).map _ = b
 rw [List.map_map]
 exact List.map_id' b
def zog (sz:List Nat) (ds:List PyData):Bool:=ds.all (bgN sz) && (zic (ds.map bgO) && decide (zoA sz (ds.map bgO) = zaI sz))
theorem zlk:∀ B:List (List Int),zic B = ((B.zip B.tail).map fun q=>HT.lexLt q.1 q.2 && !(q.1.isPrefixOf q.2)).all id
 | []=>rfl
 | [x]=>rfl
 | x :: y :: r=>by
  have:=zlk (y :: r)
  simp only [zic,this,List.tail_cons,List.zip_cons_cons,List.map_cons,List.all_cons,id]
theorem zjC {x y:List Int}:x.isPrefixOf y = decide (y.take x.length = x):=by
 have:x.isPrefixOf y = true ↔ y.take x.length = x:=by
  rw [List.isPrefixOf_iff_prefix,List.prefix_iff_eq_take]
  exact eq_comm
 cases h:x.isPrefixOf y with
 | true=>rw [decide_eq_true (this.mp h)]
 | false =>
  rw [decide_eq_false]
  intro e
  rw [this.mpr e] at h
  cases h
theorem zhQ {α:Type} {ds:List α} {k:Nat}:zc7 ds none (some (k:Int)) = ds.take k:=by
 have e1:HT.sIx ds.length ds.length (some (k:Int)) = min k ds.length:=by rw [HT.sIx_nat]
 have e2:HT.sIx ds.length 0 none = 0:=rfl
 unfold zc7
 rw [e1,e2]
 rcases Nat.le_total k ds.length with h | h
 ·rw [Nat.min_eq_left h]
  simp
 ·rw [Nat.min_eq_right h,List.take_of_length_le (by simp),List.take_of_length_le h]
  simp
theorem cmp1dT {n:Nat} {S0:Sto} {g:DG} {te:DE} {fin:Sto->Prop} {caps:XE} (f:PyData->PyData) (hn:S0.length = n) (l:List PyData) {u:Option XV} (hl:l.length <= 1000)
  (el:∀ x ∈ l,∀ (u:Option XV) acc (R:XE->RX),(∀ u',R (u' :: caps) (.d (f x)) (S0 ++ [acc]))->g (.d x) (u :: caps) (S0 ++ [acc]) fun τ1 S1=>te τ1 S1 (R τ1)) (hf:fin (S0 ++ [l.map f])):zfq n g zaN te fin l (u :: caps) (S0 ++ [[]]):=by
 have:=cmp1 (h:=fun d:PyData=>d) (g:=g) (te:=te) (fin:=fin) (caps:=caps) (u:=u) f hn l hl el hf
 rwa [List.map_id'] at this
theorem cmp2dT {n:Nat} {S0:Sto} {g:DG} {te:DE} {fin:Sto->Prop} {caps:XE} (f:PyData->PyData) (hn:S0.length = n) (l:List PyData) {u v:Option XV} (hl:l.length <= 1000)
  (el:∀ x ∈ l,∀ (u v:Option XV) acc (R:XE->RX),(∀ u' v',R (u' :: v' :: caps) (.d (f x)) (S0 ++ [acc]))->g (.d x) (u :: v :: caps) (S0 ++ [acc]) fun τ1 S1=>te τ1 S1 (R τ1)) (hf:fin (S0 ++ [l.map f])):zfq n g zaN te fin l (u :: v :: caps) (S0 ++ [[]]):=by
 have:=cmp2 (h:=fun d:PyData=>d) (g:=g) (te:=te) (fin:=fin) (caps:=caps) (u:=u) (v:=v) f hn l hl el hf
 rwa [List.map_id'] at this
theorem znx {α:Type}:∀ ds:List α,zc7 ds (some 1) none = ds.tail
 | []=>by
  unfold zc7
  simp
 | x :: r=>by
  have:=zjv (ds:=x :: r) (k:=1) (by simp)
  rw [List.drop_one] at this
  exact this
theorem Rb' {b c:Bool} {S:Sto} (q:R (.d (.bool b)) S) (e:b = c):R (.d (.bool c)) S:=e ▸ q
theorem zjl {sz:List Nat} {ds:List PyData} (hz:Sz sz) (hl:ds.length <= 900) (q:R (.d (.bool (zog sz ds))) []):zbq [.d (szD sz),.d (.list ds)] [] R:=by
 unfold zbq
 walk_at "d"
 (refine seq1 ?_; walk_at "d")
 refine cmp1dT (S0:=[]) (fun d=>.bool (bgN sz d)) rfl ds (by omega) ?_ ?_
 ·intro x mx u acc R' hk
  walk_at "d"
  refine zfS hz ?_
  walk_at "d"
  exact hk _
 walk_at "d"
 refine ⟨ds.map (bgN sz),by rw [List.map_map]; rfl,?_⟩
 have ea:(ds.map (bgN sz)).all id = ds.all (bgN sz):=by rw [List.all_map]; rfl
 rw [ea]
 cases h:ds.all (bgN sz) with
 | false =>
  walk_at "d"
  unfold zog at q
  rw [h] at q
  exact q
 | true =>
  have hB:∃ B:List (List Int),ds = B.map zaE/\∀ b ∈ B,Bgn sz b:=by
   rw [List.all_eq_true] at h
   clear ea q hl
   induction ds with
   | nil=>exact ⟨[],rfl,fun b m=>by cases m⟩
   | cons d ds ih =>
    obtain ⟨b,rfl,hb⟩:=zhv.mp (h d List.mem_cons_self)
    obtain ⟨B,rfl,hB⟩:=ih fun x m=>h x (List.mem_cons_of_mem _ m)
    exact ⟨b :: B,rfl,fun x m=>(List.mem_cons.mp m).elim (fun e=>e ▸ hb) (hB x)⟩
  obtain ⟨B,rfl,hB⟩:=hB
  have eo:(B.map zaE).map bgO = B:=by
   rw [List.map_map]
   conv=>rhs; rw [<- List.map_id B]
   exact List.map_congr_left fun b _=>zhG b
  unfold zog at q
  rw [h,eo,Bool.true_and] at q
  rw [List.length_map] at hl
  walk_at "d"
  (refine seq1 ?_; walk_at "d")
  rw [znx,<- List.map_tail,zdv]
  refine cmp2 (S0:=[]) (fun q:List Int × List Int=>.bool (HT.lexLt q.1 q.2 && !(q.1.isPrefixOf q.2))) rfl (B.zip B.tail) (by simp; omega) ?_ ?_
  ·intro x mx u v acc R' hk
   unfold zaE
   walk_at "d"
   refine ⟨x.1,rfl,x.2,rfl,?_⟩
   cases hx:HT.lexLt x.1 x.2 with
   | false =>
    have:=hk (some (.d (.tuple (x.1.map PyData.int)))) (some (.d (.tuple (x.2.map PyData.int))))
    rw [hx] at this
    exact this
   | true =>
    have:=hk (some (.d (.tuple (x.1.map PyData.int)))) (some (.d (.tuple (x.2.map PyData.int))))
    rw [hx,Bool.true_and,zjC] at this
    walk_at "d"
    rw [zhQ,<- List.map_take]
    have e:=zlT (x.2.take x.1.length) x.1
    unfold zaE at e
    rw [e]
    exact ⟨zeA _,zeA _,this⟩
  walk_at "d"
  refine ⟨(B.zip B.tail).map fun q=>HT.lexLt q.1 q.2 && !(q.1.isPrefixOf q.2),by rw [List.map_map]; rfl,?_⟩
  rw [<- zlk]
  cases ha:zic B with
  | false =>
   rw [ha] at q
   walk_at "d"
   exact q
  | true =>
   rw [ha,Bool.true_and] at q
   walk_at "d"
   refine cmp1 (S0:=[]) (fun b:List Int=>.int (zaI (sz.drop b.length):Nat)) rfl B (by omega) ?_ ?_
   ·intro b mb u acc R' hk
    have bl:=zek (hB b mb)
    unfold zaE
    walk_at "d"
    refine zdT hz (by simpa using bl) ?_
    rw [List.length_map]
    walk_at "d"
    exact hk _
   walk_at "d"
   refine ⟨B.map fun b=>((zaI (sz.drop b.length):Nat):Int),by rw [List.map_map]; rfl,?_⟩
   refine zdT (ds:=[]) hz (Nat.zero_le _) ?_
   walk_at "d"
   rw [List.drop_zero]
   have e:(B.map fun b=>((zaI (sz.drop b.length):Nat):Int)).sum = ((zoA sz B:Nat):Int):=by
    unfold zoA
    clear q hB hl ea h eo ha
    induction B with
    | nil=>rfl
    | cons b B ih=>simp [ih]
   rw [e]
   refine Rb' q ?_
   simp only [decide_eq_decide]
   omega
def t2:PyData->Bool
 | .tuple [_,_]=>true
 | _=>false
def fs1:PyData->PyData
 | .tuple (a :: _)=>a
 | _=>.none
def sn1:PyData->PyData
 | .tuple [_,b]=>b
 | _=>.none
theorem zny {d:PyData} (h:t2 d = true):d = .tuple [fs1 d,sn1 d]:=by
 unfold t2 at h
 split at h
 ·rfl
 ·cases h
def arB (sz:List Nat):PyData->Bool
 | .list rows=>rows.all t2 && zog sz (rows.map fs1)
 | _=>false
theorem zig {sz:List Nat} {rows:List PyData}:arB sz (.list rows) = (rows.all t2 && zog sz (rows.map fs1)):=rfl
theorem zr4 {d:PyData} {T:RX} (q:T (.d (.bool (t2 d))) S):zfx (dCB zh9 (ze (zm 0) (ze (dO (.ty "tuple")) zt))) (dOp zgl (dCB zaB (ze (zm 0) zt)) (dC (.int 2))) [some (.d d)] S T:=by
 cases d with
 | tuple ds =>
  walk_at "d"
  match ds,q with
  | [],q=>exact q
  | [_],q=>exact q
  | [_,_],q=>exact q
  | _ :: _ :: _ :: r,q =>
   rw [decide_eq_false (by simp; omega)]
   exact q
 | none=>(walk_at "d"; exact q)
 | bool b=>(walk_at "d"; exact q)
 | int b=>(walk_at "d"; exact q)
 | str b=>(walk_at "d"; exact q)
 | list b=>(walk_at "d"; exact q)
 | dict b=>(walk_at "d"; exact q)
theorem zjq {sz:List Nat} {d:PyData} (hz:Sz sz) (hl:∀ rows,d = .list rows->rows.length <= 900) (q:R (.d (.bool (arB sz d))) []):zeB [.d (szD sz),.d d] [] R:=by
 unfold zeB
 cases d with
 | list rows =>
  have hl:=hl rows rfl
  walk_at "d"
  (refine seq1 ?_; walk_at "d")
  (refine seq1 ?_; walk_at "d")
  refine cmp1dT (S0:=[]) (fun d=>.bool (t2 d)) rfl rows (by omega) ?_ ?_
  ·intro x mx u acc R' hk
   show zfx _ _ [some (.d x)] _ _
   exact zr4 (hk _)
  walk_at "d"
  refine ⟨rows.map t2,by rw [List.map_map]; rfl,?_⟩
  have ea:(rows.map t2).all id = rows.all t2:=by rw [List.all_map]; rfl
  rw [ea]
  cases h:rows.all t2 with
  | false =>
   walk_at "d"
   rw [zig,h] at q
   exact q
  | true =>
   rw [zig,h,Bool.true_and] at q
   rw [List.all_eq_true] at h
   walk_at "d"
   refine cmp1dT (S0:=[]) fs1 rfl rows (by omega) ?_ ?_
   ·intro x mx u acc R' hk
    have:=hk (some (.d x))
    rw [zny (h x mx)] at this ⊢
    walk_at "d"
    exact this
   walk_at "d"
   refine zjl hz (by simpa using hl) ?_
   walk_at "d"
   exact q
 | none=>(walk_at "d"; (refine seq1 ?_; walk_at "d"); exact q)
 | bool b=>(walk_at "d"; (refine seq1 ?_; walk_at "d"); exact q)
 | int b=>(walk_at "d"; (refine seq1 ?_; walk_at "d"); exact q)
 | str b=>(walk_at "d"; (refine seq1 ?_; walk_at "d"); exact q)
 | tuple b=>(walk_at "d"; (refine seq1 ?_; walk_at "d"); exact q)
 | dict b=>(walk_at "d"; (refine seq1 ?_; walk_at "d"); exact q)
def zg0:PyData->Bool
 | .tuple [.str x]=>decide (x = "dear")
 | _=>false
theorem zns (w:PyData):PyData.eqv w (.tuple [.str "dear"]) = zg0 w:=by
 cases w with
 | tuple ds =>
  match ds with
  | []=>rfl
  | [x] =>
   show (PyData.eqv x (.str "dear") && true) = _
   rw [Bool.and_true]
   cases x <;> rfl
  | x :: y :: r =>
   show (PyData.eqv x (.str "dear") && false) = _
   rw [Bool.and_false]
   cases x <;> rfl
 | _=>rfl
def zgP:PyData->Bool
 | .tuple [.str x,_]=>decide (x = "off")
 | _=>false
def zs7:PyData->PyData
 | .tuple [_,k]=>k
 | _=>.none
def zmY (gs:List Gap) (k:Int):Gap:=gs.getD k.toNat ⟨[],0,0⟩
def zrW (ps:List Part) (gs:List Gap) (ns:List Int) (tr:List (List Trm)) (b:List Int):PyData->Bool
 | .int k=>decide (0 <= k/\k < gs.length) && zhC (lft ps ns tr b) (zmY gs k)
 | _=>false
theorem zj3 {ps:List Part} {gs:List Gap} {ns:List Int} {tr:List (List Trm)} {b:List Int} (k:Int):zrW ps gs ns tr b (.int k) = (decide (0 <= k/\k < gs.length) && zhC (lft ps ns tr b) (zmY gs k)):=rfl
def zke (ps:List Part) (gs:List Gap) (ns:List Int) (tr:List (List Trm)) (price:Int) (b:List Int) (w:PyData):Bool :=
 if zg0 w then decide (price <= prc tr b) else zgP w && zrW ps gs ns tr b (zs7 w)
structure GsT (n:Nat) (gs:List Gap):Prop where
 t3:∀ g ∈ gs,Tm3 n g.ts
 le:∀ g ∈ gs,g.lo <= g.hi
structure WT (w:PyData):Prop where
 sh:SeqAt.shaped w = true
 el:∀ ds,w = .tuple ds->∀ x ∈ ds,SeqAt.shaped x = true
theorem zlP {gs:List Gap} {k:Int} (h0:0 <= k) (h1:k < gs.length):atI (gs.map zi3) k = some (zi3 (zmY gs k))/\zmY gs k ∈ gs:=by
 obtain ⟨n,rfl⟩:=Int.eq_ofNat_of_zero_le h0
 have hn:n < gs.length:=by omega
 have e:zmY gs (n:Int) = gs[n]:=by simp [zmY,List.getD_eq_getElem?_getD,List.getElem?_eq_getElem hn]
 rw [e]
 exact ⟨zbN (List.getElem?_eq_getElem hn),List.getElem_mem hn⟩
theorem zsS {ps:List Part} {gs:List Gap} {ns:List Int} {tr:List (List Trm)} {price:Int} {b:List Int} {w:PyData} (h:zg0 w = true):zke ps gs ns tr price b w = decide (price <= prc tr b):=by
 unfold zke
 rw [if_pos h]
theorem zqw {ps:List Part} {gs:List Gap} {ns:List Int} {tr:List (List Trm)} {price:Int} {b:List Int} {w:PyData} (h:zg0 w = false) (k:zgP w = false):zke ps gs ns tr price b w = false:=by
 unfold zke
 rw [h,k]
 rfl
theorem zmp {n:Nat} {ps:List Part} {gs:List Gap} {ns:List Int} {tr:List (List Trm)} {price:Int} {b:List Int} {w:PyData} (ht:Trs n tr) (hb:Bgn (szT tr) b) (h0:ps.length = tr.length) (h1:ns.length = tr.length) (hg:GsT ps.length gs) (hw:WT w)
  (q:R (.d (.bool (zke ps gs ns tr price b w))) []):zbt [.d (.tuple [zeE ps,zdi gs]),.d (zaE ns),.d (zcV tr),.d (.int price),.d (zaE b),.d w] [] R:=by
 unfold zbt
 walk_at "d"
 (refine seq1 ?_; walk_at "d")
 refine ⟨hw.sh,by decide +kernel,?_⟩
 rw [zns]
 cases hd:zg0 w with
 | true =>
  rw [zsS hd] at q
  walk_at "d"
  refine zgD ht hb ?_
  walk_at "d"
  exact q
 | false =>
  have bl:=zek hb
  have bl':b.length <= tr.length:=by simpa [szT] using bl
  have fal:zgP w = false->R (.d (.bool false)) []:=fun k=>by rw [zqw hd k] at q; exact q
  walk_at "d"
  (refine seq1 ?_; walk_at "d")
  cases w with
  | tuple ds =>
   match ds with
   | []=>(walk_at "d"; exact fal rfl)
   | [x] =>
    walk_at "d"
    exact fal (by cases x <;> rfl)
   | x :: y :: z :: r =>
    walk_at "d"
    have:zgP (.tuple (x :: y :: z :: r)) = false:=by cases x <;> rfl
    rw [if_pos (by omega)]
    exact fal this
   | [x,k] =>
    have e2:zgP (.tuple [x,k]) = PyData.eqv x (.str "off"):=by cases x <;> rfl
    walk_at "d"
    refine ⟨hw.el _ rfl x (by simp),by decide +kernel,?_⟩
    rw [<- e2]
    cases hoff:zgP (.tuple [x,k]) with
    | false=>exact fal hoff
    | true =>
     have ew:zke ps gs ns tr price b (.tuple [x,k]) = zrW ps gs ns tr b k:=by
      unfold zke
      rw [hd,hoff]
      rfl
     rw [ew] at q
     walk_at "d"
     (refine seq1 ?_; walk_at "d")
     refine zfJ ?_
     cases k with
     | int k =>
      rw [zj3] at q
      simp only [zgZ]
      walk_at "d"
      unfold zdi
      by_cases hk0:0 <= k
      ·rw [if_pos hk0]
       walk_at "d"
       by_cases hk1:k < gs.length
       ·rw [if_neg (by simpa using hk1)]
        walk_at "d"
        refine zeR ht hb h0 h1 ?_
        obtain ⟨e3,m3⟩:=zlP hk0 hk1
        walk_at "d"
        refine ⟨_,e3,?_⟩
        refine zk0 (by rw [zmc h0 h1 bl']; exact hg.t3 _ m3) (hg.le _ m3) ?_
        walk_at "d"
        simpa [hk0,hk1] using q
       ·rw [if_pos (by simpa using hk1)]
        simpa [hk0,hk1] using q
      ·rw [if_neg hk0]
       walk_at "d"
       simpa [hk0] using q
     | none=>(walk_at "d"; exact q)
     | bool b=>(walk_at "d"; exact q)
     | str b=>(walk_at "d"; exact q)
     | list b=>(walk_at "d"; exact q)
     | dict b=>(walk_at "d"; exact q)
     | tuple b=>(walk_at "d"; exact q)
  | none=>(walk_at "d"; exact fal rfl)
  | bool b=>(walk_at "d"; exact fal rfl)
  | int b=>(walk_at "d"; exact fal rfl)
  | str b=>(walk_at "d"; exact fal rfl)
  | list b=>(walk_at "d"; exact fal rfl)
  | dict b=>(walk_at "d"; exact fal rfl)
def rwB (ps:List Part) (gs:List Gap) (ns:List Int) (tr:List (List Trm)) (price:Int) (r:PyData):Bool:=zke ps gs ns tr price (bgO (fs1 r)) (sn1 r)
def zoN (ps:List Part) (gs:List Gap) (ns:List Int) (tr:List (List Trm)) (price:Int):PyData->Bool
 | .list rows=>arB (szT tr) (.list rows) && rows.all (rwB ps gs ns tr price)
 | _=>false
theorem zhA {ps:List Part} {gs:List Gap} {ns:List Int} {tr:List (List Trm)} {price:Int} {rows:List PyData}:zoN ps gs ns tr price (.list rows) = (arB (szT tr) (.list rows) && rows.all (rwB ps gs ns tr price)):=rfl
structure ThB (d:PyData):Prop where
 len:∀ rows,d = .list rows->rows.length <= 900
 why:∀ rows,d = .list rows->∀ r ∈ rows,∀ b w,r = .tuple [b,w]->WT w
theorem zif {n:Nat} {ps:List Part} {gs:List Gap} {ns:List Int} {tr:List (List Trm)} {price:Int} {d:PyData} (ht:Trs n tr) (h0:ps.length = tr.length) (h1:ns.length = tr.length) (hg:GsT ps.length gs) (hd:ThB d)
  (q:R (.d (.bool (zoN ps gs ns tr price d))) []):zd0 [.d (.tuple [zeE ps,zdi gs]),.d (zaE ns),.d (zcV tr),.d (.int price),.d d] [] R:=by
 unfold zd0
 walk_at "d"
 (refine seq1 ?_; walk_at "d")
 refine zfB ht ?_
 walk_at "d"
 refine zlv ht ?_
 walk_at "d"
 refine zjq (zoj ht) hd.len ?_
 walk_at "d"
 cases ha:arB (szT tr) d with
 | false =>
  walk_at "d"
  have:zoN ps gs ns tr price d = false:=by
   cases d with
   | list rows=>rw [zhA,ha]; rfl
   | _=>rfl
  rw [this] at q
  exact q
 | true =>
  cases d with
  | list rows =>
   have hl:=hd.len rows rfl
   rw [zhA,ha,Bool.true_and] at q
   rw [zig,Bool.and_eq_true] at ha
   obtain ⟨h2,h3⟩:=ha
   unfold zog at h3
   rw [Bool.and_eq_true] at h3
   obtain ⟨h3,_⟩:=h3
   rw [List.all_eq_true] at h2 h3
   walk_at "d"
   refine cmp2dT (S0:=[]) (fun r=>.bool (rwB ps gs ns tr price r)) rfl rows (by omega) ?_ ?_
   ·intro x mx u v acc R' hk
    have e:=zny (h2 x mx)
    obtain ⟨b,e1,hb⟩:=zhv.mp (h3 _ (List.mem_map_of_mem mx))
    have ew:rwB ps gs ns tr price x = zke ps gs ns tr price b (sn1 x):=by
     unfold rwB
     rw [e1,zhG]
    rw [e1] at e
    have wt:=hd.why rows rfl x mx _ _ e
    have hk':=hk (some (.d (zaE b))) (some (.d (sn1 x)))
    rw [ew] at hk'
    generalize sn1 x = w at e wt hk'
    subst e
    walk_at "d"
    refine zmp ht hb h0 h1 hg wt ?_
    walk_at "d"
    exact hk'
   walk_at "d"
   refine ⟨rows.map (rwB ps gs ns tr price),by rw [List.map_map]; rfl,?_⟩
   rw [List.all_map]
   exact q
  | _=>cases ha
end
section
variable {R:RX} {S:Sto}
theorem zkr {p:List PyData} {ps:List Part} (hp:za6 p) (hd:Drw ps) (q:∀ ns p',InBox ps ns->za6 p'->R (.d (zaE ns)) [p']):zfr [.l 0,.d (zeE ps)] [p] R:=by
 have l8:=hd.l8
 unfold zfr
 rw [zeE]
 walk_at "d"
 (refine seq1 ?_; walk_at "d")
 refine seq1 ?_
 walk_at "d"
 refine zao (fun i δ S=>∃ (p:List PyData) (ns:List Int) (u1 u2 u3 u4:Option XV),S = [p,ns.map PyData.int]/\za6 p/\δ = [some (.l 0),some (.d (.tuple (ps.map zkp))),some (.l 1),u1,u2,u3,u4]/\ns.length = i/\∀ j,j < i->plo ps j <= ns.getD j 0/\ns.getD j 0 <= phi ps j) ⟨p,[],_,_,_,_,rfl,hp,rfl,rfl,fun j hj=>by omega⟩ ?_ ?_
 ·rintro i d _ _ N hi ⟨p,ns,u1,u2,u3,u4,rfl,hp,rfl,hl,hns⟩ hN
  obtain ⟨t,ht,rfl⟩:=zdp hi
  have mt:=List.mem_of_getElem? ht
  have lo:=(hd.all t mt).le
  have il:i < ps.length:=(List.getElem?_eq_some_iff.mp ht).1
  have et:part ps i = t:=Option.some.inj ((zhx il).symm.trans ht)
  rw [zln]
  walk_at "d"
  refine seq1 ?_
  walk_at "d"
  refine .inl ⟨⟨by decide,by decide +kernel⟩,?_⟩
  walk_at "d"
  refine ⟨⟨by decide,by decide,by decide⟩,?_⟩
  refine zD hp (by decide) (by decide +kernel) fun r p1 r0 r1 hp1=>?_
  walk_at "d"
  refine ⟨by omega,?_⟩
  refine zD hp1 (by decide) (by decide +kernel) fun r' p2 r2 r3 hp2=>?_
  have b1:=Int.emod_nonneg r (show t.2.2 - t.2.1 + 1 ≠ 0 by omega)
  have b2:=Int.emod_lt_of_pos r (show 0 < t.2.2 - t.2.1 + 1 by omega)
  obtain ⟨d,ed,n,rfl,n0,n1⟩:=zkz (P:=fun d=>∃ n,d = .int n/\t.2.1 <= n/\n <= t.2.2) (ds:=[PyData.int t.2.1,PyData.int t.2.2,PyData.int (t.2.1 + (t.2.2 - t.2.1) / 2),PyData.int (if t.2.1 + 1 < t.2.2 then t.2.1 + 1 else t.2.2),PyData.int (if t.2.2 - 1 > t.2.1 then t.2.2 - 1 else t.2.1),PyData.int (t.2.1 + r % (t.2.2 - t.2.1 + 1))]) r2 r3 (by
   intro d m
   simp only [List.mem_cons,List.not_mem_nil,or_false] at m
   rcases m with rfl | rfl | rfl | rfl | rfl | rfl
   ·exact ⟨_,rfl,by omega,by omega⟩
   ·exact ⟨_,rfl,by omega,by omega⟩
   ·exact ⟨_,rfl,by omega,by omega⟩
   ·exact ⟨_,rfl,by split <;> omega,by split <;> omega⟩
   ·exact ⟨_,rfl,by split <;> omega,by split <;> omega⟩
   ·exact ⟨_,rfl,by omega,by omega⟩)
  walk_at "d"
  refine ⟨_,ed,?_⟩
  walk_at "d"
  refine ⟨by omega,hN _ _ ⟨p2,ns ++ [n],_,_,_,_,by simp,hp2,rfl,by simp [hl],fun j hj=>?_⟩⟩
  by_cases hji:j < i
  ·have e:(ns ++ [n]).getD j 0 = ns.getD j 0:=by
    rw [List.getD_eq_getElem?_getD,List.getD_eq_getElem?_getD,List.getElem?_append_left (by omega)]
   rw [e]
   exact hns j hji
  ·have hj2:j = ns.length:=by omega
   subst hj2
   have e:(ns ++ [n]).getD ns.length 0 = n:=by
    rw [List.getD_eq_getElem?_getD,List.getElem?_concat_length]
    rfl
   rw [e,hl]
   unfold plo phi
   rw [et]
   exact ⟨n0,n1⟩
 ·rintro _ _ ⟨p,ns,u1,u2,u3,u4,rfl,hp,rfl,hl,hns⟩
  rw [List.length_map] at hl hns
  walk_at "d"
  exact q ns p ⟨hl,hns⟩ hp
end
section
variable {R:RX} {S:Sto}
theorem zfe {d:PyData} (q:R (.d (.bool (zgZ d))) []):zdb [.d d] [] R:=by
 unfold zdb
 cases d <;> (walk_at "e"; exact q)
theorem zeS {n:Nat} {tr:List (List Trm)} {d:PyData} (ht:Trs n tr) (q:R (.d (.bool (bgN (szT tr) d))) []):zbs [.d (zcV tr),.d d] [] R:=by
 have h8:=zb3 ht
 unfold zbs zcV
 cases d with
 | tuple ds =>
  walk_at "d"
  (refine seq1 ?_; walk_at "d")
  have hs:(szT tr).length = tr.length:=by simp [szT]
  by_cases h:ds.length <= tr.length
  ·rw [if_neg (by omega)]
   walk_at "d"
   rw [zg4,decide_eq_true (by omega)] at q
   have ez:zgU ds (tr.map zg8) = (ds.zip tr).map fun q=>.tuple [q.1,zg8 q.2]:=by
    have:=zdv (fun d:PyData=>d) zg8 ds tr
    rwa [List.map_id'] at this
   rw [ez]
   refine cmp2 (S0:=[]) (fun q:PyData × List Trm=>.bool (chN (q.2.length + 1) q.1)) rfl (ds.zip tr) (by simp; omega) ?_ ?_
   ·intro x mx u v acc R' hk
    obtain ⟨d,l⟩:=x
    rw [zcY]
    walk_at "d"
    refine zfe ?_
    cases d with
    | int k =>
     simp only [zgZ]
     walk_at "d"
     have e0:chN (l.length + 1) (.int k) = decide (0 <= k/\k < ((l.length + 1:Nat):Int)):=rfl
     have:=hk (some (.d (.int k))) (some (.d (.tuple (l.map zh2))))
     rw [e0] at this
     by_cases h0:0 <= k
     ·rw [if_pos h0]
      refine Rb' this ?_
      simp only [decide_eq_decide]
      omega
     ·rw [if_neg h0]
      refine Rb' this ?_
      rw [decide_eq_false]
      omega
    | none=>exact hk _ _
    | bool b=>exact hk _ _
    | str b=>exact hk _ _
    | list b=>exact hk _ _
    | dict b=>exact hk _ _
    | tuple b=>exact hk _ _
   ·walk_at "d"
    refine ⟨(ds.zip tr).map fun q=>chN (q.2.length + 1) q.1,by rw [List.map_map]; rfl,?_⟩
    have e1:(ds.zip (szT tr)).map (fun q=>chN q.2 q.1) = (ds.zip tr).map fun q=>chN (q.2.length + 1) q.1:=by
     unfold szT
     rw [List.zip_map_right,List.map_map]
     rfl
    rw [e1] at q
    exact q
  ·rw [if_pos (by omega)]
   rw [zg4,decide_eq_false (by omega)] at q
   exact q
 | none=>(walk_at "d"; (refine seq1 ?_; walk_at "d"); exact q)
 | bool b=>(walk_at "d"; (refine seq1 ?_; walk_at "d"); exact q)
 | int b=>(walk_at "d"; (refine seq1 ?_; walk_at "d"); exact q)
 | str b=>(walk_at "d"; (refine seq1 ?_; walk_at "d"); exact q)
 | list b=>(walk_at "d"; (refine seq1 ?_; walk_at "d"); exact q)
 | dict b=>(walk_at "d"; (refine seq1 ?_; walk_at "d"); exact q)
theorem zkZ {α β:Type}:∀ (a:List α) (b:List β) (j:Nat),a.zip (b.take j) = (a.zip b).take j
 | [],b,j=>by simp
 | x :: a,[],j=>by simp
 | x :: a,y :: b,0=>by simp
 | x :: a,y :: b,j + 1=>by simp [zkZ a b j]
theorem zm2 {tr:List (List Trm)} {b:List Int} {i:Nat} {l:List Trm} {k:Int} (h1:tr[i]? = some l) (h2:b[i]? = some k):prc tr (b.take (i + 1)) = prc tr (b.take i) + (way l k).2:=by
 unfold prc
 rw [zkZ,zkZ,List.take_add_one,(List.getElem?_zip_eq_some (z:=(l,k))).mpr ⟨h1,h2⟩]
 simp
theorem zpa {tr:List (List Trm)} {b:List Int} (hb:Bgn (szT tr) b) {i:Nat} {l:List Trm} {k:Int} (h1:tr[i]? = some l) (h2:b[i]? = some k):atI (PyData.int 0 :: l.map fun p=>PyData.int p.2) k = some (.int (way l k).2):=by
 have:=zho hb h2 (s:=l.length + 1) (by unfold szT; rw [List.getElem?_map,h1]; rfl)
 obtain ⟨n,rfl⟩:=Int.eq_ofNat_of_zero_le this.1
 refine zcp ?_
 have hn:n < (wys l).length:=by simp [wys]; omega
 have e:(PyData.int 0 :: l.map fun p=>PyData.int p.2) = (wys l).map fun p=>PyData.int p.2:=rfl
 rw [e,List.getElem?_map,List.getElem?_eq_getElem hn]
 simp [way,List.getD_eq_getElem?_getD,List.getElem?_eq_getElem hn]
theorem zeh {n:Nat} {tr:List (List Trm)} {b:List Int} (ht:Trs n tr) (hb:Bgn (szT tr) b) (q:R (.d (.int (prc tr b))) []):za9 [.d (zcV tr),.d (zaE b)] [] R:=by
 have h8:=zb3 ht
 have bl:=zek hb
 have bl':b.length <= tr.length:=by simpa [szT] using bl
 unfold za9
 walk_at "d"
 (refine seq1 ?_; walk_at "d")
 (refine seq1 ?_; walk_at "d")
 refine ⟨b.length,by unfold zaE; walk_at "d",?_⟩
 refine zao (fun i δ S=>∃ (u:Option XV),S = []/\δ = [some (.d (zcV tr)),some (.d (zaE b)),some (.d (.int (prc tr (b.take i)))),u]) ⟨none,rfl,by simp [prc]⟩ ?_ ?_
 ·rintro i d _ _ N hi ⟨u,rfl,rfl⟩ hN
  obtain ⟨hi',rfl⟩:=zbB hi
  have hi8:i < b.length:=by simpa using hi'
  have hb1:=List.getElem?_eq_getElem hi8
  have ht1:=List.getElem?_eq_getElem (show i < tr.length by omega)
  have e1:atI (tr.map zg8) (i:Int) = some (zg8 tr[i]):=zbN ht1
  have l3:=ht.l3 _ (List.getElem_mem (show i < tr.length by omega))
  unfold zcV zaE
  simp only [Int.zero_add]
  walk_at "d"
  refine ⟨_,e1,?_⟩
  rw [zcY]
  walk_at "d"
  refine cmp2 (S0:=[]) (fun p:Trm=>.int p.2) rfl tr[i] (by omega) ?_ ?_
  ·intro x mx u v acc R' hk
   rw [zfA]
   walk_at "d"
   exact hk _ _
  walk_at "d"
  refine ⟨by omega,_,zbN hb1,?_⟩
  walk_at "d"
  refine ⟨_,zpa hb ht1 hb1,?_⟩
  walk_at "d"
  refine hN _ _ ⟨some (.d (.int i)),rfl,?_⟩
  rw [zm2 ht1 hb1]
  rfl
 ·rintro _ _ ⟨u,rfl,rfl⟩
  rw [zam,Int.toNat_natCast,List.take_length]
  walk_at "d"
  exact q
theorem zeJ {tr:List (List Trm)} {i:Nat} {l:List Trm} {k:Int} (h1:tr[i]? = some l) (k0:0 <= k) (k1:k <= l.length) (q:R (.d (.int (way l k).1)) []):zcj [.d (zcV tr),.d (.int i),.d (.int k)] [] R:=by
 unfold zcj
 walk_at "d"
 (refine seq1 ?_; walk_at "d")
 by_cases h:k = 0
 ·rw [if_pos h]
  subst h
  exact q
 ·rw [if_neg h]
  unfold zcV
  walk_at "d"
  refine ⟨_,zbN h1,?_⟩
  rw [zcY]
  walk_at "d"
  obtain ⟨m,rfl⟩:=Int.eq_ofNat_of_zero_le k0
  have hm:m - 1 < l.length:=by omega
  have e:(m:Int) - 1 = ((m - 1:Nat):Int):=by omega
  rw [e]
  refine ⟨_,zbN (List.getElem?_eq_getElem hm),?_⟩
  rw [zfA]
  walk_at "d"
  have e2:way l (m:Int) = l[m - 1]:=by
   unfold way wys
   rw [Int.toNat_natCast]
   obtain ⟨j,rfl⟩:∃ j,m = j + 1:=⟨m - 1,by omega⟩
   have hj:j < l.length:=by omega
   simp [List.getD_eq_getElem?_getD,List.getElem?_eq_getElem hj]
  rw [e2] at q
  exact q
theorem zph (l:List Trm):mst l = (way l l.length).1:=by
 unfold mst way wys
 rw [Int.toNat_natCast,List.getLastD_eq_getLast?,List.getLast?_eq_getElem?,List.getD_eq_getElem?_getD]
 simp
theorem zq7 {ps:List Part} {ns:List Int} {tr:List (List Trm)} {b:List Int} (h0:ps.length = tr.length) (h1:ns.length = tr.length) (hb:b.length <= tr.length) {i:Nat} {x:Int} {l:List Trm} (e1:ns[i]? = some x) (e2:tr[i]? = some l) :
  (∀ k,b[i]? = some k->plo (lft ps ns tr b) i = x - (way l k).1/\phi (lft ps ns tr b) i = x - (way l k).1)/\(b[i]? = none->plo (lft ps ns tr b) i = x - mst l/\phi (lft ps ns tr b) i = x):=by
 have il:i < tr.length:=(List.getElem?_eq_some_iff.mp e2).1
 have hp:=zhx (ps:=lft ps ns tr b) (k:=i) (by rw [zmc h0 h1 hb]; omega)
 have e3:∀ s,(spn ns tr b)[i]? = some s->plo (lft ps ns tr b) i = s.1/\phi (lft ps ns tr b) i = s.2:=fun s es=>by
  have e4:=zhx (ps:=ps) (k:=i) (by omega)
  unfold lft at hp
  rw [List.getElem?_map,(List.getElem?_zip_eq_some (z:=(part ps i,s))).mpr ⟨e4,es⟩] at hp
  have:=(Option.some.inj hp).symm
  unfold plo phi
  show (part (lft ps ns tr b) i).2.1 = _/\(part (lft ps ns tr b) i).2.2 = _
  unfold lft
  rw [this]
  exact ⟨rfl,rfl⟩
 have fl:=zjm h1 hb
 constructor
 ·intro k ek
  have ib:i < b.length:=(List.getElem?_eq_some_iff.mp ek).1
  refine e3 (x - (way l k).1,x - (way l k).1) ?_
  unfold spn
  rw [List.getElem?_append_left (by simp; omega),List.getElem?_map]
  unfold fld
  rw [List.getElem?_map,(List.getElem?_zip_eq_some (z:=(x,(l,k)))).mpr ⟨e1,(List.getElem?_zip_eq_some (z:=(l,k))).mpr ⟨e2,ek⟩⟩]
  rfl
 ·intro ek
  have ib:b.length <= i:=List.getElem?_eq_none_iff.mp ek
  refine e3 (x - mst l,x) ?_
  unfold spn
  rw [List.getElem?_append_right (by simp; omega),List.length_map,fl,List.getElem?_map,List.getElem?_drop,show b.length + (i - b.length) = i by omega,(List.getElem?_zip_eq_some (z:=(x,l))).mpr ⟨e1,e2⟩]
  rfl
theorem zfi {n:Nat} {ps:List Part} {g:Gap} {ns:List Int} {tr:List (List Trm)} {b:List Int} (ht:Trs n tr) (hb:Bgn (szT tr) b) (h0:ps.length = tr.length) (h1:ns.length = tr.length) (h3:Tm3 ps.length g.ts)
  (q:R (.d (.bool (zhC (lft ps ns tr b) g))) []):zcJ [.d (zi3 g),.d (zaE ns),.d (zcV tr),.d (zaE b)] [] R:=by
 have h8:=zb3 ht
 have bl:=zek hb
 have bl':b.length <= tr.length:=by simpa [szT] using bl
 unfold zcJ
 walk_at "d"
 (refine seq1 ?_; walk_at "d")
 (refine seq1 ?_; walk_at "d")
 (refine seq1 ?_; walk_at "d")
 rw [zgj]
 unfold zpW
 walk_at "d"
 refine zao (fun i δ S=>∃ (u1 u2 u3 u4 u5:Option XV),S = []/\δ = [some (.d (zi3 g)),some (.d (zaE ns)),some (.d (zcV tr)),some (.d (zaE b)),some (.d (.int (zdo (lft ps ns tr b) (g.ts.take i)))),some (.d (.int (zeF (lft ps ns tr b) (g.ts.take i)))),u1,u2,u3,u4,u5]) ⟨none,none,none,none,none,rfl,rfl⟩ ?_ ?_
 ·rintro i d _ _ N hi ⟨u1,u2,u3,u4,u5,rfl,rfl⟩ hN
  obtain ⟨t,et,rfl⟩:=zdp hi
  obtain ⟨t1,t2,t3⟩:=h3.ok t (List.mem_of_getElem? et)
  have el:=List.getElem?_eq_getElem (show t.1 < tr.length by omega)
  have en:=List.getElem?_eq_getElem (show t.1 < ns.length by omega)
  obtain ⟨at1,at2⟩:=zq7 h0 h1 bl' en el
  unfold tmD
  walk_at "d"
  (refine seq1 ?_; walk_at "d")
  (refine seq1 ?_; walk_at "d")
  unfold zcV
  walk_at "d"
  refine ⟨_,zbN el,?_⟩
  rw [zcY]
  walk_at "d"
  refine zeJ (tr:=tr) el (by omega) (by omega) ?_
  walk_at "d"
  refine cut (fun δ S=>∃ (f l:Int) (u5:Option XV),S = []/\δ = [some (.d (zi3 g)),some (.d (zaE ns)),some (.d (.tuple (tr.map zg8))),some (.d (zaE b)),some (.d (.int (zdo (lft ps ns tr b) (g.ts.take i)))),some (.d (.int (zeF (lft ps ns tr b) (g.ts.take i)))),some (.d (.int t.1)),some (.d (.int t.2)),some (.d (.int f)),some (.d (.int l)),u5] /\
   plo (lft ps ns tr b) t.1 = ns[t.1] - l/\phi (lft ps ns tr b) t.1 = ns[t.1] - f) (fun N hN=>?_) ?_
  ·unfold zaE
   walk_at "d"
   by_cases hlt:t.1 < b.length
   ·rw [if_pos (by omega)]
    have eb:=List.getElem?_eq_getElem hlt
    have bb:=zho hb eb (s:=(tr[t.1]'(by omega)).length + 1) (by unfold szT; rw [List.getElem?_map,el]; rfl)
    (refine seq1 ?_; walk_at "d")
    refine ⟨_,zbN eb,?_⟩
    refine zeJ (tr:=tr) el bb.1 (by omega) ?_
    walk_at "d"
    exact hN _ _ ⟨_,_,_,rfl,rfl,(at1 _ eb).1,(at1 _ eb).2⟩
   ·rw [if_neg (by omega)]
    have eb:b[t.1]? = none:=List.getElem?_eq_none_iff.mpr (by omega)
    refine hN _ _ ⟨_,_,_,rfl,rfl,?_,?_⟩
    ·rw [(at2 eb).1,zph]
    ·rw [(at2 eb).2]; omega
  rintro _ _ ⟨f,l,u5,rfl,rfl,e1,e2⟩
  unfold zaE
  (refine seq1 ?_; walk_at "d")
  refine ⟨_,zbN en,?_⟩
  walk_at "d"
  refine ⟨ze8 (by omega) (by omega),_,zbN en,?_⟩
  walk_at "d"
  refine ⟨ze8 (by omega) (by omega),?_⟩
  (refine seq1 ?_; walk_at "d")
  refine zte ?_
  walk_at "d"
  refine zs6 ?_
  walk_at "d"
  exact hN _ _ ⟨_,_,_,_,_,rfl,by rw [zgi et,zhq et]; unfold tLo tHi; rw [e1,e2,Int.min_comm,Int.max_comm]; rfl⟩
 ·rintro _ _ ⟨u1,u2,u3,u4,u5,rfl,rfl⟩
  rw [List.length_map,List.take_length,zgj]
  walk_at "d"
  unfold zhC at q
  have lm:=zdW (lft ps ns tr b) g.ts
  by_cases hm:zeF (lft ps ns tr b) g.ts < g.lo
  ·rw [if_pos hm]
   rw [decide_eq_true (.inr hm)] at q
   exact q
  ·rw [if_neg hm]
   refine Rb' q ?_
   simp only [decide_eq_decide]
   omega
theorem zhr {n:Nat} {ps:List Part} {gs:List Gap} {ns:List Int} {tr:List (List Trm)} {price:Int} {b:List Int} {w:PyData} (ht:Trs n tr) (hb:Bgn (szT tr) b) (h0:ps.length = tr.length) (h1:ns.length = tr.length) (hg:GsT ps.length gs) (hw:WT w)
  (q:R (.d (.bool (zke ps gs ns tr price b w))) []):zck [.d (zdi gs),.d (zaE ns),.d (zcV tr),.d (.int price),.d (.tuple [zaE b,w])] [] R:=by
 unfold zck
 walk_at "d"
 (refine seq1 ?_; walk_at "d")
 (refine seq1 ?_; walk_at "d")
 cases w with
 | tuple ds =>
  match ds with
  | []=>(walk_at "d"; exact q)
  | x :: r =>
   walk_at "d"
   rw [if_neg (by omega)]
   (refine seq1 ?_; walk_at "d")
   have sx:=hw.el _ rfl x (by simp)
   refine ⟨sx,by decide +kernel,?_⟩
   by_cases hx:PyData.eqv x (.str "dear") = true
   ·rw [if_pos hx]
    obtain ⟨z,rfl⟩:∃ z,x = .str z:=by
     cases x with
     | str z=>exact ⟨z,rfl⟩
     | _=>cases hx
    have ez:z = "dear":=of_decide_eq_true hx
    subst ez
    walk_at "d"
    cases r with
    | nil =>
     rw [zsS rfl] at q
     walk_at "d"
     refine zeh ht hb ?_
     walk_at "d"
     exact q
    | cons y r =>
     rw [if_neg (by simp; omega)]
     rw [zqw rfl (by cases r <;> rfl)] at q
     exact q
   ·rw [if_neg hx]
    have hd:zg0 (.tuple (x :: r)) = false:=by
     cases r with
     | nil =>
      cases x with
      | str z=>exact decide_eq_false fun e=>hx (decide_eq_true e)
      | _=>rfl
     | cons y r=>cases x <;> rfl
    walk_at "d"
    (refine seq1 ?_; walk_at "d")
    refine ⟨sx,by decide +kernel,?_⟩
    cases hoff:PyData.eqv x (.str "off") with
    | false =>
     have:zgP (.tuple (x :: r)) = false:=by
      match r with
      | []=>cases x <;> rfl
      | [y]=>(cases x with
       | str z=>exact hoff
       | _=>rfl)
      | y :: z :: r=>cases x <;> rfl
     rw [zqw hd this] at q
     exact q
    | true =>
     rw [if_neg (by decide)]
     match r,hw,hd,q with
     | [],hw,hd,q =>
      have:zgP (.tuple [x]) = false:=by cases x <;> rfl
      rw [zqw hd this] at q
      exact q
     | y :: z :: r,hw,hd,q =>
      have:zgP (.tuple (x :: y :: z :: r)) = false:=by cases x <;> rfl
      rw [zqw hd this] at q
      rw [if_pos (by simp; omega)]
      exact q
     | [k],hw,hd,q =>
      have ho:zgP (.tuple [x,k]) = true:=by
       cases x with
       | str z=>exact hoff
       | _=>cases hoff
      have ew:zke ps gs ns tr price b (.tuple [x,k]) = zrW ps gs ns tr b k:=by
       unfold zke
       rw [hd,ho]
       rfl
      rw [ew] at q
      rw [if_neg (by simp)]
      walk_at "d"
      refine zfe ?_
      cases k with
      | int k =>
       rw [zj3] at q
       simp only [zgZ]
       walk_at "d"
       unfold zdi
       walk_at "d"
       by_cases hk:0 <= k/\k < (gs.length:Int)
       ·rw [if_neg (by simpa using hk)]
        obtain ⟨e3,m3⟩:=zlP hk.1 hk.2
        walk_at "d"
        refine ⟨_,e3,?_⟩
        walk_at "d"
        refine zfi ht hb h0 h1 (hg.t3 _ m3) ?_
        rw [decide_eq_true hk,Bool.true_and] at q
        walk_at "d"
        exact q
       ·rw [if_pos hk]
        rw [decide_eq_false hk] at q
        exact q
      | none=>(walk_at "d"; exact q)
      | bool b=>(walk_at "d"; exact q)
      | str b=>(walk_at "d"; exact q)
      | list b=>(walk_at "d"; exact q)
      | dict b=>(walk_at "d"; exact q)
      | tuple b=>(walk_at "d"; exact q)
 | none=>(walk_at "d"; exact q)
 | bool b=>(walk_at "d"; exact q)
 | int b=>(walk_at "d"; exact q)
 | str b=>(walk_at "d"; exact q)
 | list b=>(walk_at "d"; exact q)
 | dict b=>(walk_at "d"; exact q)
theorem zj2:∀ (sz:List Nat) (F:List (List Int)),sz.foldl (fun F s=>F.flatMap fun a=>(List.range s).map fun k:Nat=>a ++ [(k:Int)]) F = F.flatMap fun a=>(fil sz).map fun z=>a ++ z
 | [],F=>by simp [fil]
 | s :: sz,F=>by
  rw [List.foldl_cons,zj2 sz,List.flatMap_assoc]
  congr 1
  funext a
  simp only [fil,List.flatMap_map,List.map_flatMap,List.map_map]
  congr 1
  funext k
  congr 1
  funext z
  simp
theorem zgn (sz:List Nat):sz.foldl (fun F s=>F.flatMap fun a=>(List.range s).map fun k:Nat=>a ++ [(k:Int)]) [[]] = fil sz:=by
 rw [zj2]
 simp
def stp (F:List (List Int)) (s:Nat):List (List Int):=F.flatMap fun a=>(List.range s).map fun k:Nat=>a ++ [(k:Int)]
theorem zmm (l:List Nat) (x:Nat):(l ++ [x]).foldl stp [[]] = stp (l.foldl stp [[]]) x:=by simp
theorem znc (l:List Nat):(l.foldl stp [[]]).length = zaI l:=by
 have:=zgn l
 rw [<- zfz,<- this]
 rfl
structure TrC (n:Nat) (tr:List (List Trm)):Prop extends Trs n tr where
 few:zaI (szT tr) <= 256
theorem zo9 {sz:List Nat} (h:∀ s ∈ sz,1 <= s) (i:Nat):zaI (sz.take i) <= zaI sz:=by
 have:=zdz (sz.take i) (sz.drop i)
 rw [List.take_append_drop] at this
 rw [this]
 exact Nat.le_mul_of_pos_right _ (zew fun x m=>h x (List.mem_of_mem_drop m))
theorem zhU {tr:List (List Trm)}:∀ s ∈ szT tr,1 <= s:=fun s m=>by
 obtain ⟨l,_,rfl⟩:=List.mem_map.mp m
 omega
theorem zeM {n:Nat} {tr:List (List Trm)} (ht:TrC n tr) (q:R (.d (.list ((fil (szT tr)).map zaE))) []):zcl [.d (zcV tr)] [] R:=by
 have h8:=zb3 ht.toTrs
 unfold zcl zcV
 walk_at "d"
 (refine seq1 ?_; walk_at "d")
 (refine seq1 ?_; walk_at "d")
 refine zao (fun i δ S=>∃ (u1 u2 u3:Option XV),S = []/\δ = [some (.d (.tuple (tr.map zg8))),some (.d (.list ((((szT tr).take i).foldl stp [[]]).map zaE))),u1,u2,u3]) ⟨_,_,_,rfl,rfl⟩ ?_ ?_
 ·rintro i d _ _ N hi ⟨u1,u2,u3,rfl,rfl⟩ hN
  obtain ⟨l,hl,rfl⟩:=zdp hi
  have l3:=ht.l3 l (List.mem_of_getElem? hl)
  have es:(szT tr)[i]? = some (l.length + 1):=by unfold szT; rw [List.getElem?_map,hl]; rfl
  have pl:=zo9 (sz:=szT tr) zhU (i + 1)
  have pf:=ht.few
  rw [List.take_add_one,es] at pl
  simp only [Option.toList_some] at pl
  rw [zg3] at pl
  generalize hF:((szT tr).take i).foldl stp [[]] = F
  have lF:F.length = zaI ((szT tr).take i):=by rw [<- hF,znc]
  rw [zcY]
  walk_at "d"
  (refine seq1 ?_; walk_at "d")
  (refine seq1 ?_; walk_at "d")
  refine zao (fun j δ S=>∃ (u3:Option XV),S = [(stp (F.take j) (l.length + 1)).map zaE]/\δ = [some (.d (.tuple (tr.map zg8))),some (.d (.list (F.map zaE))),some (.d (.tuple (l.map zh2))),some (.l 0),u3]) ⟨_,by simp [stp],rfl⟩ ?_ ?_
  ·rintro j d _ _ N hj ⟨u3,rfl,rfl⟩ hN
   obtain ⟨a,ha,rfl⟩:=zdp hj
   have jl:j < F.length:=(List.getElem?_eq_some_iff.mp ha).1
   have e1:stp (F.take (j + 1)) (l.length + 1) = stp (F.take j) (l.length + 1) ++ (List.range (l.length + 1)).map fun k:Nat=>a ++ [(k:Int)]:=by
    rw [List.take_add_one,ha]
    simp [stp]
   have e2:(stp (F.take j) (l.length + 1)).length = j * (l.length + 1):=by
    unfold stp
    rw [zgJ (n:=l.length + 1) (fun x _=>by simp),List.length_take]
    rw [Nat.min_eq_left (by omega)]
   have e3:j * (l.length + 1) <= 256:=Nat.le_trans (Nat.mul_le_mul_right _ (by omega)) (Nat.le_trans pl pf)
   have ei:zfQ 0 ((l.length:Int) + 1).toNat = (List.range (l.length + 1)).map fun k:Nat=>PyData.int (0 + (k:Int)):=by
    rw [show ((l.length:Int) + 1).toNat = l.length + 1 by omega]
    simp [zfQ]
   unfold zaE
   walk_at "d"
   rw [ei]
   refine cmp1 (S0:=[_]) (fun k:Nat=>zaE (a ++ [(k:Int)])) rfl (List.range (l.length + 1)) (by simp; omega) ?_ ?_
   ·intro k mk u acc R' hk
    have:=hk (some (.d (.int (0 + (k:Int)))))
    unfold zaE at this
    walk_at "d"
    have al:a.length <= 8:=by
     have ea:F = fil ((szT tr).take i):=by rw [<- hF]; exact zgn _
     have ma:a ∈ fil ((szT tr).take i):=by rw [<- ea]; exact List.mem_of_getElem? ha
     have:=(zf9.mp ma).1
     simp [szT] at this
     omega
    refine ⟨by omega,?_⟩
    simpa using this
   ·walk_at "d"
    rw [e2,List.length_range]
    refine ⟨by omega,hN _ _ ⟨_,?_,rfl⟩⟩
    rw [e1,List.map_append,List.map_map]
    rfl
  ·rintro _ _ ⟨u3,rfl,rfl⟩
   rw [List.length_map,List.take_length]
   refine ⟨[],_,rfl,_,rfl,?_⟩
   have e5:((szT tr).take (i + 1)).foldl stp [[]] = stp F (l.length + 1):=by
    rw [List.take_add_one,es,<- hF]
    exact zmm _ _
   exact hN _ _ ⟨_,_,_,rfl,by rw [e5]; rfl⟩
 ·rintro _ _ ⟨u1,u2,u3,rfl,rfl⟩
  rw [List.length_map,show tr.length = (szT tr).length by simp [szT],List.take_length]
  walk_at "d"
  have:=zgn (szT tr)
  rw [<- this] at q
  exact q
def zpI (sz:List Nat) (B:List (List Int)):Bool:=(fil sz).all fun z=>B.any fun b=>b.isPrefixOf z
theorem zm3 {sz:List Nat} {B:List (List Int)} (hB:∀ b ∈ B,Bgn sz b) (ha:zic B = true):decide (zoA sz B = zaI sz) = zpI sz B:=by
 have:=zlx hB ha
 have e:zpI sz B = true ↔ ∀ z ∈ fil sz,∃ b ∈ B,b <+: z:=by
  unfold zpI
  simp only [List.all_eq_true,List.any_eq_true,List.isPrefixOf_iff_prefix]
 cases hb:zpI sz B with
 | true=>exact decide_eq_true (this.mpr (e.mp hb))
 | false =>
  refine decide_eq_false fun z=>?_
  rw [e.mpr (this.mp z)] at hb
  cases hb
theorem zfu {g:DG} {b:DSm} {E:DEndsM}:∀ {ds:List PyData} {δ:XE} {S:Sto} {M:DM} (I:Nat->XE->Sto->DM->Prop),I 0 δ S M ->
  (∀ i d δ S M (N:XE->Sto->DM->Prop),ds[i]? = some d->I i δ S M->(∀ δ' S' M',I (i + 1) δ' S' M'->N δ' S' M')->g (.d d) δ S fun δ1 S1=>b { nx:=N,ct:=N,bk:=E.nx,rt:=E.rt } δ1 S1 M) ->
  (∀ δ S M,I ds.length δ S M->E.nx δ S M)->zfC g b ds E δ S M
 | [],δ,S,M,I,h0,_,fin=>fin δ S M h0
 | d :: ds,δ,S,M,I,h0,step,fin=>by
  show g (.d d) δ S fun δ1 S1=>b _ δ1 S1 M
  refine step 0 d δ S M _ rfl h0 fun δ' S' M' h1=>?_
  exact zfu (ds:=ds) (fun i=>I (i + 1)) h1 (fun i e δ S M N hi=>step (i + 1) e δ S M N (by simpa using hi)) fin
def zmv (m:List (List Key × PyData)) (k:List Key):Bool:=m.any fun p=>decide (p.1 = k)
theorem zm9 {m:List (List Key × PyData)} {k k':List Key} {v:PyData}:zmv (ptA m k v) k' = (zmv m k' || decide (k = k')):=by
 unfold zmv ptA
 split
 ·rename_i h
  rw [List.any_map]
  have e:(m.any ((fun p=>decide (p.1 = k')) ∘ fun p=>if p.1 = k then (p.1,v) else p)) = m.any fun p=>decide (p.1 = k'):=by
   congr 1
   funext p
   simp only [Function.comp]
   split <;> rfl
  rw [e]
  by_cases hk:k = k'
  ·subst hk
   rw [h]
   rfl
  ·simp [hk]
 ·rw [List.any_append]
  simp
theorem zss {m:List (List Key × PyData)} {k:List Key}:(lkA m k).isSome = zmv m k:=by
 unfold lkA zmv
 rw [Option.isSome_map]
 induction m with
 | nil=>rfl
 | cons p m ih =>
  rw [List.find?_cons,List.any_cons]
  cases decide (p.1 = k) with
  | true=>rfl
  | false=>simpa using ih
theorem zqZ {m:List (List Key × PyData)} {k:List Key} {v:PyData}:(ptA m k v).length <= m.length + 1:=by
 unfold ptA
 split <;> simp
theorem zj4 (b:List Int):zmy (zaE b) = some (b.map Sum.inl):=by
 show ziZ (b.map PyData.int) = _
 induction b with
 | nil=>rfl
 | cons x b ih=>simp [ziZ,zk8,ih]
theorem zfR {n:Nat} {tr:List (List Trm)} {B:List (List Int)} (ht:TrC n tr) (hl:B.length <= 900) (q:R (.d (.bool (zpI (szT tr) B))) []):zce [.d (zcV tr),.d (.list (B.map zaE))] [] R:=by
 have h8:=zb3 ht.toTrs
 unfold zce
 walk_at "d"
 (refine seq1 ?_; walk_at "d")
 intro a _
 refine seqm ?_
 walk_at "d"
 refine zfu (fun i δ S M=>∃ (m:List (List Key × PyData)) (u:Option XV),S = []/\M = [(a,.t m)]/\m.length <= i/\(∀ k,zmv m k = true ↔ ∃ b ∈ B.take i,k = b.map Sum.inl)/\δ = [some (.d (zcV tr)),some (.d (.list (B.map zaE))),some (.o (.ref a)),u,none]) ⟨[],none,rfl,rfl,Nat.le_refl _,by simp [zmv],rfl⟩ ?_ ?_
 ·rintro i d _ _ _ N hi ⟨m,u,rfl,rfl,hm,hk,rfl⟩ hN
  obtain ⟨b,eb,rfl⟩:=zdp hi
  have il:i < B.length:=(List.getElem?_eq_some_iff.mp eb).1
  walk_at "d"
  have pl:=zqZ (m:=m) (k:=b.map Sum.inl) (v:=.bool true)
  refine ⟨a,rfl,.t m,.t (ptA m (b.map Sum.inl) (.bool true)),by simp,by show (zmy (zaE b)).map _ = _; rw [zj4]; rfl,by show m.length < 1000; omega,?_⟩
  refine hN _ _ _ ⟨ptA m (b.map Sum.inl) (.bool true),_,rfl,by simp [zoX],by omega,fun k=>?_,rfl⟩
  rw [zm9,Bool.or_eq_true,hk,decide_eq_true_eq,List.take_add_one,eb]
  simp only [Option.toList_some,List.mem_append,List.mem_singleton]
  constructor
  ·rintro (⟨x,mx,e⟩ | e)
   ·exact ⟨x,.inl mx,e⟩
   ·exact ⟨b,.inr rfl,e.symm⟩
  ·rintro ⟨x,mx | rfl,e⟩
   ·exact .inl ⟨x,mx,e⟩
   ·exact .inr e.symm
 ·rintro _ _ _ ⟨m,u,rfl,rfl,hm,hk,rfl⟩
  rw [List.length_map] at hm hk
  rw [List.take_length] at hk
  walk_at "d"
  refine zeM ht ?_
  walk_at "d"
  refine zfu (fun i δ S M=>∃ (u4:Option XV),S = []/\M = [(a,.t m)]/\zpI (szT tr) B = ((fil (szT tr)).drop i).all (fun z=>B.any fun b=>b.isPrefixOf z)/\δ = [some (.d (zcV tr)),some (.d (.list (B.map zaE))),some (.o (.ref a)),u,u4]) ⟨none,rfl,rfl,rfl,rfl⟩ ?_ ?_
  ·rintro i d _ _ _ N hi ⟨u4,rfl,rfl,hq,rfl⟩ hN
   obtain ⟨z,ez,rfl⟩:=zdp hi
   have il:i < (fil (szT tr)).length:=(List.getElem?_eq_some_iff.mp ez).1
   have zl:=(zf9.mp (List.mem_of_getElem? ez)).1
   have zl':z.length = tr.length:=by simpa [szT] using zl
   rw [List.drop_eq_getElem_cons il,List.all_cons] at hq
   have ezz:(fil (szT tr))[i] = z:=by rw [List.getElem?_eq_getElem il] at ez; exact Option.some.inj ez
   rw [ezz] at hq
   have ei:zfQ 0 ((tr.length:Int) + 1).toNat = (List.range (tr.length + 1)).map fun k:Nat=>PyData.int (0 + (k:Int)):=by
    rw [show ((tr.length:Int) + 1).toNat = tr.length + 1 by omega]
    simp [zfQ]
   have ea:((List.range (tr.length + 1)).map fun k=>zmv m ((z.take k).map Sum.inl)).any id = B.any fun b=>b.isPrefixOf z:=by
    rw [Bool.eq_iff_iff]
    simp only [List.any_eq_true,List.mem_map,List.mem_range,id]
    constructor
    ·rintro ⟨_,⟨k,hk1,rfl⟩,h⟩
     obtain ⟨b,mb,e⟩:=(hk _).mp h
     have eb:z.take k = b:=(List.map_inj_right fun _ _ e=>Sum.inl.inj e).mp e
     exact ⟨b,mb,List.isPrefixOf_iff_prefix.mpr (by rw [<- eb]; exact List.take_prefix _ _)⟩
    ·rintro ⟨b,mb,p⟩
     have p':=List.isPrefixOf_iff_prefix.mp p
     have e:=List.prefix_iff_eq_take.mp p'
     have:=p'.length_le
     exact ⟨_,⟨b.length,by omega,rfl⟩,(hk _).mpr ⟨b,mb,by rw [<- e]⟩⟩
   unfold zcV
   walk_at "d"
   rw [ei]
   refine cmp1 (S0:=[]) (fun k:Nat=>.bool (zmv m ((z.take k).map Sum.inl))) rfl (List.range (tr.length + 1)) (by simp; omega) ?_ ?_
   ·intro k mk u acc R' hk'
    have:=hk' (some (.d (.int (0 + (k:Int)))))
    unfold zaE at this ⊢
    rw [Int.zero_add] at this ⊢
    walk_at "d"
    rw [zhQ,<- List.map_take]
    refine ⟨.t m,lkA m ((z.take k).map Sum.inl),.inl ⟨a,rfl,by simp⟩,by show (zmy (zaE (z.take k))).map _ = _; rw [zj4]; rfl,?_⟩
    rw [zss]
    exact this
   walk_at "d"
   refine ⟨(List.range (tr.length + 1)).map fun k=>zmv m ((z.take k).map Sum.inl),by rw [List.map_map]; rfl,?_⟩
   rw [ea]
   cases hp:B.any fun b=>b.isPrefixOf z with
   | false =>
    rw [hp,Bool.false_and] at hq
    rw [hq] at q
    exact ⟨[],_,rfl,q⟩
   | true =>
    rw [hp,Bool.true_and] at hq
    exact hN _ _ _ ⟨_,rfl,rfl,hq,rfl⟩
  ·rintro _ _ _ ⟨u4,rfl,rfl,hq,rfl⟩
   rw [List.length_map,List.drop_length] at hq
   refine ⟨[],_,rfl,?_⟩
   rw [hq] at q
   exact q
theorem zqF {ps:List Part} {gs:List Gap} {ns:List Int} {tr:List (List Trm)} {price:Int} {rows:List PyData} {r:PyData} (m:r ∈ rows) (h:t2 r = false\/bgN (szT tr) (fs1 r) = false\/rwB ps gs ns tr price r = false):zoN ps gs ns tr price (.list rows) = false:=by
 cases hb:zoN ps gs ns tr price (.list rows) with
 | false=>rfl
 | true =>
  rw [zhA,zig] at hb
  unfold zog at hb
  simp only [Bool.and_eq_true,List.all_eq_true] at hb
  obtain ⟨⟨h2,h3,_⟩,h4⟩:=hb
  rcases h with h | h | h
  ·rw [h2 r m] at h; cases h
  ·rw [h3 _ (List.mem_map_of_mem m)] at h; cases h
  ·rw [h4 r m] at h; cases h
theorem zgY {n:Nat} {ps:List Part} {gs:List Gap} {ns:List Int} {tr:List (List Trm)} {price:Int} {d:PyData} (ht:TrC n tr) (h0:ps.length = tr.length) (h1:ns.length = tr.length) (hg:GsT ps.length gs) (hd:ThB d)
  (q:R (.d (.bool (zoN ps gs ns tr price d))) []):zc5 [.d (zdi gs),.d (zaE ns),.d (zcV tr),.d (.int price),.d d] [] R:=by
 unfold zc5
 cases d with
 | list rows =>
  have hl:=hd.len rows rfl
  have hw:=hd.why rows rfl
  walk_at "d"
  (refine seq1 ?_; walk_at "d")
  (refine seq1 ?_; walk_at "d")
  refine zao (fun i δ S=>∃ (u:Option XV),S = []/\(∀ r ∈ rows.take i,t2 r = true/\bgN (szT tr) (fs1 r) = true/\rwB ps gs ns tr price r = true)/\δ = [some (.d (zdi gs)),some (.d (zaE ns)),some (.d (zcV tr)),some (.d (.int price)),some (.d (.list rows)),u,none,none,none]) ⟨none,rfl,by simp,rfl⟩ ?_ ?_
  ·rintro i r _ _ N hi ⟨u,rfl,hr,rfl⟩ hN
   have mr:=List.mem_of_getElem? hi
   have F:(t2 r = false\/bgN (szT tr) (fs1 r) = false\/rwB ps gs ns tr price r = false)->R (.d (.bool false)) []:=fun h=>by rw [zqF mr h] at q; exact q
   walk_at "d"
   (refine seq1 ?_; walk_at "d")
   cases h2:t2 r with
   | false =>
    cases r with
    | tuple ds =>
     match ds,h2 with
     | [],h2=>(walk_at "d"; exact F (.inl h2))
     | [_],h2=>(walk_at "d"; exact F (.inl h2))
     | _ :: _ :: _ :: ds,h2 =>
      walk_at "d"
      rw [if_pos (by omega)]
      exact F (.inl h2)
    | none=>(walk_at "d"; exact F (.inl h2))
    | bool b=>(walk_at "d"; exact F (.inl h2))
    | int b=>(walk_at "d"; exact F (.inl h2))
    | str b=>(walk_at "d"; exact F (.inl h2))
    | list b=>(walk_at "d"; exact F (.inl h2))
    | dict b=>(walk_at "d"; exact F (.inl h2))
   | true =>
    have e:=zny h2
    have ew:=hw r mr _ _ e
    generalize hb0:fs1 r = b0 at e F
    generalize hw0:sn1 r = w at e ew
    rw [e]
    walk_at "d"
    refine zeS ht.toTrs ?_
    cases hb:bgN (szT tr) b0 with
    | false=>(walk_at "d"; exact F (.inr (.inl hb)))
    | true =>
     obtain ⟨b,rfl,hbg⟩:=zhv.mp hb
     have er:rwB ps gs ns tr price r = zke ps gs ns tr price b w:=by
      unfold rwB
      rw [hb0,hw0,zhG]
     walk_at "d"
     refine zhr ht.toTrs hbg h0 h1 hg ew ?_
     rw [<- er]
     cases hy:rwB ps gs ns tr price r with
     | false=>(walk_at "d"; exact F (.inr (.inr hy)))
     | true =>
      walk_at "d"
      rw [<- e]
      refine hN _ _ ⟨_,rfl,fun x mx=>?_,rfl⟩
      rw [List.take_add_one,hi] at mx
      rcases List.mem_append.mp mx with mx | mx
      ·exact hr x mx
      ·have:x = r:=by simpa using mx
       subst this
       exact ⟨h2,by rw [hb0]; exact hb,hy⟩
  ·rintro _ _ ⟨u,rfl,hr,rfl⟩
   rw [List.take_length] at hr
   have hB:∃ L:List (List Int × PyData),rows = L.map (fun q=>.tuple [zaE q.1,q.2])/\∀ q ∈ L,Bgn (szT tr) q.1:=by
    have:∀ l:List PyData,(∀ r ∈ l,t2 r = true/\bgN (szT tr) (fs1 r) = true)->∃ L:List (List Int × PyData),l = L.map (fun q=>.tuple [zaE q.1,q.2])/\∀ q ∈ L,Bgn (szT tr) q.1:=by
     intro l
     induction l with
     | nil=>exact fun _=>⟨[],rfl,fun q m=>by cases m⟩
     | cons r l ih =>
      intro h
      obtain ⟨L,rfl,hL⟩:=ih fun x m=>h x (List.mem_cons_of_mem _ m)
      obtain ⟨a1,a2⟩:=h r List.mem_cons_self
      obtain ⟨b,e1,hb⟩:=zhv.mp a2
      refine ⟨(b,sn1 r) :: L,?_,fun q m=>?_⟩
      ·rw [List.map_cons]
       congr 1
       rw [zny a1,e1]
       rfl
      ·rcases List.mem_cons.mp m with rfl | m
       ·exact hb
       ·exact hL q m
    exact this rows fun r m=>⟨(hr r m).1,(hr r m).2.1⟩
   obtain ⟨L,rfl,hL⟩:=hB
   have ebar:zoN ps gs ns tr price (.list (L.map (fun q=>.tuple [zaE q.1,q.2]))) = (zic (L.map (·.1)) && zpI (szT tr) (L.map (·.1))):=by
    rw [zhA,zig]
    unfold zog
    have e1:((L.map (fun q=>PyData.tuple [zaE q.1,q.2])).map fs1).map bgO = L.map (·.1):=by
     rw [List.map_map,List.map_map]
     exact List.map_congr_left fun q _=>zhG q.1
    rw [e1]
    have a1:(L.map (fun q=>PyData.tuple [zaE q.1,q.2])).all t2 = true:=List.all_eq_true.mpr fun r m=>(hr r m).1
    have a2:((L.map (fun q=>PyData.tuple [zaE q.1,q.2])).map fs1).all (bgN (szT tr)) = true:=List.all_eq_true.mpr fun x m=>by
     obtain ⟨r,mr,rfl⟩:=List.mem_map.mp m
     exact (hr r mr).2.1
    have a3:(L.map (fun q=>PyData.tuple [zaE q.1,q.2])).all (rwB ps gs ns tr price) = true:=List.all_eq_true.mpr fun r m=>(hr r m).2.2
    rw [a1,a2,a3]
    simp only [Bool.true_and,Bool.and_true]
    cases ha:zic (L.map (·.1)) with
    | false=>rfl
    | true =>
     rw [Bool.true_and,Bool.true_and]
     exact zm3 (fun b m=>by obtain ⟨q,mq,rfl⟩:=List.mem_map.mp m; exact hL q mq) ha
   rw [ebar] at q
   rw [List.length_map] at hl
   have at0:∀ (k:Nat) (x:List Int × PyData),L[k]? = some x->atI (L.map (fun q=>PyData.tuple [zaE q.1,q.2])) (k:Int) = some (.tuple [zaE x.1,x.2]):=fun k x e=>zbN e
   (refine seq1 ?_; walk_at "d")
   (refine seq1 ?_; walk_at "d")
   refine zao (fun k δ S=>∃ (u6 u7 u8:Option XV),S = []/\zic (L.map (·.1)) = zic ((L.map (·.1)).drop k)/\δ = [some (.d (zdi gs)),some (.d (zaE ns)),some (.d (zcV tr)),some (.d (.int price)),some (.d (.list (L.map (fun q=>.tuple [zaE q.1,q.2])))),u,u6,u7,u8]) ⟨none,none,none,rfl,rfl,rfl⟩ ?_ ?_
   ·rintro k d _ _ N hk ⟨u6,u7,u8,rfl,ha,rfl⟩ hN
    obtain ⟨hk',rfl⟩:=zbB hk
    have hk8:k + 1 < L.length:=by omega
    have ex:=List.getElem?_eq_getElem (show k < L.length by omega)
    have ey:=List.getElem?_eq_getElem hk8
    have ed:(L.map (·.1)).drop k = (L[k]'(by omega)).1 :: (L[k + 1]'hk8).1 :: (L.map (·.1)).drop (k + 1 + 1):=by
     rw [List.drop_eq_getElem_cons (show k < (L.map (·.1)).length by simp; omega),List.drop_eq_getElem_cons (show k + 1 < (L.map (·.1)).length by simp; omega)]
     simp
    have ed2:(L.map (·.1)).drop (k + 1) = (L[k + 1]'hk8).1 :: (L.map (·.1)).drop (k + 1 + 1):=by
     rw [List.drop_eq_getElem_cons (show k + 1 < (L.map (·.1)).length by simp; omega)]
     simp
    rw [ed] at ha
    simp only [zic] at ha
    rw [<- ed2] at ha
    generalize hx0:L[k]'(by omega) = x at *
    generalize hy0:L[k + 1]'hk8 = y at *
    rw [Int.zero_add]
    walk_at "d"
    (refine seq1 ?_; walk_at "d")
    refine ⟨_,at0 k x ex,?_⟩
    walk_at "d"
    (refine seq1 ?_; walk_at "d")
    have ek:(k:Int) + 1 = ((k + 1:Nat):Int):=by omega
    rw [ek]
    refine ⟨_,at0 (k + 1) y ey,?_⟩
    unfold zaE
    walk_at "d"
    refine ⟨x.1,rfl,y.1,rfl,?_⟩
    cases hx:HT.lexLt x.1 y.1 with
    | false =>
     rw [hx] at ha
     rw [ha] at q
     walk_at "d"
     exact q
    | true =>
     rw [hx,Bool.true_and,zjC] at ha
     walk_at "d"
     rw [zhQ,<- List.map_take]
     have e:=zlT (y.1.take x.1.length) x.1
     unfold zaE at e
     rw [e]
     refine ⟨zeA _,zeA _,?_⟩
     by_cases hp:y.1.take x.1.length = x.1
     ·rw [if_pos (decide_eq_true hp)]
      rw [decide_eq_true hp] at ha
      rw [ha] at q
      exact q
     ·rw [if_neg (by simpa using hp)]
      rw [decide_eq_false hp] at ha
      exact hN _ _ ⟨_,_,_,rfl,ha,rfl⟩
   ·rintro _ _ ⟨u6,u7,u8,rfl,ha,rfl⟩
    rw [zam] at ha
    have one:zic ((L.map (·.1)).drop ((L.length:Int) - 1).toNat) = true:=by
     have hle:((L.map (·.1)).drop ((L.length:Int) - 1).toNat).length <= 1:=by simp; omega
     match hm:(L.map (·.1)).drop ((L.length:Int) - 1).toNat,hle with
     | [],_=>rfl
     | [_],_=>rfl
     | _ :: _ :: _,h=>simp at h
    rw [one] at ha
    rw [ha,Bool.true_and] at q
    walk_at "d"
    refine cmp1 (S0:=[]) (fun q:List Int × PyData=>zaE q.1) rfl L (by omega) ?_ ?_
    ·intro x mx u acc R' hk
     walk_at "d"
     exact hk _
    walk_at "d"
    have e2:L.map (fun q=>zaE q.1) = (L.map (·.1)).map zaE:=by rw [List.map_map]; rfl
    rw [e2]
    refine zfR ht (by simpa using hl) ?_
    walk_at "d"
    exact q
 | none=>(walk_at "d"; (refine seq1 ?_; walk_at "d"); exact q)
 | bool b=>(walk_at "d"; (refine seq1 ?_; walk_at "d"); exact q)
 | int b=>(walk_at "d"; (refine seq1 ?_; walk_at "d"); exact q)
 | str b=>(walk_at "d"; (refine seq1 ?_; walk_at "d"); exact q)
 | tuple b=>(walk_at "d"; (refine seq1 ?_; walk_at "d"); exact q)
 | dict b=>(walk_at "d"; (refine seq1 ?_; walk_at "d"); exact q)
theorem zeH {n:Nat} {ps:List Part} {gs:List Gap} {ns:List Int} {tr:List (List Trm)} {price:Int} {d:PyData} (ht:TrC n tr) (h0:ps.length = tr.length) (h1:ns.length = tr.length) (hg:GsT ps.length gs) (hd:ThB d)
  (q:R (.d (.bool true)) []):zbw [.d (zeE ps),.d (zdi gs),.d (zaE ns),.d (zcV tr),.d (.int price),.d d] [] R:=by
 unfold zbw
 walk_at "d"
 (refine seq1 ?_; walk_at "d")
 refine zgY ht h0 h1 hg hd ?_
 walk_at "d"
 (refine seq1 ?_; walk_at "d")
 refine zif ht.toTrs h0 h1 hg hd ?_
 walk_at "d"
 exact q
theorem zgc {p:List PyData} {ps:List Part} (hp:za6 p) (hd:Drw ps) (q:∀ tr p',Trs ps.length tr->za6 p'->R (.d (zcV tr)) [p']):zcI [.l 0,.d (zeE ps)] [p] R:=by
 have l8:=hd.l8
 unfold zcI
 rw [zeE]
 walk_at "d"
 (refine seq1 ?_; walk_at "d")
 (refine seq1 ?_; walk_at "d")
 refine zao (fun i δ S=>∃ (p:List PyData) (tr:List (List Trm)) (T:Sto) (u3 u4 u5 u6 u7:Option XV),S = p :: tr.map zg8 :: T/\za6 p/\tr.length = i/\(∀ l ∈ tr,l.length <= 3)/\δ = [some (.l 0),some (.d (.tuple (ps.map zkp))),some (.l 1),u3,u4,u5,u6,u7]) ⟨p,[],[],none,none,none,none,none,rfl,hp,rfl,by simp,rfl⟩ ?_ ?_
 ·rintro i d _ _ N hi ⟨p,tr,T,u3,u4,u5,u6,u7,rfl,hp,htl,htr,rfl⟩ hN
  have il:i < ps.length:=by
   have:=(List.getElem?_eq_some_iff.mp hi).1
   simpa using this
  walk_at "d"
  (refine seq1 ?_; walk_at "d")
  (refine seq1 ?_; walk_at "d")
  (refine seq1 ?_; walk_at "d")
  (refine seq1 ?_; walk_at "d")
  refine zD hp (by decide) (by decide +kernel) fun r p1 r0 r1 hp1=>?_
  walk_at "d"
  refine zao (fun j δ S=>∃ (p:List PyData) (row:List Trm) (m pr:Int) (u7:Option XV),S = p :: tr.map zg8 :: (T ++ [row.map zh2])/\za6 p/\row.length = j/\δ = [some (.l 0),some (.d (.tuple (ps.map zkp))),some (.l 1),some (.d d),some (.l (T.length + 1 + 1)),some (.d (.int m)),some (.d (.int pr)),u7]) ⟨p1,[],0,0,_,rfl,hp1,rfl,rfl⟩ ?_ ?_
  ·rintro j e _ _ N hj ⟨p,row,m,pr,u7,rfl,hp,hrow,rfl⟩ hN
   obtain ⟨hj',rfl⟩:=zbB hj
   walk_at "d"
   (refine seq1 ?_; walk_at "d")
   refine ⟨⟨by decide,by decide,by decide⟩,?_⟩
   refine zD hp (by decide) (by decide +kernel) fun r2 p2 r20 r21 hp2=>?_
   obtain ⟨d2,ed2,n2,rfl,n20,n21⟩:=zkz (P:=fun d=>∃ n:Int,d = .int n/\0 < n/\n.natAbs.log2 < 9000) (ds:=[PyData.int 3,.int 3,.int 3,.int ((10:Int) ^ (20:Int).toNat)]) r20 (by simpa using r21) (by
    intro d m
    simp only [List.mem_cons,List.not_mem_nil,or_false] at m
    rcases m with rfl | rfl | rfl | rfl
    ·exact ⟨3,rfl,by decide,by decide +kernel⟩
    ·exact ⟨3,rfl,by decide,by decide +kernel⟩
    ·exact ⟨3,rfl,by decide,by decide +kernel⟩
    ·exact ⟨_,rfl,by decide,by decide +kernel⟩)
   walk_at "d"
   refine ⟨_,ed2,?_⟩
   refine zD hp2 n20 n21 fun r3 p3 r30 r31 hp3=>?_
   walk_at "d"
   (refine seq1 ?_; walk_at "d")
   refine zD hp3 (by decide) (by decide +kernel) fun r4 p4 r40 r41 hp4=>?_
   have gl:(T ++ [row.map zh2])[T.length]? = some (row.map zh2):=by simp
   have sl:∀ x,(T ++ [row.map zh2]).set T.length x = T ++ [x]:=fun x=>by simp
   walk_at "d"
   refine ⟨by omega,row.map zh2,gl,by simp; omega,?_⟩
   rw [sl]
   exact hN _ _ ⟨p4,row ++ [(m + 1 + r3,pr + 1 + r4)],_,_,_,by simp [zh2],hp4,by simp [hrow],rfl⟩
  ·rintro _ _ ⟨p,row,m,pr,u7,rfl,hp,hrow,rfl⟩
   rw [zam] at hrow
   walk_at "d"
   refine ⟨by omega,_,by simp; rfl,by omega,hN _ _ ⟨p,tr ++ [row],_,_,_,_,_,_,by simp [zg8]; rfl,hp,by simp [htl],fun l ml=>?_,rfl⟩⟩
   rcases List.mem_append.mp ml with ml | ml
   ·exact htr l ml
   ·rw [List.mem_singleton.mp ml]
    omega
 ·rintro _ _ ⟨p,tr,T,u3,u4,u5,u6,u7,rfl,hp,htl,htr,rfl⟩
  walk_at "d"
  exact q tr p ⟨by simpa using htl,htr,l8⟩ hp
theorem zqD {sz:List Nat} (h:∀ s ∈ sz,1 <= s):1 <= (fil sz).length:=by rw [zfz]; exact zew h
theorem zir {n:Nat} {ns:List Int} {tr:List (List Trm)} {b:List Int} (ht:Trs n tr) (hb:Bgn (szT tr) b) (h1:ns.length = tr.length) (hbl:b.length = tr.length) (q:∀ ms:List Int,ms.length = ns.length->R (.d (zaE ms)) []):zd2 [.d (zaE ns),.d (zcV tr),.d (zaE b)] [] R:=by
 have h8:=zb3 ht
 unfold zd2 zaE
 walk_at "d"
 (refine seq1 ?_; walk_at "d")
 (refine seq1 ?_; walk_at "d")
 refine zao (fun i δ S=>∃ (ms:List Int) (u:Option XV),S = [ms.map PyData.int]/\ms.length = ns.length/\δ = [some (.d (.tuple (ns.map PyData.int))),some (.d (zcV tr)),some (.d (.tuple (b.map PyData.int))),some (.l 0),u]) ⟨ns,none,rfl,rfl,rfl⟩ ?_ ?_
 ·rintro i d _ _ N hi ⟨ms,u,rfl,hms,rfl⟩ hN
  obtain ⟨hi',rfl⟩:=zbB hi
  have hi8:i < b.length:=by simpa using hi'
  have eb:=List.getElem?_eq_getElem hi8
  have et:=List.getElem?_eq_getElem (show i < tr.length by omega)
  have em:=List.getElem?_eq_getElem (show i < ms.length by omega)
  have bb:=zho hb eb (s:=(tr[i]'(by omega)).length + 1) (by unfold szT; rw [List.getElem?_map,et]; rfl)
  rw [Int.zero_add]
  walk_at "d"
  refine ⟨_,zbN eb,?_⟩
  walk_at "d"
  by_cases h0:0 < b[i]
  ·rw [if_pos h0]
   unfold zcV
   walk_at "d"
   obtain ⟨c,hc⟩:=Int.eq_ofNat_of_zero_le bb.1
   have hm:c - 1 < (tr[i]'(by omega)).length:=by omega
   have e:(c:Int) - 1 = ((c - 1:Nat):Int):=by omega
   refine ⟨_,zbN em,_,zbN et,_,zbN eb,?_⟩
   rw [hc,zcY]
   walk_at "d"
   rw [e]
   refine ⟨_,zbN (List.getElem?_eq_getElem hm),?_⟩
   rw [zfA]
   walk_at "d"
   refine ⟨i,by unfold ixN; rw [if_pos (by omega),if_pos (by simp; omega)]; simp,?_⟩
   rw [<- List.map_set]
   exact hN _ _ ⟨ms.set i _,_,rfl,by simp [hms],rfl⟩
  ·rw [if_neg h0]
   exact hN _ _ ⟨ms,_,rfl,hms,rfl⟩
 ·rintro _ _ ⟨ms,u,rfl,hms,rfl⟩
  walk_at "d"
  exact q ms hms
theorem zf8 {p:List PyData} {ps:List Part} (hp:za6 p) (hd:Drw ps) (q:∀ ts p',Tms ps.length ts->za6 p'->R (.d (zpW ts)) [p']):zdC [.l 0,.d (zeE ps)] [p] R:=zii hp hd q
theorem zhS {p:List PyData} {ps:List Part} {ns:List Int} {tr:List (List Trm)} (hp:za6 p) (hd:Drw ps) (ht:TrC ps.length tr) (h1:ns.length = tr.length) (q:∀ gs p',GsT ps.length gs->1 <= gs.length->gs.length <= 3->za6 p'->R (.d (zdi gs)) [p']):zdu [.l 0,.d (zeE ps),.d (zaE ns),.d (zcV tr)] [p] R:=by
 have l8:=hd.l8
 have tl:=ht.len
 unfold zdu
 walk_at "d"
 (refine seq1 ?_; walk_at "d")
 (refine seq1 ?_; walk_at "d")
 refine zD hp (by decide) (by decide +kernel) fun r p1 r0 r1 hp1=>?_
 walk_at "d"
 refine zao (fun i δ S=>∃ (p:List PyData) (gs:List Gap) (u5 u6 u7 u8 u9:Option XV),S = [p,gs.map zi3]/\za6 p/\gs.length = i/\GsT ps.length gs/\δ = [some (.l 0),some (.d (zeE ps)),some (.d (zaE ns)),some (.d (zcV tr)),some (.l 1),u5,u6,u7,u8,u9]) ⟨p1,[],_,_,_,_,_,rfl,hp1,rfl,⟨by simp,by simp⟩,rfl⟩ ?_ ?_
 ·rintro i d _ _ N hi ⟨p,gs,u5,u6,u7,u8,u9,rfl,hp,hgl,hgs,rfl⟩ hN
  obtain ⟨hi',rfl⟩:=zbB hi
  walk_at "d"
  (refine seq1 ?_; walk_at "d")
  refine zf8 hp hd fun ts p2 hts hp2=>?_
  walk_at "d"
  (refine seq1 ?_; walk_at "d")
  refine zeM ht ?_
  walk_at "d"
  (refine seq1 ?_; walk_at "d")
  have fl:=zqD (sz:=szT tr) zhU
  have fl2:=zfz (szT tr)
  have few:=ht.few
  refine zD hp2 (by omega) (zcA (by omega) (by omega)) fun r2 p3 r20 r21 hp3=>?_
  obtain ⟨k,rfl⟩:=Int.eq_ofNat_of_zero_le r20
  have hk:k < (fil (szT tr)).length:=by omega
  have ez:=List.getElem?_eq_getElem hk
  have mz:=zf9.mp (List.mem_of_getElem? ez)
  walk_at "d"
  refine ⟨_,zbN ez,?_⟩
  walk_at "d"
  refine zir ht.toTrs mz.2 h1 (by simpa [szT] using mz.1) fun ms hms=>?_
  walk_at "d"
  (refine seq1 ?_; walk_at "d")
  have h3:Tm3 ms.length ts:=by rw [hms,h1,tl]; exact hts.tm3 l8
  refine ziX (g:=⟨ts,0,0⟩) h3 ?_
  walk_at "d"
  refine zD hp3 (by decide) (by decide +kernel) fun r4 p4 r40 r41 hp4=>?_
  walk_at "d"
  refine zD hp4 (by decide) (by decide +kernel) fun r5 p5 r50 r51 hp5=>?_
  walk_at "d"
  refine ⟨by omega,hN _ _ ⟨p5,gs ++ [⟨ts,worth ts ms + r4 - 5,worth ts ms + r4 - 5 + r5⟩],_,_,_,_,_,by simp [zi3],hp5,by simp [hgl],⟨fun g mg=>?_,fun g mg=>?_⟩,rfl⟩⟩
  ·rcases List.mem_append.mp mg with mg | mg
   ·exact hgs.t3 g mg
   ·rw [List.mem_singleton.mp mg]
    exact hts.tm3 l8
  ·rcases List.mem_append.mp mg with mg | mg
   ·exact hgs.le g mg
   ·rw [List.mem_singleton.mp mg]
    show worth ts ms + r4 - 5 <= worth ts ms + r4 - 5 + r5
    omega
 ·rintro _ _ ⟨p,gs,u5,u6,u7,u8,u9,rfl,hp,hgl,hgs,rfl⟩
  rw [zam] at hgl
  walk_at "d"
  exact q gs p hgs (by omega) (by omega) hp
def whG (w:PyData):Prop:=w = .tuple [.str "dear"]\/∃ k:Int,w = .tuple [.str "off",.int k]
def RwG (r:PyData):Prop:=∃ (b:List Int) (w:PyData),r = .tuple [zaE b,w]/\b.length <= 8/\whG w
theorem zj1:∀ {sz:List Nat} {b:List Int} {s:Nat} {k:Int},Bgn sz b->sz[b.length]? = some s->0 <= k->k < s->Bgn sz (b ++ [k])
 | [],[],_,_,_,e,_,_=>by simp at e
 | s0 :: sz,[],s,k,_,e,k0,k1=>by
  simp at e
  subst e
  exact ⟨⟨k0,k1⟩,by cases sz <;> trivial⟩
 | [],_ :: _,_,_,h,_,_,_=>by cases h
 | s0 :: sz,x :: b,s,k,h,e,k0,k1=>⟨h.1,zj1 h.2 (by simpa using e) k0 k1⟩
theorem zfk {ps:List Part} {gs:List Gap} {ns:List Int} {tr:List (List Trm)} {price:Int} (ht:TrC ps.length tr) (h1:ns.length = tr.length) (hg:GsT ps.length gs) (g1:1 <= gs.length) (g3:gs.length <= 3):∀ (m:Nat) (b:List Int) (R:RX),Bgn (szT tr) b->tr.length - b.length < m ->
  (∀ rows:List PyData,(∀ r ∈ rows,RwG r)->1 <= rows.length->rows.length <= zaI ((szT tr).drop b.length)->R (.d (.list rows)) [])->zax m [.d (zdi gs),.d (zaE ns),.d (zcV tr),.d (.int price),.d (zaE b)] [] R
 | 0,_,_,_,h,_=>absurd h (Nat.not_lt_zero _)
 | m + 1,b,R,hb,hm,q=>by
  have h8:=zb3 ht.toTrs
  have tl:=ht.len
  have bl:=zek hb
  have bl':b.length <= tr.length:=by simpa [szT] using bl
  have pp:1 <= zaI ((szT tr).drop b.length):=zew fun x m=>zhU x (List.mem_of_mem_drop m)
  have one:∀ w,whG w->R (.d (.list [.tuple [zaE b,w]])) []:=fun w hw=>q _ (fun r mr=>by rw [List.mem_singleton.mp mr]; exact ⟨b,w,rfl,by omega,hw⟩) (Nat.le_refl _) pp
  unfold zax
  walk_at "d"
  (refine seq1 ?_; walk_at "d")
  refine zeh ht.toTrs hb ?_
  walk_at "d"
  by_cases hpr:price <= prc tr b
  ·rw [if_pos hpr]
   walk_at "d"
   exact .inl (one _ (.inl rfl))
  ·rw [if_neg hpr]
   (refine seq1 ?_; walk_at "d")
   unfold zdi
   walk_at "d"
   have ei:zfQ 0 ((gs.length:Nat):Int).toNat = (List.range gs.length).map fun k:Nat=>PyData.int (0 + (k:Int)):=by
    rw [Int.toNat_natCast]
    rfl
   rw [ei]
   refine cmf1 (S0:=[]) (fun k:Nat=>PyData.int (0 + (k:Int))) (fun k:Nat=>zhC (lft ps ns tr b) (zmY gs k)) rfl (List.range gs.length) (by simp; omega) ?_ ?_
   ·intro k mk u acc R' hk
    have kl:=List.mem_range.mp mk
    obtain ⟨e3,m3⟩:=zlP (gs:=gs) (k:=(k:Int)) (by omega) (by omega)
    rw [Int.zero_add] at hk ⊢
    walk_at "d"
    refine ⟨_,e3,?_⟩
    walk_at "d"
    refine zfi ht.toTrs hb tl.symm h1 (hg.t3 _ m3) ?_
    walk_at "d"
    exact hk _ fun _ T hT=>⟨_,rfl,hT⟩
   refine ⟨[],_,rfl,rfl,?_⟩
   (refine seq1 ?_; walk_at "d")
   have shp:SeqAt.shaped (.list (((List.range gs.length).filter fun k:Nat=>zhC (lft ps ns tr b) (zmY gs k)).map fun k:Nat=>PyData.int (0 + (k:Int)))) = true:=(zka (zjs fun _ _=>(zdI:Shp 0 _))).ok
   refine ⟨shp,by decide +kernel,?_⟩
   rw [zlE]
   generalize ((List.range gs.length).filter fun k:Nat=>zhC (lft ps ns tr b) (zmY gs k)) = off
   cases ho:off with
   | cons k0 r =>
    have hne:off ≠ []:=by rw [ho]; simp
    rw [<- ho]
    obtain ⟨k,ek⟩:∃ k:Int,atI (off.map fun k:Nat=>PyData.int (0 + (k:Int))) (-1) = some (.int k):=by
     refine ⟨0 + ((off.getLast hne:Nat):Int),?_⟩
     have:=congrArg (List.map fun k:Nat=>PyData.int (0 + (k:Int))) (List.dropLast_concat_getLast hne)
     rw [<- this,List.map_append]
     exact ziA _ _
    rw [if_pos (by simp [hne])]
    walk_at "d"
    refine ⟨_,ek,?_⟩
    exact .inl (one _ (.inr ⟨k,rfl⟩))
   | nil =>
    rw [if_neg (by simp)]
    (refine seq1 ?_; walk_at "d")
    unfold zaE zcV
    walk_at "d"
    by_cases hbl:b.length = tr.length
    ·rw [if_pos (by omega)]
     walk_at "d"
     exact .inl (one _ (.inr ⟨0,rfl⟩))
    ·rw [if_neg (by omega)]
     (refine seq1 ?_; walk_at "d")
     (refine seq1 ?_; walk_at "d")
     have et:=List.getElem?_eq_getElem (show b.length < tr.length by omega)
     refine ⟨_,zbN et,?_⟩
     rw [zcY]
     have es:(szT tr)[b.length]? = some ((tr[b.length]'(by omega)).length + 1):=by unfold szT; rw [List.getElem?_map,et]; rfl
     have ed:(szT tr).drop b.length = ((tr[b.length]'(by omega)).length + 1) :: (szT tr).drop (b.length + 1):=by
      have hz:b.length < (szT tr).length:=by simp [szT]; omega
      rw [List.drop_eq_getElem_cons hz]
      congr 1
      rw [List.getElem?_eq_getElem hz] at es
      exact Option.some.inj es
     have few:=ht.few
     have dl:zaI ((szT tr).drop b.length) <= 256:=by
      have:=zdz ((szT tr).take b.length) ((szT tr).drop b.length)
      rw [List.take_append_drop] at this
      have p1:1 <= zaI ((szT tr).take b.length):=zew fun x m=>zhU x (List.mem_of_mem_take m)
      have:zaI ((szT tr).drop b.length) <= zaI (szT tr):=by rw [this]; exact Nat.le_mul_of_pos_left _ p1
      omega
     generalize hl0:tr[b.length]'(by omega) = l0 at *
     generalize hP:zaI ((szT tr).drop (b.length + 1)) = P
     have eP:zaI ((szT tr).drop b.length) = (l0.length + 1) * P:=by rw [ed,<- hP]; rfl
     walk_at "d"
     refine zao (fun j δ S=>∃ (rows:List PyData) (u:Option XV),S = [rows]/\(∀ r ∈ rows,RwG r)/\j <= rows.length/\rows.length <= j * P/\δ = [some (.d (.tuple (gs.map zi3))),some (.d (.tuple (ns.map PyData.int))),some (.d (.tuple (tr.map zg8))),some (.d (.int price)),some (.d (.tuple (b.map PyData.int))),some (.d (.list [])),some (.l 0),u]) ⟨[],_,rfl,by simp,Nat.le_refl _,by simp,rfl⟩ ?_ ?_
     ·rintro j d _ _ N hj ⟨rows,u,rfl,hr,hj1,hj2,rfl⟩ hN
      obtain ⟨hj',rfl⟩:=zbB hj
      have jl:j < l0.length + 1:=by omega
      have jm:j * P + P <= 256:=by
       have:(j + 1) * P <= (l0.length + 1) * P:=Nat.mul_le_mul_right _ (by omega)
       rw [Nat.succ_mul] at this
       omega
      rw [Int.zero_add]
      walk_at "d"
      refine ⟨by omega,?_⟩
      have eb:PyData.tuple (b.map PyData.int ++ [PyData.int (j:Int)]) = zaE (b ++ [(j:Int)]):=by unfold zaE; rw [List.map_append]; rfl
      rw [eb]
      have q2:=zfk (price:=price) ht h1 hg g1 g3 m (b ++ [(j:Int)])
      unfold zdi zcV at q2
      unfold zaE at q2 ⊢
      walk_at "d"
      refine q2 _ (zj1 hb es (by omega) (by omega)) (by simp; omega) fun rs hrs r1 r2=>?_
      rw [List.length_append,List.length_singleton,hP] at r2
      walk_at "d"
      refine ⟨by omega,hN _ _ ⟨rows ++ rs,_,rfl,fun r mr=>?_,by simp; omega,by rw [List.length_append,Nat.succ_mul]; omega,rfl⟩⟩
      rcases List.mem_append.mp mr with mr | mr
      ·exact hr r mr
      ·exact hrs r mr
     ·rintro _ _ ⟨rows,u,rfl,hr,hj1,hj2,rfl⟩
      rw [zam,show ((l0.length:Int) + 1).toNat = l0.length + 1 by omega] at hj1 hj2
      walk_at "d"
      exact .inl (q rows hr (by omega) (by rw [eP]; exact hj2))
def RT (d:PyData):Prop:=∀ b w,d = .tuple [b,w]->WT w
theorem zha {w:PyData} (h:whG w):WT w:=by
 rcases h with rfl | ⟨k,rfl⟩
 ·exact ⟨by decide +kernel,fun ds e x m=>by cases e; rw [List.mem_singleton.mp m]; decide +kernel⟩
 ·exact ⟨(zgt (zo0 (n:=0) ⟨by decide +kernel,by decide +kernel⟩ zdI)).ok,fun ds e x m=>by
   cases e
   simp only [List.mem_cons,List.not_mem_nil,or_false] at m
   rcases m with rfl | rfl
   ·decide +kernel
   ·rfl⟩
theorem zbd {b w:PyData} (h:WT w):RT (.tuple [b,w]):=fun b' w' e=>by cases e; exact h
theorem zmC {r:PyData} (h:RwG r):RT r:=by
 obtain ⟨b,w,rfl,_,hw⟩:=h
 exact zbd (zha hw)
theorem zgF {p:List PyData} {gs:List Gap} {b:List Int} {w:PyData} (hp:za6 p) (hb:b.length <= 8) (hw:whG w) (q:∀ d p',RT d->za6 p'->R (.d d) [p']):zb1 [.d (.tuple [zaE b,w]),.d (zdi gs),.l 0] [p] R:=by
 unfold zb1
 walk_at "d"
 (refine seq1 ?_; walk_at "d")
 (refine seq1 ?_; walk_at "d")
 unfold zdi zaE
 walk_at "d"
 (refine seq1 ?_; walk_at "d")
 (refine seq1 ?_; walk_at "d")
 (refine seq1 ?_; walk_at "d")
 (refine seq1 ?_; walk_at "d")
 refine ⟨by omega,?_⟩
 (refine seq1 ?_; walk_at "d")
 have cl:=zdn (b.map PyData.int) none (some (-1))
 rw [List.length_map] at cl
 have ww:=zha hw
 refine zao (fun i δ S=>∃ (x1 x2 x3 acc:List PyData) (u:Option XV),S = [p,x1,x2,x3,acc]/\δ = [some (.d (.tuple [.tuple (b.map PyData.int),w])),some (.d (.tuple (gs.map zi3))),some (.l 0),some (.d (.tuple (b.map PyData.int))),some (.d w),some (.l 4),u]/\acc.length = 23 + i/\∀ d ∈ acc,RT d) ⟨_,_,_,_,none,rfl,rfl,rfl,?_⟩ ?_ ?_
 ·simp only [List.mem_cons,List.not_mem_nil,or_false]
  have no:∀ {d:PyData},(∀ ds,d ≠ .tuple ds)->WT d->WT d:=fun _ h=>h
  have w0:WT (.tuple []):=⟨by decide +kernel,fun ds e x m=>by cases e; cases m⟩
  have w1:∀ x:PyData,Shp 0 x->WT (.tuple [x]):=fun x h=>⟨(zgt (n:=0) fun d m=>by rw [List.mem_singleton.mp m]; exact h).ok,fun ds e y m=>by cases e; rw [List.mem_singleton.mp m]; exact h.ok⟩
  have w2:∀ x y:PyData,Shp 0 x->Shp 0 y->WT (.tuple [x,y]):=fun x y h k=>⟨(zgt (zo0 (n:=0) h k)).ok,fun ds e z m=>by
   cases e
   simp only [List.mem_cons,List.not_mem_nil,or_false] at m
   rcases m with rfl | rfl
   ·exact h.ok
   ·exact k.ok⟩
  have so:Shp 0 (.str "off"):=⟨by decide +kernel,by decide +kernel⟩
  have sd:Shp 0 (.str "dear"):=⟨by decide +kernel,by decide +kernel⟩
  rintro d (rfl | rfl | rfl | rfl | rfl | rfl | rfl | rfl | rfl | rfl | rfl | rfl | rfl | rfl | rfl | rfl | rfl | rfl | rfl | rfl | rfl | rfl | rfl)
  ·exact zbd (w1 _ sd)
  ·exact zbd (w2 _ _ so zdI)
  ·exact zbd (w2 _ _ so zdI)
  ·exact zbd (w2 _ _ so zdI)
  ·exact zbd (w2 _ _ so zdI)
  ·exact zbd (w2 _ _ so znn)
  ·exact zbd (w1 _ so)
  ·exact zbd (w2 _ _ sd zdI)
  ·exact zbd ⟨sd.ok,fun ds e=>by cases e⟩
  ·exact zbd ⟨by decide +kernel,fun ds e=>by cases e⟩
  ·exact zbd w0
  ·exact zbd ⟨by decide +kernel,fun ds e=>by cases e⟩
  ·exact fun b w e=>by cases e
  ·exact fun b w e=>by cases e
  ·exact fun b w e=>by cases e
  ·exact fun b w e=>by cases e
  ·intro b' w' e
   rcases hw with rfl | ⟨k,rfl⟩
   ·cases e
   ·cases e
    exact ⟨rfl,fun ds e=>by cases e⟩
  ·exact zbd ww
  ·exact zbd ww
  ·exact zbd ww
  ·exact zbd ww
  ·exact zbd ww
  ·exact zbd ww
 ·rintro i d _ _ N hi ⟨x1,x2,x3,acc,u,rfl,rfl,la,ha⟩ hN
  have il:i < 7:=(List.getElem?_eq_some_iff.mp hi).1
  walk_at "d"
  refine ⟨by omega,by omega,hN _ _ ⟨_,_,_,_,_,rfl,rfl,by rw [List.length_append,la]; rfl,fun e me=>?_⟩⟩
  rcases List.mem_append.mp me with me | me
  ·exact ha e me
  ·rw [List.mem_singleton.mp me]
   exact zbd ww
 ·rintro _ _ ⟨x1,x2,x3,acc,u,rfl,rfl,la,ha⟩
  have la':acc.length = 30:=la
  walk_at "d"
  rw [la']
  refine zD hp (by omega) (zcA (by omega) (by omega)) fun r' p2 r2 r3 hp2=>?_
  walk_at "d"
  obtain ⟨d,ed,hd⟩:=zkz (P:=RT) (ds:=acc) r2 (by rw [la']; exact r3) ha
  exact ⟨_,ed,q _ _ hd hp2⟩
theorem zbi {rows:List PyData} (hl:rows.length <= 900) (h:∀ r ∈ rows,RT r):ThB (.list rows):=⟨fun _ e=>by cases e; exact hl,fun _ e r m b w eq=>by cases e; exact h r m b w eq⟩
theorem ziG {d:PyData} (h:∀ rows,d ≠ .list rows):ThB d:=⟨fun rows e=>absurd e (h rows),fun rows e=>absurd e (h rows)⟩
theorem zfh {α:Type} {xs:List α} {lo hi:Option Int} {x:α} (m:x ∈ zc7 xs lo hi):x ∈ xs:=by
 unfold zc7 at m
 exact List.mem_of_mem_drop (List.mem_of_mem_take m)
theorem zgR {p:List PyData} {gs:List Gap} {rows:List PyData} (hp:za6 p) (h1:1 <= rows.length) (hl:rows.length <= 256) (hr:∀ r ∈ rows,RwG r) (q:∀ d p',ThB d->za6 p'->R (.d d) [p']):zcs [.d (.list rows),.d (zdi gs),.l 0] [p] R:=by
 unfold zcs
 walk_at "d"
 (refine seq1 ?_; walk_at "d")
 refine zD hp (by omega) (zcA (by omega) (by omega)) fun r p1 r0 r1 hp1=>?_
 walk_at "d"
 (refine seq1 ?_; walk_at "d")
 have c1:=zdn rows none (some r)
 have c2:=zdn rows (some (r + 1)) none
 have c3:=zdn rows none (some (r + 1))
 have c4:=zdn rows (some r) none
 have m1:∀ x ∈ zc7 rows none (some r),RT x:=fun x m=>zmC (hr x (zfh m))
 have m2:∀ x ∈ zc7 rows (some (r + 1)) none,RT x:=fun x m=>zmC (hr x (zfh m))
 have m3:∀ x ∈ zc7 rows none (some (r + 1)),RT x:=fun x m=>zmC (hr x (zfh m))
 have m4:∀ x ∈ zc7 rows (some r) none,RT x:=fun x m=>zmC (hr x (zfh m))
 obtain ⟨k,rfl⟩:=Int.eq_ofNat_of_zero_le r0
 have hk:k < rows.length:=by omega
 have ek:=List.getElem?_eq_getElem hk
 have rk:=hr _ (List.getElem_mem hk)
 refine zD hp1 (by decide) (by decide +kernel) fun r2 p2 r20 r21 hp2=>?_
 walk_at "d"
 by_cases hz:r2 = 0
 ·rw [if_pos hz]
  refine ⟨_,zcp ek,?_⟩
  obtain ⟨b,w,eb,hb,hw⟩:=rk
  rw [eb]
  refine zgF hp2 hb hw fun d p3 hd hp3=>?_
  walk_at "d"
  refine ⟨by omega,by omega,q _ _ (zbi (by simp only [List.length_append,List.length_cons,List.length_nil]; omega) fun x m=>?_) hp3⟩
  rcases List.mem_append.mp m with m | m
  ·rcases List.mem_append.mp m with m | m
   ·exact m1 x m
   ·rw [List.mem_singleton.mp m]; exact hd
  ·exact m2 x m
 ·rw [if_neg hz]
  (refine seq1 ?_; walk_at "d")
  refine ⟨by omega,by omega,by omega,?_⟩
  (refine seq1 ?_; walk_at "d")
  have e0:=List.getElem?_eq_getElem (show 0 < rows.length by omega)
  have r0':=hr _ (List.getElem_mem (show 0 < rows.length by omega))
  refine ⟨by omega,_,zcp (j:=0) e0,by omega,_,zcp ek,?_⟩
  refine zD hp2 (by decide) (by decide +kernel) fun r3 p3 r30 r31 hp3=>?_
  have all:∀ d ∈ [PyData.list (zc7 rows none (some (k:Int)) ++ zc7 rows (some ((k:Int) + 1)) none),PyData.list (zc7 rows none (some ((k:Int) + 1)) ++ zc7 rows (some (k:Int)) none),PyData.list rows.reverse,PyData.tuple rows,PyData.list [],PyData.none,PyData.dict [],PyData.list (rows ++ [PyData.none]),PyData.list (zc7 rows (some (k:Int)) none ++ zc7 rows none (some (k:Int))),PyData.list (rows ++ [rows[0]]),PyData.list [PyData.tuple [PyData.tuple [],PyData.tuple [PyData.str "dear"]]],PyData.list [PyData.tuple [PyData.tuple [],PyData.tuple [PyData.str "off",PyData.int 0]]],PyData.str "",rows[k]],ThB d:=by
   simp only [List.mem_cons,List.not_mem_nil,or_false]
   rintro d (rfl | rfl | rfl | rfl | rfl | rfl | rfl | rfl | rfl | rfl | rfl | rfl | rfl | rfl)
   ·exact zbi (by rw [List.length_append]; omega) fun x m=>(List.mem_append.mp m).elim (m1 x) (m2 x)
   ·exact zbi (by rw [List.length_append]; omega) fun x m=>(List.mem_append.mp m).elim (m3 x) (m4 x)
   ·exact zbi (by rw [List.length_reverse]; omega) fun x m=>zmC (hr x (List.mem_reverse.mp m))
   ·exact ziG fun _ e=>by cases e
   ·exact zbi (by simp) fun x m=>by cases m
   ·exact ziG fun _ e=>by cases e
   ·exact ziG fun _ e=>by cases e
   ·exact zbi (by simp; omega) fun x m=>(List.mem_append.mp m).elim (fun m=>zmC (hr x m)) fun m=>by rw [List.mem_singleton.mp m]; exact fun b w e=>by cases e
   ·exact zbi (by rw [List.length_append]; omega) fun x m=>(List.mem_append.mp m).elim (m4 x) (m1 x)
   ·exact zbi (by simp; omega) fun x m=>(List.mem_append.mp m).elim (fun m=>zmC (hr x m)) fun m=>by rw [List.mem_singleton.mp m]; exact zmC r0'
   ·exact zbi (by simp) fun x m=>by rw [List.mem_singleton.mp m]; exact zbd (zha (.inl rfl))
   ·exact zbi (by simp) fun x m=>by rw [List.mem_singleton.mp m]; exact zbd (zha (.inr ⟨0,rfl⟩))
   ·exact ziG fun _ e=>by cases e
   ·obtain ⟨b,w,eb,_⟩:=rk
    rw [eb]
    exact ziG fun _ e=>by cases e
  obtain ⟨d,ed,hd⟩:=zkz (P:=ThB) r30 (by simpa using r31) all
  walk_at "d"
  exact ⟨_,ed,q _ _ hd hp3⟩
theorem zjB:∀ {sz:List Nat},(∀ s ∈ sz,s <= 2)->zaI sz <= 2 ^ sz.length
 | [],_=>by decide
 | s :: sz,h=>by
  have h1:=h s List.mem_cons_self
  have h2:=zjB (sz:=sz) fun x m=>h x (List.mem_cons_of_mem _ m)
  show s * zaI sz <= 2 ^ (sz.length + 1)
  rw [Nat.pow_succ,Nat.mul_comm]
  exact Nat.mul_le_mul h2 h1
theorem zgS {ps:List Part} {gs:List Gap} {ns:List Int} {tr:List (List Trm)} {price:Int} (ht:TrC ps.length tr) (h1:ns.length = tr.length) (hg:GsT ps.length gs) (g1:1 <= gs.length) (g3:gs.length <= 3)
  (q:∀ rows:List PyData,(∀ r ∈ rows,RwG r)->1 <= rows.length->rows.length <= 256->R (.d (.list rows)) []):zc0 [.d (zdi gs),.d (zaE ns),.d (zcV tr),.d (.int price),.d (zaE [])] [] R:=by
 have h8:=zb3 ht.toTrs
 have few:=ht.few
 exact zfk ht h1 hg g1 g3 160 [] R (by cases szT tr <;> trivial) (by simp; omega) fun rows hr r1 r2=>q rows hr r1 (by simpa using Nat.le_trans r2 few)
theorem zjo (a:Addr) (n:Int):zpo (zs5 a 11) ((some (.o (.ref a)) :: List.replicate 11 none).set 5 (some (.d (.int n)))) []:=by
 unfold zpo
 walk_at "d"
 (refine seq1 ?_; walk_at "d")
 refine zhM fun p hp=>?_
 walk_at "d"
 (refine seq1 ?_; walk_at "d")
 refine zhP hp (by decide) (by decide) fun ps p1 hd hsz hp1=>?_
 have l8:=hd.l8
 walk_at "d"
 (refine seq1 ?_; walk_at "d")
 refine zgc hp1 hd fun tr p2 ht hp2=>?_
 walk_at "d"
 refine cut (fun δ S=>∃ (tr:List (List Trm)),TrC ps.length tr/\S = [p2]/\δ = [some (.o (.ref a)),none,none,none,none,some (.d (.int n)),some (.l 0),some (.d (zeE ps)),some (.d (zcV tr)),none,none,none]) (fun N hN=>?_) ?_
 ·unfold zeE
  walk_at "d"
  have tl:=ht.len
  by_cases h4:4 < ps.length
  ·rw [if_pos (by omega)]
   unfold zcV
   walk_at "d"
   refine cmp1 (S0:=[p2]) (fun l:List Trm=>zg8 (l.take 1)) rfl tr (by omega) ?_ ?_
   ·intro l ml u acc R' hk
    rw [zcY]
    walk_at "d"
    rw [show (some 1:Option Int) = some ((1:Nat):Int) from rfl,zhQ,<- List.map_take]
    exact hk _
   refine ⟨[p2],_,rfl,rfl,hN _ _ ⟨tr.map (·.take 1),⟨⟨by simpa using tl,fun l ml=>?_,l8⟩,?_⟩,rfl,?_⟩⟩
   ·obtain ⟨l',_,rfl⟩:=List.mem_map.mp ml
    rw [List.length_take]
    omega
   ·refine Nat.le_trans (zjB fun s m=>?_) ?_
    ·unfold szT at m
     rw [List.map_map] at m
     obtain ⟨l',_,rfl⟩:=List.mem_map.mp m
     simp only [Function.comp,List.length_take]
     omega
    ·have:(szT (tr.map (·.take 1))).length <= 8:=by simp [szT]; omega
     exact Nat.le_trans (Nat.pow_le_pow_right (by decide) this) (by decide)
   ·unfold zeE zcV
    rw [List.map_map]
    rfl
  ·rw [if_neg (by omega)]
   refine hN _ _ ⟨tr,⟨ht,?_⟩,rfl,rfl⟩
   refine Nat.le_trans (zjO (zoj ht).2) ?_
   have:(szT tr).length <= 4:=by simp [szT]; omega
   exact Nat.le_trans (Nat.pow_le_pow_right (by decide) this) (by decide)
 rintro _ _ ⟨tr,ht,rfl,rfl⟩
 have tl:=ht.len
 (refine seq1 ?_; walk_at "d")
 refine zkr hp2 hd fun ns p3 hns hp3=>?_
 walk_at "d"
 (refine seq1 ?_; walk_at "d")
 have nl:ns.length = tr.length:=by rw [hns.len,tl]
 refine zhS hp3 hd ht nl fun gs p4 hgs g1 g3 hp4=>?_
 walk_at "d"
 (refine seq1 ?_; walk_at "d")
 refine zD hp4 (by decide) (by decide +kernel) fun r p5 r0 r1 hp5=>?_
 walk_at "d"
 (refine seq1 ?_; walk_at "d")
 refine zgS ht nl hgs g1 g3 fun rows hr l1 l2=>?_
 walk_at "d"
 refine zsj (α:=PyData) ThB id (fun τ=>∃ u,τ = [u,some (.d (.list rows)),some (.d (zdi gs)),some (.l 0)]) _ [] p5 _ ⟨_,rfl⟩ hp5 (by rw [zam]; simp) ?_ ?_
 ·rintro d _ _ p acc R' ⟨u,rfl⟩ hp hk
  walk_at "d"
  refine zgR hp l1 l2 hr fun d p' hd hp'=>?_
  walk_at "d"
  exact hk _ d p' ⟨_,rfl⟩ hp' hd
 rintro xs p6 hp6 hxs hxl
 rw [zam] at hxl
 refine ⟨[p6],_,rfl,rfl,by simp; omega,by simp; omega,?_⟩
 have tr0:ThB (.list rows):=zbi (by omega) fun r m=>zmC (hr r m)
 have ex:(([]:List PyData) ++ xs).map id = xs:=by simp
 rw [ex]
 refine zao (fun i δ S=>∃ (u3 u11:Option XV),S = [p6]/\δ = [some (.o (.ref a)),none,some (.d (zdi gs)),u3,some (.d (.int (r - 1))),some (.d (.int n)),some (.l 0),some (.d (zeE ps)),some (.d (zcV tr)),some (.d (zaE ns)),some (.d (.list rows)),u11]) ⟨_,_,rfl,rfl⟩ ?_ ?_
 ·rintro i d _ _ N hi ⟨u3,u11,rfl,rfl⟩ hN
  have hd:ThB d:=by
   have m:=List.mem_of_getElem? hi
   rcases List.mem_cons.mp m with rfl | m
   ·exact tr0
   ·rcases List.mem_append.mp m with m | m
    ·exact hxs d m
    ·rw [List.mem_singleton.mp m]; exact tr0
  walk_at "d"
  refine zao (fun j δ S=>∃ (u11:Option XV),S = [p6]/\δ = [some (.o (.ref a)),none,some (.d (zdi gs)),some (.d d),some (.d (.int (r - 1))),some (.d (.int n)),some (.l 0),some (.d (zeE ps)),some (.d (zcV tr)),some (.d (zaE ns)),some (.d (.list rows)),u11]) ⟨_,rfl,rfl⟩ ?_ ?_
  ·rintro j e _ _ N hj ⟨u11,rfl,rfl⟩ hN
   obtain ⟨hj',rfl⟩:=zbB hj
   walk_at "d"
   refine zeH ht tl.symm nl hgs hd ?_
   walk_at "d"
   exact hN _ _ ⟨_,rfl,rfl⟩
  ·rintro _ _ ⟨u11,rfl,rfl⟩
   exact hN _ _ ⟨_,_,rfl,rfl⟩
 ·rintro _ _ ⟨u3,u11,rfl,rfl⟩
  exact ⟨rfl,rfl⟩
theorem zkx (a:Addr):zi4 (zsU a 11) (some (.o (.ref a)) :: List.replicate 11 none) []:=by
 unfold zi4
 walk_at "d"
 (refine seq1 ?_; walk_at "d")
 (refine seq1 ?_; walk_at "d")
 have e1:PyData.tuple [PyData.tuple [PyData.str "a",PyData.int 0,PyData.int 2]] = zeE [("a",0,2)]:=rfl
 have e2:PyData.tuple [PyData.tuple [PyData.tuple [PyData.tuple [PyData.int 0,PyData.int 1]],PyData.int 0,PyData.int 0]] = zdi [⟨[(0,1)],0,0⟩]:=rfl
 have e3:PyData.tuple [PyData.int 2] = zaE [2]:=rfl
 have e4:PyData.tuple [PyData.tuple [PyData.tuple [PyData.int 2,PyData.int 5]]] = zcV [[(2,5)]]:=rfl
 rw [e1,e2]
 have ht:TrC 1 [[((2:Int),(5:Int))]]:=⟨⟨rfl,by simp,by decide⟩,by decide⟩
 have hg:GsT ([("a",0,2)]:List Part).length [⟨[(0,1)],0,0⟩]:=⟨fun g m=>by
  rw [List.mem_singleton.mp m]
  exact ⟨by decide,fun t mt=>by rw [List.mem_singleton.mp mt]; exact ⟨by decide,by decide,by decide⟩⟩,fun g m=>by rw [List.mem_singleton.mp m]; exact Int.le_refl _⟩
 have wd:=zha (.inl rfl)
 have wo:=fun k=>zha (.inr ⟨k,rfl⟩)
 refine zao (fun i δ S=>∃ (u3 u4:Option XV),S = []/\δ = [some (.o (.ref a)),some (.d (zeE [("a",0,2)])),some (.d (zdi [⟨[(0,1)],0,0⟩])),u3,u4,none,none,none,none,none,none,none]) ⟨_,_,rfl,rfl⟩ ?_ ?_
 ·rintro i d _ _ N hi ⟨u3,u4,rfl,rfl⟩ hN
  have hd:ThB d:=by
   have m:=List.mem_of_getElem? hi
   simp only [List.mem_cons,List.not_mem_nil,or_false] at m
   rcases m with rfl | rfl | rfl | rfl
   ·exact zbi (by simp) fun x m=>by cases m
   ·exact zbi (by simp) fun x m=>by rw [List.mem_singleton.mp m]; exact zbd (wo 0)
   ·refine zbi (by simp) fun x m=>?_
    simp only [List.mem_cons,List.not_mem_nil,or_false] at m
    rcases m with rfl | rfl
    ·exact zbd (wo 0)
    ·exact zbd wd
   ·exact zbi (by simp) fun x m=>by rw [List.mem_singleton.mp m]; exact zbd wd
  walk_at "d"
  refine zao (fun j δ S=>∃ (u4:Option XV),S = []/\δ = [some (.o (.ref a)),some (.d (zeE [("a",0,2)])),some (.d (zdi [⟨[(0,1)],0,0⟩])),some (.d d),u4,none,none,none,none,none,none,none]) ⟨_,rfl,rfl⟩ ?_ ?_
  ·rintro j e _ _ N hj ⟨u4,rfl,rfl⟩ hN
   obtain ⟨z,rfl⟩:∃ z,e = .int z:=by
    have m:=List.mem_of_getElem? hj
    simp only [List.mem_cons,List.not_mem_nil,or_false] at m
    rcases m with rfl | rfl | rfl | rfl <;> exact ⟨_,rfl⟩
   walk_at "d"
   rw [e3,e4]
   refine zeH (ns:=[2]) (ps:=[("a",0,2)]) ht rfl rfl hg hd ?_
   walk_at "d"
   exact hN _ _ ⟨_,rfl,rfl⟩
  ·rintro _ _ ⟨u4,rfl,rfl⟩
   exact hN _ _ ⟨_,_,rfl,rfl⟩
 ·rintro _ _ ⟨u3,u4,rfl,rfl⟩
  exact ⟨rfl,rfl⟩
end
end My
namespace My
open PySem L2
def top (i : Nat) : Stmt := PySem.Challenge.pw_gaugewright_k68_bars_held.main.body.getD i (.Pass ⟨0, 0, 0, 0⟩)
abbrev s_law_cell_at:Stmt:=top 31
theorem zgX:FnScope ["script","k"] ["script","k"] (zq s_law_cell_at):=fsc (by decide +kernel)
abbrev s_law_pen_of:Stmt:=top 33
theorem zfo:FnScope ["cell","left"] ["cell"] (zq s_law_pen_of):=fsc (by decide +kernel)
abbrev s_law_next:Stmt:=top 32
theorem zgz:FnScope ["seed"] ["seed"] (zq s_law_next):=fsc (by decide +kernel)
abbrev s_law_draw:Stmt:=top 34
theorem zgI:FnScope ["pen","many","found"] ["pen","many"] (zq s_law_draw):=fsc (by decide +kernel)
abbrev s_law_names_of:Stmt:=top 37
theorem zah:FnScope ["pen","letters","way","first","names","word","at"] ["pen"] (zq s_law_names_of):=fsc (by decide +kernel)
abbrev s_law_number_of:Stmt:=top 36
theorem zea:FnScope ["pen","way"] ["pen"] (zq s_law_number_of):=fsc (by decide +kernel)
abbrev s_law_few:Stmt:=top 38
theorem zcx:FnScope ["pen","most","names","wides","drawing","k","low"] ["pen","most"] (zq s_law_few):=fsc (by decide +kernel)
abbrev s_law_trims_of:Stmt:=top 42
theorem zap:FnScope ["pen","drawing","found","part","row","much","price","k"] ["pen","drawing"] (zq s_law_trims_of):=fsc (by decide +kernel)
abbrev s_law_set:Stmt:=top 40
theorem zc9:FnScope ["pen","drawing","one","name","low","high","some"] ["pen","drawing"] (zq s_law_set):=fsc (by decide +kernel)
abbrev s_law_terms_of:Stmt:=top 39
theorem zbF:FnScope ["pen","drawing","some","terms","part"] ["pen","drawing"] (zq s_law_terms_of):=fsc (by decide +kernel)
abbrev s_law_filings:Stmt:=top 45
theorem zbn:FnScope ["trims","found","one","rows","ahead"] ["trims"] (zq s_law_filings):=fsc (by decide +kernel)
abbrev s_law_filed:Stmt:=top 43
theorem zee:FnScope ["built","trims","filing","left","part"] ["built","trims","filing"] (zq s_law_filed):=fsc (by decide +kernel)
abbrev s_law_worth:Stmt:=top 41
theorem zcQ:FnScope ["gap","one","total","part","times"] ["gap","one"] (zq s_law_worth):=fsc (by decide +kernel)
abbrev s_law_wanted:Stmt:=top 46
theorem zbg:FnScope ["pen","drawing","built","trims","gaps","k","terms","some","left","low"] ["pen","drawing","built","trims"] (zq s_law_wanted):=fsc (by decide +kernel)
abbrev s_law_price_of:Stmt:=top 44
theorem zco:FnScope ["trims","filing","total","part"] ["trims","filing"] (zq s_law_price_of):=fsc (by decide +kernel)
abbrev s_law_much_of:Stmt:=top 47
theorem zgQ:FnScope ["trims","part","number"] ["trims","part","number"] (zq s_law_much_of):=fsc (by decide +kernel)
abbrev s_law_off_of:Stmt:=top 48
theorem zaj:FnScope ["gap","built","trims","beginning","least","most","part","times","first","last","ends"] ["gap","built","trims","beginning"] (zq s_law_off_of):=fsc (by decide +kernel)
abbrev s_law_rows_of:Stmt:=top 53
theorem zcF:FnScope ["gaps","built","trims","price","ahead","off","found","number"] ["gaps","built","trims","price","ahead"] (zq s_law_rows_of):=fsc (by decide +kernel)
abbrev s_law_all_begun:Stmt:=top 51
theorem zbY:FnScope ["trims","beginnings","there","beginning","filing"] ["trims","beginnings"] (zq s_law_all_begun):=fsc (by decide +kernel)
abbrev s_law_whole:Stmt:=top 35
theorem ziq:FnScope ["found"] ["found"] (zq s_law_whole):=fsc (by decide +kernel)
abbrev s_law_why_of:Stmt:=top 50
theorem zd6:FnScope ["gaps","built","trims","price","row","beginning","why"] ["gaps","built","trims","price","row"] (zq s_law_why_of):=fsc (by decide +kernel)
abbrev s_law_beginning_of:Stmt:=top 49
theorem zeZ:FnScope ["trims","thing"] ["trims","thing"] (zq s_law_beginning_of):=fsc (by decide +kernel)
abbrev s_law_bar_due:Stmt:=top 52
theorem zbV:FnScope ["gaps","built","trims","price","thing","row","k","ahead","behind"] ["gaps","built","trims","price","thing"] (zq s_law_bar_due):=fsc (by decide +kernel)
abbrev s_choices_behind:Stmt:=top 17
theorem zbJ:FnScope ["sizes","beginning","many","size"] ["sizes","beginning"] (zq s_choices_behind):=fsc (by decide +kernel)
abbrev s_is_whole:Stmt:=top 1
theorem zjf:FnScope ["thing"] ["thing"] (zq s_is_whole):=fsc (by decide +kernel)
abbrev s_is_beginning:Stmt:=top 15
theorem zgd:FnScope ["sizes","thing"] ["sizes","thing"] (zq s_is_beginning):=fsc (by decide +kernel)
abbrev s_part_all_choices:Stmt:=top 19
theorem zeY:FnScope ["sizes","things"] ["sizes","things"] (zq s_part_all_choices):=fsc (by decide +kernel)
abbrev s_are_rows:Stmt:=top 18
theorem zjb:FnScope ["sizes","thing"] ["sizes","thing"] (zq s_are_rows):=fsc (by decide +kernel)
abbrev s_sizes_of:Stmt:=top 14
theorem zju:FnScope ["offers"] ["offers"] (zq s_sizes_of):=fsc (by decide +kernel)
abbrev s_meet:Stmt:=top 4
theorem zjr:FnScope ["one","other","low","high"] ["one","other"] (zq s_meet):=fsc (by decide +kernel)
abbrev s_plus:Stmt:=top 3
theorem zpd:FnScope ["one","other"] ["one","other"] (zq s_plus):=fsc (by decide +kernel)
abbrev s_multiplied:Stmt:=top 5
theorem ze7:FnScope ["one","by","ends"] ["one","by"] (zq s_multiplied):=fsc (by decide +kernel)
abbrev s_span_of:Stmt:=top 7
theorem zkH:FnScope ["part"] ["part"] (zq s_span_of):=fsc (by decide +kernel)
abbrev s_reach_of_terms:Stmt:=top 12
theorem zba:FnScope ["drawing","terms","ends","part","times"] ["drawing","terms"] (zq s_reach_of_terms):=fsc (by decide +kernel)
abbrev s_reach:Stmt:=top 11
theorem znh:FnScope ["drawing","gap"] ["drawing","gap"] (zq s_reach):=fsc (by decide +kernel)
abbrev s_wanted_of:Stmt:=top 9
theorem ziO:FnScope ["gap"] ["gap"] (zq s_wanted_of):=fsc (by decide +kernel)
abbrev s_misses:Stmt:=top 21
theorem zlD:FnScope ["drawing","gap"] ["drawing","gap"] (zq s_misses):=fsc (by decide +kernel)
abbrev s_ways_of:Stmt:=top 23
theorem zkO:FnScope ["trims"] ["trims"] (zq s_ways_of):=fsc (by decide +kernel)
abbrev s_chosen_ways:Stmt:=top 24
theorem zgW:FnScope ["trims","filing"] ["trims","filing"] (zq s_chosen_ways):=fsc (by decide +kernel)
abbrev s_filed:Stmt:=top 25
theorem znr:FnScope ["built","trims","filing"] ["built","trims","filing"] (zq s_filed):=fsc (by decide +kernel)
abbrev s_what_may_be_left:Stmt:=top 27
theorem zbh:FnScope ["drawing","built","trims","beginning","spans","number","ways"] ["drawing","built","trims","beginning"] (zq s_what_may_be_left):=fsc (by decide +kernel)
abbrev s_filing_price:Stmt:=top 26
theorem zgu:FnScope ["trims","filing"] ["trims","filing"] (zq s_filing_price):=fsc (by decide +kernel)
abbrev s_is_why_no_filing:Stmt:=top 29
theorem zeQ:FnScope ["job","built","trims","price","beginning","why"] ["job","built","trims","price","beginning","why"] (zq s_is_why_no_filing):=fsc (by decide +kernel)
abbrev s_bar_holds:Stmt:=top 28
theorem ziR:FnScope ["job","built","trims","price","thing"] ["job","built","trims","price","thing"] (zq s_bar_holds):=fsc (by decide +kernel)
abbrev s_law_right:Stmt:=top 56
theorem zel:FnScope ["drawing","gaps","built","trims","price","thing","due","found"] ["drawing","gaps","built","trims","price","thing"] (zq s_law_right):=fsc (by decide +kernel)
abbrev s_law_odd_row:Stmt:=top 54
theorem zaH:FnScope ["row","gaps","pen","ahead","why","some","odd"] ["row","gaps","pen"] (zq s_law_odd_row):=fsc (by decide +kernel)
abbrev s_law_odd_of:Stmt:=top 55
theorem zc4:FnScope ["rows","gaps","pen","at","some"] ["rows","gaps","pen"] (zq s_law_odd_of):=fsc (by decide +kernel)
abbrev s_law:Stmt:=top 57
theorem zc1:FnScope ["script","one","gaps","thing","price","cell","pen","drawing","trims","built","rows","more"] ["script"] (zq s_law):=fsc (by decide +kernel)
structure Txt (mg:Str->Option Value):Prop where
 n_len:mg "len" = none
 n_tuple:mg "tuple" = none
 n_range:mg "range" = none
 n_max:mg "max" = none
 n_int:mg "int" = none
 n_min:mg "min" = none
 n_list:mg "list" = none
 n_any:mg "any" = none
 n_isinstance:mg "isinstance" = none
 n_bool:mg "bool" = none
 n_all:mg "all" = none
 n_zip:mg "zip" = none
 n_sum:mg "sum" = none
structure Dds (K:W.Frag) (mg:Str->Option Value):Prop where
 d_law_cell_at:Dd K mg "_law_cell_at" s_law_cell_at ["script","k"]
 d_law_pen_of:Dd K mg "_law_pen_of" s_law_pen_of ["cell"]
 d_law_next:Dd K mg "_law_next" s_law_next ["seed"]
 d_law_draw:Dd K mg "_law_draw" s_law_draw ["pen","many"]
 d_law_names_of:Dd K mg "_law_names_of" s_law_names_of ["pen"]
 d_law_number_of:Dd K mg "_law_number_of" s_law_number_of ["pen"]
 d_law_few:Dd K mg "_law_few" s_law_few ["pen","most"]
 d_law_trims_of:Dd K mg "_law_trims_of" s_law_trims_of ["pen","drawing"]
 d_law_set:Dd K mg "_law_set" s_law_set ["pen","drawing"]
 d_law_terms_of:Dd K mg "_law_terms_of" s_law_terms_of ["pen","drawing"]
 d_law_filings:Dd K mg "_law_filings" s_law_filings ["trims"]
 d_law_filed:Dd K mg "_law_filed" s_law_filed ["built","trims","filing"]
 d_law_worth:Dd K mg "_law_worth" s_law_worth ["gap","one"]
 d_law_wanted:Dd K mg "_law_wanted" s_law_wanted ["pen","drawing","built","trims"]
 d_law_price_of:Dd K mg "_law_price_of" s_law_price_of ["trims","filing"]
 d_law_much_of:Dd K mg "_law_much_of" s_law_much_of ["trims","part","number"]
 d_law_off_of:Dd K mg "_law_off_of" s_law_off_of ["gap","built","trims","beginning"]
 d_law_rows_of:Dd K mg "_law_rows_of" s_law_rows_of ["gaps","built","trims","price","ahead"]
 d_law_all_begun:Dd K mg "_law_all_begun" s_law_all_begun ["trims","beginnings"]
 d_law_whole:Dd K mg "_law_whole" s_law_whole ["found"]
 d_law_why_of:Dd K mg "_law_why_of" s_law_why_of ["gaps","built","trims","price","row"]
 d_law_beginning_of:Dd K mg "_law_beginning_of" s_law_beginning_of ["trims","thing"]
 d_law_bar_due:Dd K mg "_law_bar_due" s_law_bar_due ["gaps","built","trims","price","thing"]
 d_choices_behind:Dd K mg "choices_behind" s_choices_behind ["sizes","beginning"]
 d_is_whole:Dd K mg "is_whole" s_is_whole ["thing"]
 d_is_beginning:Dd K mg "is_beginning" s_is_beginning ["sizes","thing"]
 d_part_all_choices:Dd K mg "part_all_choices" s_part_all_choices ["sizes","things"]
 d_are_rows:Dd K mg "are_rows" s_are_rows ["sizes","thing"]
 d_sizes_of:Dd K mg "sizes_of" s_sizes_of ["offers"]
 d_meet:Dd K mg "meet" s_meet ["one","other"]
 d_plus:Dd K mg "plus" s_plus ["one","other"]
 d_multiplied:Dd K mg "multiplied" s_multiplied ["one","by"]
 d_span_of:Dd K mg "span_of" s_span_of ["part"]
 d_reach_of_terms:Dd K mg "reach_of_terms" s_reach_of_terms ["drawing","terms"]
 d_reach:Dd K mg "reach" s_reach ["drawing","gap"]
 d_wanted_of:Dd K mg "wanted_of" s_wanted_of ["gap"]
 d_misses:Dd K mg "misses" s_misses ["drawing","gap"]
 d_ways_of:Dd K mg "ways_of" s_ways_of ["trims"]
 d_chosen_ways:Dd K mg "chosen_ways" s_chosen_ways ["trims","filing"]
 d_filed:Dd K mg "filed" s_filed ["built","trims","filing"]
 d_what_may_be_left:Dd K mg "what_may_be_left" s_what_may_be_left ["drawing","built","trims","beginning"]
 d_filing_price:Dd K mg "filing_price" s_filing_price ["trims","filing"]
 d_is_why_no_filing:Dd K mg "is_why_no_filing" s_is_why_no_filing ["job","built","trims","price","beginning","why"]
 d_bar_holds:Dd K mg "bar_holds" s_bar_holds ["job","built","trims","price","thing"]
 d_law_right:Dd K mg "_law_right" s_law_right ["drawing","gaps","built","trims","price","thing"]
 d_law_odd_row:Dd K mg "_law_odd_row" s_law_odd_row ["row","gaps","pen"]
 d_law_odd_of:Dd K mg "_law_odd_of" s_law_odd_of ["rows","gaps","pen"]
section
variable {P:Program} {w:World} {K:W.Frag} {mg:Str->Option Value} {base:Heap}
abbrev zfb (P:Program) (w:World) (K:W.Frag) (mg:Str->Option Value) (base:Heap):Prop:=Df P w K mg base "_law_pen_of" ["cell"] 1 (spN ["cell"] zdx)
abbrev ze1 (P:Program) (w:World) (K:W.Frag) (mg:Str->Option Value) (base:Heap):Prop:=Df P w K mg base "_law_next" ["seed"] 1 (spN ["seed"] zdN)
abbrev zaK (P:Program) (w:World) (K:W.Frag) (mg:Str->Option Value) (base:Heap):Prop:=Df P w K mg base "_law_draw" ["pen","many"] 2 (spN ["pen","many"] zx)
abbrev zda (P:Program) (w:World) (K:W.Frag) (mg:Str->Option Value) (base:Heap):Prop:=Df P w K mg base "_law_names_of" ["pen"] 3 (spN ["pen"] zbQ)
abbrev zcT (P:Program) (w:World) (K:W.Frag) (mg:Str->Option Value) (base:Heap):Prop:=Df P w K mg base "_law_number_of" ["pen"] 3 (spN ["pen"] zbz)
abbrev zhb (P:Program) (w:World) (K:W.Frag) (mg:Str->Option Value) (base:Heap):Prop:=Df P w K mg base "_law_few" ["pen","most"] 4 (spN ["pen","most"] zei)
abbrev zep (P:Program) (w:World) (K:W.Frag) (mg:Str->Option Value) (base:Heap):Prop:=Df P w K mg base "_law_trims_of" ["pen","drawing"] 3 (spN ["pen","drawing"] zcI)
abbrev zhd (P:Program) (w:World) (K:W.Frag) (mg:Str->Option Value) (base:Heap):Prop:=Df P w K mg base "_law_set" ["pen","drawing"] 3 (spN ["pen","drawing"] zfr)
abbrev zdl (P:Program) (w:World) (K:W.Frag) (mg:Str->Option Value) (base:Heap):Prop:=Df P w K mg base "_law_terms_of" ["pen","drawing"] 3 (spN ["pen","drawing"] zdC)
abbrev zcH (P:Program) (w:World) (K:W.Frag) (mg:Str->Option Value) (base:Heap):Prop:=Df P w K mg base "_law_filings" ["trims"] 1 (spN ["trims"] zcl)
abbrev zex (P:Program) (w:World) (K:W.Frag) (mg:Str->Option Value) (base:Heap):Prop:=Df P w K mg base "_law_filed" ["built","trims","filing"] 1 (spN ["built","trims","filing"] zd2)
abbrev zem (P:Program) (w:World) (K:W.Frag) (mg:Str->Option Value) (base:Heap):Prop:=Df P w K mg base "_law_worth" ["gap","one"] 1 (spN ["gap","one"] zeX)
abbrev zfp (P:Program) (w:World) (K:W.Frag) (mg:Str->Option Value) (base:Heap):Prop:=Df P w K mg base "_law_wanted" ["pen","drawing","built","trims"] 4 (spN ["pen","drawing","built","trims"] zdu)
abbrev zbD (P:Program) (w:World) (K:W.Frag) (mg:Str->Option Value) (base:Heap):Prop:=Df P w K mg base "_law_price_of" ["trims","filing"] 1 (spN ["trims","filing"] za9)
abbrev zdG (P:Program) (w:World) (K:W.Frag) (mg:Str->Option Value) (base:Heap):Prop:=Df P w K mg base "_law_much_of" ["trims","part","number"] 1 (spN ["trims","part","number"] zcj)
abbrev zch (P:Program) (w:World) (K:W.Frag) (mg:Str->Option Value) (base:Heap):Prop:=Df P w K mg base "_law_off_of" ["gap","built","trims","beginning"] 2 (spN ["gap","built","trims","beginning"] zcJ)
abbrev zeN (P:Program) (w:World) (K:W.Frag) (mg:Str->Option Value) (base:Heap):Prop:=Df P w K mg base "_law_rows_of" ["gaps","built","trims","price","ahead"] 163 (spN ["gaps","built","trims","price","ahead"] zc0)
abbrev zcU (P:Program) (w:World) (K:W.Frag) (mg:Str->Option Value) (base:Heap):Prop:=Df P w K mg base "_law_all_begun" ["trims","beginnings"] 2 (spN ["trims","beginnings"] zce)
abbrev zdt (P:Program) (w:World) (K:W.Frag) (mg:Str->Option Value) (base:Heap):Prop:=Df P w K mg base "_law_whole" ["found"] 1 (spN ["found"] zdb)
abbrev zd7 (P:Program) (w:World) (K:W.Frag) (mg:Str->Option Value) (base:Heap):Prop:=Df P w K mg base "_law_why_of" ["gaps","built","trims","price","row"] 3 (spN ["gaps","built","trims","price","row"] zck)
abbrev zb9 (P:Program) (w:World) (K:W.Frag) (mg:Str->Option Value) (base:Heap):Prop:=Df P w K mg base "_law_beginning_of" ["trims","thing"] 2 (spN ["trims","thing"] zbs)
abbrev zdH (P:Program) (w:World) (K:W.Frag) (mg:Str->Option Value) (base:Heap):Prop:=Df P w K mg base "_law_bar_due" ["gaps","built","trims","price","thing"] 4 (spN ["gaps","built","trims","price","thing"] zc5)
abbrev zcB (P:Program) (w:World) (K:W.Frag) (mg:Str->Option Value) (base:Heap):Prop:=Df P w K mg base "choices_behind" ["sizes","beginning"] 1 (spN ["sizes","beginning"] zbk)
abbrev zd5 (P:Program) (w:World) (K:W.Frag) (mg:Str->Option Value) (base:Heap):Prop:=Df P w K mg base "is_whole" ["thing"] 1 (spN ["thing"] zdM)
abbrev zdj (P:Program) (w:World) (K:W.Frag) (mg:Str->Option Value) (base:Heap):Prop:=Df P w K mg base "is_beginning" ["sizes","thing"] 2 (spN ["sizes","thing"] zcG)
abbrev zca (P:Program) (w:World) (K:W.Frag) (mg:Str->Option Value) (base:Heap):Prop:=Df P w K mg base "part_all_choices" ["sizes","things"] 3 (spN ["sizes","things"] zbq)
abbrev zeT (P:Program) (w:World) (K:W.Frag) (mg:Str->Option Value) (base:Heap):Prop:=Df P w K mg base "are_rows" ["sizes","thing"] 4 (spN ["sizes","thing"] zeB)
abbrev zeW (P:Program) (w:World) (K:W.Frag) (mg:Str->Option Value) (base:Heap):Prop:=Df P w K mg base "sizes_of" ["offers"] 1 (spN ["offers"] zey)
abbrev zjt (P:Program) (w:World) (K:W.Frag) (mg:Str->Option Value) (base:Heap):Prop:=Df P w K mg base "meet" ["one","other"] 1 (spN ["one","other"] zj8)
abbrev zji (P:Program) (w:World) (K:W.Frag) (mg:Str->Option Value) (base:Heap):Prop:=Df P w K mg base "plus" ["one","other"] 1 (spN ["one","other"] zjx)
abbrev zdZ (P:Program) (w:World) (K:W.Frag) (mg:Str->Option Value) (base:Heap):Prop:=Df P w K mg base "multiplied" ["one","by"] 1 (spN ["one","by"] zds)
abbrev zfs (P:Program) (w:World) (K:W.Frag) (mg:Str->Option Value) (base:Heap):Prop:=Df P w K mg base "span_of" ["part"] 1 (spN ["part"] zfg)
abbrev zcC (P:Program) (w:World) (K:W.Frag) (mg:Str->Option Value) (base:Heap):Prop:=Df P w K mg base "reach_of_terms" ["drawing","terms"] 2 (spN ["drawing","terms"] zbZ)
abbrev zhI (P:Program) (w:World) (K:W.Frag) (mg:Str->Option Value) (base:Heap):Prop:=Df P w K mg base "reach" ["drawing","gap"] 3 (spN ["drawing","gap"] zhW)
abbrev zed (P:Program) (w:World) (K:W.Frag) (mg:Str->Option Value) (base:Heap):Prop:=Df P w K mg base "wanted_of" ["gap"] 1 (spN ["gap"] zdY)
abbrev zgL (P:Program) (w:World) (K:W.Frag) (mg:Str->Option Value) (base:Heap):Prop:=Df P w K mg base "misses" ["drawing","gap"] 4 (spN ["drawing","gap"] zf2)
abbrev zdO (P:Program) (w:World) (K:W.Frag) (mg:Str->Option Value) (base:Heap):Prop:=Df P w K mg base "ways_of" ["trims"] 1 (spN ["trims"] zdR)
abbrev zcE (P:Program) (w:World) (K:W.Frag) (mg:Str->Option Value) (base:Heap):Prop:=Df P w K mg base "chosen_ways" ["trims","filing"] 2 (spN ["trims","filing"] zcq)
abbrev zhu (P:Program) (w:World) (K:W.Frag) (mg:Str->Option Value) (base:Heap):Prop:=Df P w K mg base "filed" ["built","trims","filing"] 3 (spN ["built","trims","filing"] zhV)
abbrev zb4 (P:Program) (w:World) (K:W.Frag) (mg:Str->Option Value) (base:Heap):Prop:=Df P w K mg base "what_may_be_left" ["drawing","built","trims","beginning"] 4 (spN ["drawing","built","trims","beginning"] zbp)
abbrev zdm (P:Program) (w:World) (K:W.Frag) (mg:Str->Option Value) (base:Heap):Prop:=Df P w K mg base "filing_price" ["trims","filing"] 3 (spN ["trims","filing"] zcD)
abbrev zb5 (P:Program) (w:World) (K:W.Frag) (mg:Str->Option Value) (base:Heap):Prop:=Df P w K mg base "is_why_no_filing" ["job","built","trims","price","beginning","why"] 5 (spN ["job","built","trims","price","beginning","why"] zbt)
abbrev zet (P:Program) (w:World) (K:W.Frag) (mg:Str->Option Value) (base:Heap):Prop:=Df P w K mg base "bar_holds" ["job","built","trims","price","thing"] 6 (spN ["job","built","trims","price","thing"] zd0)
abbrev zfG (P:Program) (w:World) (K:W.Frag) (mg:Str->Option Value) (base:Heap):Prop:=Df P w K mg base "_law_right" ["drawing","gaps","built","trims","price","thing"] 7 (spN ["drawing","gaps","built","trims","price","thing"] zbw)
abbrev zdF (P:Program) (w:World) (K:W.Frag) (mg:Str->Option Value) (base:Heap):Prop:=Df P w K mg base "_law_odd_row" ["row","gaps","pen"] 3 (spN ["row","gaps","pen"] zb1)
abbrev ze5 (P:Program) (w:World) (K:W.Frag) (mg:Str->Option Value) (base:Heap):Prop:=Df P w K mg base "_law_odd_of" ["rows","gaps","pen"] 4 (spN ["rows","gaps","pen"] zcs)
theorem zdX (T:Txt mg) (dd:Dds K mg):Df P w K mg base "_law_cell_at" ["script","k"] 1 (sp2 (zoQ K)):=by
 refine Df.of2 dd.d_law_cell_at zgX (fun v u=>[some v,some u]) (fun _ _=>rfl) fun f cdv A outer s H v u Q E hr h=>?_
 obtain ⟨a,ns,i,rfl,rfl,hS,h0,q⟩:=h
 refine ⟨_,(zj (zbl (zal zjw (pv 1) (zv zlq (by rfl) T.n_len zaf (zc (pv 0) zg)) (nomark _)) (zr (zH (zP zlu (pv 0) (pv 1) (fun _ _=>rfl)))) zZ) (zr (zH zh))),?_⟩
 simp only [zf1,zrT,zlg,tOp,zmU,tCB,zgV,zpU,zr6,tC,zoL,zmd,List.getElem?_cons_zero,List.getElem?_cons_succ]
 refine ⟨a,_,rfl,.inl hS,?_⟩
 simp only [zmd,zsz,decide_eq_true_eq]
 refine ite2 (fun hi=>?_) (fun _=>q 0)
 obtain ⟨n,e⟩:=zoW h0 hi
 exact ⟨a,_,i,_,rfl,rfl,hS,e,q n⟩
theorem zef (T:Txt mg) (dd:Dds K mg):zfb P w K mg base:=by
 exact Df.dN dd.d_law_pen_of zfo 1 rfl fun f cdv A outer s H E hr=>⟨_,_,(zj (zG (i:=1) zfo.nd rfl (Or.inl rfl) (zv (zgA rfl) (by rfl) T.n_max ziT (zc (pv 0) (zc (zI zcd zh (pv 0)) zg)))) (zr (zH (zab (zc (pv 1) (zc (zaJ zml (by rfl) T.n_int zk7 (zc (zcz znu (pv 1) (zI zg6 zh zh) (nomark _)) zg)) (zc (zI zfm (pv 1) zh) zg))))))),(zu (zC (zR zlX (za zd (za (zp zdQ zi zd) zf))) zk) (zJ (zb7 (za zd (za (zR zpc (za (zp zdD zd (zp zh6 zi zi)) zf)) (za (zp zh6 zd zi) zf)))))),fun xs S R q=>q⟩
theorem zc6 (T:Txt mg) (dd:Dds K mg):ze1 P w K mg base:=by
 exact Df.dN dd.d_law_next zgz 0 rfl fun f cdv A outer s H E hr=>⟨_,_,(zj (zG (i:=0) zgz.nd rfl (Or.inl rfl) (zI zfm (zI zK (pv 0) zh) zh)) (zr (zH (zI zfm (zI zK (zI zK (zI zbO (pv 0) (pv 0)) (zI zbO zh (pv 0))) zh) zh)))),(zu (zC (zp zh6 (zp zV zd zi) zi) zk) (zJ (zp zh6 (zp zV (zp zV (zp zc2 zd zd) (zp zc2 zi zd)) zi) zi))),fun xs S R q=>q⟩
theorem zw (T:Txt mg) (dd:Dds K mg) (zc6:ze1 P w K mg base):zaK P w K mg base:=by
 exact Df.dN dd.d_law_draw zgI 1 rfl fun f cdv A outer s H E hr=>⟨_,_,(zj (zbl (zal (zcL hr.units) (zP zB (pv 0) zh (fun _ _=>rfl)) zh (nomark _)) (zj (zG (i:=2) zgI.nd rfl (Or.inl rfl) (zI zfm (zP zB (pv 0) zh (fun _ _=>rfl)) (pv 1))) (zj (zim (zI zkR (zP zB (pv 0) zh (fun _ _=>rfl)) (pv 1)) (zlH (pv 0) zh zhD)) (zr (zH (pv 2))))) zZ) (zj (zim (zA zc6 hr (by decide) (zc (zI zK (zA zc6 hr (by decide) (zc (zP zB (pv 0) zh (fun _ _=>rfl)) zg)) zh) zg)) (zlH (pv 0) zh zhD)) (zr (zH (zI zfm (zI zkR (zP zB (pv 0) zh (fun _ _=>rfl)) zh) (pv 1)))))),(zu (zbu (zeI (zp zcK (zp zQ zd zi) zi)) (zu (zC (zp zh6 (zp zQ zd zi) zd) zk) (zu (zC (zp zpm (zp zQ zd zi) zd) (zkT zd zi)) (zJ zd))) zaa) (zu (zC (zN (za (zp zV (zN (za (zp zQ zd zi) zf)) zi) zf)) (zkT zd zi)) (zJ (zp zh6 (zp zpm (zp zQ zd zi) zi) zd)))),fun xs S R q=>q⟩
theorem zbW (T:Txt mg) (dd:Dds K mg) (zw:zaK P w K mg base):zda P w K mg base:=by
 exact Df.dN dd.d_law_names_of zah 6 rfl fun f cdv A outer s H E hr=>⟨_,_,(zj (zG (i:=1) zah.nd rfl (Or.inr rfl) zat) (zj (zG (i:=2) zah.nd rfl (Or.inl rfl) (zA zw hr (by decide) (zc (pv 0) (zc zh zg)))) (zj (zG (i:=3) zah.nd rfl (Or.inr rfl) (zA zw hr (by decide) (zc (pv 0) (zc zh zg)))) (zj (zgh (i:=4) (fun _ _ h=>h) rfl (zW rfl rfl rfl rfl (N:=["k","letters","first"]) (caps:=[none,some 1,some 3]) (by show za3 ["pen","letters","way","first","names","word","at"] (zq s_law_names_of).names _ _ _ = true; decide +kernel)) zah.nd rfl rfl (zaq rfl T.n_range (zc zh zg)) (fun _ _ _ _=>(zy (i:=0) (by show List.Nodup (["k","letters","first"]:List Str); decide) rfl (Or.inl rfl))) (fun _ _ _ _=>zaA) (fun _ _ _ _=>(zI zbO (zP zB (pv 1) (zI zfm (zI zK (pv 2) (zI zbO zh (pv 0))) zh) (fun _ _=>rfl)) (zI zK zh (zI zfm (zI zK (pv 2) (zI zbO zh (pv 0))) zh))))) (zj (zbl (zal (zcL hr.units) (pv 2) zh (nomark _)) (zj (zG (i:=5) zah.nd rfl (Or.inr rfl) (zfP PySem.F.plainAttrs_str PySem.F.slot_str_join PySem.F.type_str_join zoO zat (zc (zaY (fun _ _ h=>h) rfl (zW rfl rfl rfl rfl (N:=["k","letters","first"]) (caps:=[none,some 1,some 3]) (by show za3 ["pen","letters","way","first","names","word","at"] (zq s_law_names_of).names _ _ _ = true; decide +kernel)) (zaq rfl T.n_range (zc zh zg)) (fun _ _ _ _=>(zy (i:=0) (by show List.Nodup (["k","letters","first"]:List Str); decide) rfl (Or.inl rfl))) (fun _ _ _ _=>zaA) (fun _ _ _ _=>(zP zB (pv 1) (zI zfm (zI zK (pv 2) (zI zbO zh (pv 0))) zh) (fun _ _=>rfl)))) zg))) (zr (zgh (i:=4) (fun _ _ h=>h) rfl (zW rfl rfl rfl rfl (N:=["k","word"]) (caps:=[none,some 5]) (by show za3 ["pen","letters","way","first","names","word","at"] (zq s_law_names_of).names _ _ _ = true; decide +kernel)) zah.nd rfl rfl (zaq rfl T.n_range (zc zh zg)) (fun _ _ _ _=>(zy (i:=0) (by show List.Nodup (["k","word"]:List Str); decide) rfl (Or.inl rfl))) (fun _ _ _ _=>zaA) (fun _ _ _ _=>(zar zdw (pv 1) zaZ (zaL (zI zK (pv 0) zh))))))) zZ) (zj (zbl (zal (zcL hr.units) (pv 2) zh (nomark _)) (zr (zG (i:=4) zah.nd rfl (Or.inl rfl) (zab (zc zat (zc zat (zc zat (zc zat (zc zat (zc zat (zc zat (zc zat zg))))))))))) zZ) (zj (zG (i:=6) zah.nd rfl (Or.inl rfl) (zA zw hr (by decide) (zc (pv 0) (zc zh zg)))) (zj (zG (i:=4) zah.nd rfl (Or.inl rfl) (zI zhm (zar zdw (pv 4) (zaL (pv 6)) zaZ) (zar zdw (pv 4) zaZ (zaL (pv 6))))) (zj (zbl (zal (zcL hr.units) (zA zw hr (by decide) (zc (pv 0) (zc zh zg))) zh (nomark _)) (zr (zcX (zql PySem.F.plainAttrs_list PySem.F.slot_list_reverse PySem.F.type_list_reverse zkm (pv 4)))) zZ) (zr (zH (pv 4)))))))))))),(zu (zC zas zk) (zu (zC (zL (i:=0) (za zd (za zi zf))) zk) (zu (zC (zL (i:=0) (za zd (za zi zf))) zk) (zu (zC (zfa (za7 (za zi zf)) zk zaz (zp zc2 (zp zQ zd (zp zh6 (zp zV zd (zp zc2 zi zd)) zi)) (zp zV zi (zp zh6 (zp zV zd (zp zc2 zi zd)) zi)))) zk) (zu (zbu (zeI (zp zcK zd zi)) (zu (zC (zp9 znt zas (za (zbb (za7 (za zi zf)) zk zaz (zp zQ zd (zp zh6 (zp zV zd (zp zc2 zi zd)) zi))) zf)) zk) (zC (zfa (za7 (za zi zf)) zk zaz (zdE zdy zd za2 (za1 (zp zV zd zi)))) zk)) zaa) (zu (zbu (zeI (zp zcK zd zi)) (zC (zb7 (za zas (za zas (za zas (za zas (za zas (za zas (za zas (za zas zf))))))))) zk) zaa) (zu (zC (zL (i:=0) (za zd (za zi zf))) zk) (zu (zC (zp zh4 (zdE zdy zd (za1 zd) za2) (zdE zdy zd za2 (za1 zd))) zk) (zu (zbu (zeI (zp zcK (zL (i:=0) (za zd (za zi zf))) zi)) (zcW (zp1 zko zd)) zaa) (zJ zd)))))))))),fun xs S R q=>q⟩
theorem zby (T:Txt mg) (dd:Dds K mg) (zw:zaK P w K mg base):zcT P w K mg base:=by
 exact Df.dN dd.d_law_number_of zea 1 rfl fun f cdv A outer s H E hr=>⟨_,_,(zj (zG (i:=1) zea.nd rfl (Or.inl rfl) (zA zw hr (by decide) (zc (pv 0) (zc zh zg)))) (zj (zbl (zal zjw (pv 1) zh (nomark _)) (zr (zH (zI zcd (zA zw hr (by decide) (zc (pv 0) (zc zh zg))) zh))) zZ) (zj (zbl (zal zjw (pv 1) zh (nomark _)) (zr (zH (zI zcd (zA zw hr (by decide) (zc (pv 0) (zc zh zg))) zh))) zZ) (zr (zH (zI zbO (zI zcd (zA zw hr (by decide) (zc (pv 0) (zc (zI zbO zh (zI zg6 zh zh)) zg))) (zI zg6 zh zh)) (zI zg6 zh zh))))))),(zu (zC (zL (i:=0) (za zd (za zi zf))) zk) (zu (zbu (zeI (zp zdD zd zi)) (zJ (zp zdQ (zL (i:=0) (za zd (za zi zf))) zi)) zaa) (zu (zbu (zeI (zp zdD zd zi)) (zJ (zp zdQ (zL (i:=0) (za zd (za zi zf))) zi)) zaa) (zJ (zp zc2 (zp zdQ (zL (i:=0) (za zd (za (zp zc2 zi (zp zh6 zi zi)) zf))) (zp zh6 zi zi)) (zp zh6 zi zi)))))),fun xs S R q=>q⟩
theorem zgK (T:Txt mg) (dd:Dds K mg) (zbW:zda P w K mg base) (zw:zaK P w K mg base) (zby:zcT P w K mg base):zhb P w K mg base:=by
 exact Df.dN dd.d_law_few zcx 5 rfl fun f cdv A outer s H E hr=>⟨_,_,(zj (zG (i:=2) zcx.nd rfl (Or.inl rfl) (zA zbW hr (by decide) (zc (pv 0) zg))) (zj (zgh (i:=3) (fun _ _ h=>h) rfl (zW rfl rfl rfl rfl (N:=["k","pen"]) (caps:=[none,some 0]) (by show za3 ["pen","most","names","wides","drawing","k","low"] (zq s_law_few).names _ _ _ = true; decide +kernel)) zcx.nd rfl rfl (zaq rfl T.n_range (zc (zI zK zh (zA zw hr (by decide) (zc (pv 0) (zc (pv 1) zg)))) zg)) (fun _ _ _ _=>(zy (i:=0) (by show List.Nodup (["k","pen"]:List Str); decide) rfl (Or.inl rfl))) (fun _ _ _ _=>zaA) (fun _ _ _ _=>(zI zK zh (zA zw hr (by decide) (zc (pv 1) (zc zh zg)))))) (zj (zbl (zal (zcL hr.units) (zA zw hr (by decide) (zc (pv 0) (zc zh zg))) zh (nomark _)) (zr (zG (i:=3) zcx.nd rfl (Or.inl rfl) (zP zB (zab (zc (zI zbO (zab (zc zh zg)) zh) (zc (zab (zc zh (zc zh zg))) (zc (zab (zc zh zg)) (zc (zI zbO (zab (zc zh zg)) zh) zg))))) (zA zw hr (by decide) (zc (pv 0) (zc zh zg))) (fun _ _=>rfl)))) zZ) (zj (zG (i:=4) zcx.nd rfl (Or.inl rfl) (zab zg)) (zj (zbc PassesOwn.never rfl (zaq rfl T.n_range (zc (zv zE (by rfl) T.n_len zaf (zc (pv 3) zg)) zg)) (zy (i:=5) zcx.nd rfl (Or.inl rfl)) (zj (zG (i:=6) zcx.nd rfl (Or.inl rfl) (zA zby hr (by decide) (zc (pv 0) zg))) (zr (zcX (zfP PySem.F.plainAttrs_list PySem.F.slot_list_append PySem.F.type_list_append zbX (pv 4) (zc (zF (zc (zP zB (pv 2) (pv 5) (fun _ _=>rfl)) (zc (pv 6) (zc (zI zcd (zI zK (pv 6) (zP zB (pv 3) (pv 5) (fun _ _=>rfl))) zh) zg)))) zg)))))) (zr (zH (zaJ zai (by rfl) T.n_tuple zaM (zc (pv 4) zg))))))))),(zu (zC (zL (i:=0) (za zd zf)) zk) (zu (zC (zbb (za7 (za (zp zV zi (zL (i:=0) (za zd (za zd zf)))) zf)) zk zaz (zp zV zi (zL (i:=0) (za zd (za zi zf))))) zk) (zu (zbu (zeI (zp zcK (zL (i:=0) (za zd (za zi zf))) zi)) (zC (zp zQ (zak (za (zp zc2 (zak (za zi zf)) zi) (za (zak (za zi (za zi zf))) (za (zak (za zi zf)) (za (zp zc2 (zak (za zi zf)) zi) zf))))) (zL (i:=0) (za zd (za zi zf)))) zk) zaa) (zu (zC (zb7 zf) zk) (zu (zbH (za7 (za (zR zS (za zd zf)) zf)) zk (zu (zC (zL (i:=0) (za zd zf)) zk) (zcW (zf5 zcf zd (za (zz (za (zp zQ zd zd) (za zd (za (zp zdQ (zp zV zd (zp zQ zd zd)) zi) zf)))) zf))))) (zJ (zR zb0 (za zd zf)))))))),fun xs S R q=>q⟩
theorem zdB (T:Txt mg) (dd:Dds K mg) (zw:zaK P w K mg base):zep P w K mg base:=by
 exact Df.dN dd.d_law_trims_of zap 6 rfl fun f cdv A outer s H E hr=>⟨_,_,(zj (zG (i:=2) zap.nd rfl (Or.inl rfl) (zab zg)) (zj (zbc PassesOwn.never rfl (za5 (pv 1)) (zy (i:=3) zap.nd rfl (Or.inl rfl)) (zj (zG (i:=4) zap.nd rfl (Or.inl rfl) (zab zg)) (zj (zG (i:=5) zap.nd rfl (Or.inl rfl) zh) (zj (zG (i:=6) zap.nd rfl (Or.inl rfl) zh) (zj (zbc PassesOwn.never rfl (zaq rfl T.n_range (zc (zA zw hr (by decide) (zc (pv 0) (zc zh zg))) zg)) (zy (i:=7) zap.nd rfl (Or.inl rfl)) (zj (zG (i:=5) zap.nd rfl (Or.inl rfl) (zI zK (zI zK (pv 5) zh) (zA zw hr (by decide) (zc (pv 0) (zc (zP zB (zab (zc zh (zc zh (zc zh (zc (zI zg6 zh zh) zg))))) (zA zw hr (by decide) (zc (pv 0) (zc zh zg))) (fun _ _=>rfl)) zg))))) (zj (zG (i:=6) zap.nd rfl (Or.inl rfl) (zI zK (zI zK (pv 6) zh) (zA zw hr (by decide) (zc (pv 0) (zc zh zg))))) (zr (zcX (zfP PySem.F.plainAttrs_list PySem.F.slot_list_append PySem.F.type_list_append zbX (pv 4) (zc (zF (zc (pv 5) (zc (pv 6) zg))) zg))))))) (zr (zcX (zfP PySem.F.plainAttrs_list PySem.F.slot_list_append PySem.F.type_list_append zbX (pv 2) (zc (zaJ zai (by rfl) T.n_tuple zaM (zc (pv 4) zg)) zg))))))))) (zr (zH (zaJ zai (by rfl) T.n_tuple zaM (zc (pv 2) zg)))))),(zu (zC (zb7 zf) zk) (zu (zbH (za4 zd) zk (zu (zC (zb7 zf) zk) (zu (zC zi zk) (zu (zC zi zk) (zu (zbH (za7 (za (zL (i:=0) (za zd (za zi zf))) zf)) zk (zu (zC (zp zV (zp zV zd zi) (zL (i:=0) (za zd (za (zp zQ (zak (za zi (za zi (za zi (za (zp zh6 zi zi) zf))))) (zL (i:=0) (za zd (za zi zf)))) zf)))) zk) (zu (zC (zp zV (zp zV zd zi) (zL (i:=0) (za zd (za zi zf)))) zk) (zcW (zf5 zcf zd (za (zz (za zd (za zd zf))) zf)))))) (zcW (zf5 zcf zd (za (zR zb0 (za zd zf)) zf)))))))) (zJ (zR zb0 (za zd zf))))),fun xs S R q=>q⟩
theorem zga (T:Txt mg) (dd:Dds K mg) (zw:zaK P w K mg base):zhd P w K mg base:=by
 exact Df.dN dd.d_law_set zc9 5 rfl fun f cdv A outer s H E hr=>⟨_,_,(zj (zG (i:=2) zc9.nd rfl (Or.inl rfl) (zab zg)) (zj (zbc PassesOwn.never rfl (za5 (pv 1)) (zdk (n:=3) rfl (zY (zy (i:=3) zc9.nd rfl (Or.inl rfl)) (zY (zy (i:=4) zc9.nd rfl (Or.inl rfl)) (zY (zy (i:=5) zc9.nd rfl (Or.inl rfl)) zb2)))) (zj (zG (i:=6) zc9.nd rfl (Or.inl rfl) (zab (zc (pv 4) (zc (pv 5) (zc (zI zK (pv 4) (zI zkR (zI zcd (pv 5) (pv 4)) zh)) (zc (zv (ziF rfl) (by rfl) T.n_min zj0 (zc (pv 5) (zc (zI zK (pv 4) zh) zg))) (zc (zv (zgA rfl) (by rfl) T.n_max ziT (zc (pv 4) (zc (zI zcd (pv 5) zh) zg))) zg))))))) (zr (zcX (zfP PySem.F.plainAttrs_list PySem.F.slot_list_append PySem.F.type_list_append zbX (pv 2) (zc (zP zB (zI zK (pv 6) (zab (zc (zI zK (pv 4) (zI zfm (zA zw hr (by decide) (zc (pv 0) (zc (zI zg6 zh zh) zg))) (zI zK (zI zcd (pv 5) (pv 4)) zh))) zg))) (zA zw hr (by decide) (zc (pv 0) (zc zh zg))) (fun _ _=>rfl)) zg)))))) (zr (zH (zaJ zai (by rfl) T.n_tuple zaM (zc (pv 2) zg)))))),(zu (zC (zb7 zf) zk) (zu (zbH (za4 zd) (zdg (zX zk (zX zk (zX zk zb6)))) (zu (zC (zak (za zd (za zd (za (zp zV zd (zp zpm (zp zdQ zd zd) zi)) (za (zR zlX (za zd (za (zp zV zd zi) zf))) (za (zR zlX (za zd (za (zp zdQ zd zi) zf))) zf)))))) zk) (zcW (zf5 zcf zd (za (zp zQ (zp zV zd (zak (za (zp zV zd (zp zh6 (zL (i:=0) (za zd (za (zp zh6 zi zi) zf))) (zp zV (zp zdQ zd zd) zi))) zf))) (zL (i:=0) (za zd (za zi zf)))) zf))))) (zJ (zR zb0 (za zd zf))))),fun xs S R q=>q⟩
theorem zbS (T:Txt mg) (dd:Dds K mg) (zw:zaK P w K mg base):zdl P w K mg base:=by
 exact Df.dN dd.d_law_terms_of zbF 3 rfl fun f cdv A outer s H E hr=>⟨_,_,(zj (zG (i:=2) zbF.nd rfl (Or.inl rfl) (zP zB (zeu (zM (zeu (zM zh (zM (zec zcw zh) (zM zh (zM (zec zcw zh) (zM zh (zM (zec zcw zh) zbj))))))) (zM (zab (zc zh (zc (zec zcw zh) zg))) (zM (zab (zc zh (zc (zec zcw zh) zg))) (zM (zab (zc zh (zc (zec zcw zh) zg))) (zM (zab (zc zh (zc zh (zc (zec zcw zh) (zc (zec zcw zh) zg))))) (zM (zab (zc zh (zc zh (zc (zec zcw zh) (zc (zec zcw zh) zg))))) zbj))))))) (zA zw hr (by decide) (zc (pv 0) (zc zh zg))) (fun _ _=>rfl))) (zj (zG (i:=3) zbF.nd rfl (Or.inl rfl) (zab zg)) (zj (zbc PassesOwn.never rfl (zaq rfl T.n_range (zc (zv zE (by rfl) T.n_len zaf (zc (pv 1) zg)) zg)) (zy (i:=4) zbF.nd rfl (Or.inl rfl)) (zr (zbl (zal zkF (zA zw hr (by decide) (zc (pv 0) (zc zh zg))) zh (nomark _)) (zr (zcX (zfP PySem.F.plainAttrs_list PySem.F.slot_list_append PySem.F.type_list_append zbX (pv 3) (zc (zF (zc (pv 4) (zc (zP zB (pv 2) (zA zw hr (by decide) (zc (pv 0) (zc (zv zE (by rfl) T.n_len zaf (zc (pv 2) zg)) zg))) (fun _ _=>rfl)) zg))) zg)))) zZ))) (zj (zbl (zal (zcL hr.units) (pv 3) (zab zg) (nomark _)) (zr (zG (i:=3) zbF.nd rfl (Or.inl rfl) (zab (zc (zF (zc (zA zw hr (by decide) (zc (pv 0) (zc (zv zE (by rfl) T.n_len zaf (zc (pv 1) zg)) zg))) (zc (zP zB (pv 2) (zA zw hr (by decide) (zc (pv 0) (zc (zv zE (by rfl) T.n_len zaf (zc (pv 2) zg)) zg))) (fun _ _=>rfl)) zg))) zg)))) zZ) (zr (zH (zaJ zai (by rfl) T.n_tuple zaM (zc (pv 3) zg)))))))),(zu (zC (zp zQ (zak (za (zak (za zi (za (zeb zh7 zi) (za zi (za (zeb zh7 zi) (za zi (za (zeb zh7 zi) zf))))))) (za (zak (za zi (za (zeb zh7 zi) zf))) (za (zak (za zi (za (zeb zh7 zi) zf))) (za (zak (za zi (za (zeb zh7 zi) zf))) (za (zak (za zi (za zi (za (zeb zh7 zi) (za (zeb zh7 zi) zf))))) (za (zak (za zi (za zi (za (zeb zh7 zi) (za (zeb zh7 zi) zf))))) zf))))))) (zL (i:=0) (za zd (za zi zf)))) zk) (zu (zC (zb7 zf) zk) (zu (zbH (za7 (za (zR zS (za zd zf)) zf)) zk (zbu (zeI (zp zdD (zL (i:=0) (za zd (za zi zf))) zi)) (zcW (zf5 zcf zd (za (zz (za zd (za (zp zQ zd (zL (i:=0) (za zd (za (zR zS (za zd zf)) zf)))) zf))) zf))) zaa)) (zu (zbu (zeI (zp zcK zd (zak zf))) (zC (zb7 (za (zz (za (zL (i:=0) (za zd (za (zR zS (za zd zf)) zf))) (za (zp zQ zd (zL (i:=0) (za zd (za (zR zS (za zd zf)) zf)))) zf))) zf)) zk) zaa) (zJ (zR zb0 (za zd zf))))))),fun xs S R q=>q⟩
theorem zaV (T:Txt mg) (dd:Dds K mg):zcH P w K mg base:=by
 exact Df.dN dd.d_law_filings zbn 4 rfl fun f cdv A outer s H E hr=>⟨_,_,(zj (zG (i:=1) zbn.nd rfl (Or.inl rfl) (zab (zc (zF zg) zg))) (zj (zbc PassesOwn.never rfl (za5 (pv 0)) (zy (i:=2) zbn.nd rfl (Or.inl rfl)) (zj (zG (i:=3) zbn.nd rfl (Or.inl rfl) (zab zg)) (zj (zbc PassesOwn.never rfl (za5 (pv 1)) (zy (i:=4) zbn.nd rfl (Or.inr rfl)) (zr (zcX (zfP PySem.F.plainAttrs_list PySem.F.slot_list_extend PySem.F.type_list_extend ziD (pv 3) (zc (zaY (fun _ _ h=>h) rfl (zW rfl rfl rfl rfl (N:=["number","ahead"]) (caps:=[none,some 4]) (by show za3 ["trims","found","one","rows","ahead"] (zq s_law_filings).names _ _ _ = true; decide +kernel)) (zaq rfl T.n_range (zc (zI zK (zv zE (by rfl) T.n_len zaf (zc (pv 2) zg)) zh) zg)) (fun _ _ _ _=>(zy (i:=0) (by show List.Nodup (["number","ahead"]:List Str); decide) rfl (Or.inl rfl))) (fun _ _ _ _=>zaA) (fun _ _ _ _=>(zI zK (pv 1) (zF (zc (pv 0) zg))))) zg))))) (zr (zG (i:=1) zbn.nd rfl (Or.inl rfl) (pv 3)))))) (zr (zH (pv 1))))),(zu (zC (zak (za (zz zf) zf)) zk) (zu (zbH (za4 zd) zk (zop (zu (zoa (zu (zC (zb7 zf) zk) (zbH (za4 zd) zk (zcW (zf5 ziz zd (za (zbb (za7 (za (zp zV (zR zS (za zd zf)) zi) zf)) zk zaz (zp zV zd (zz (za zd zf)))) zf)))))) (zC zd zk)))) (zJ zd))),fun xs S R q=>q⟩
theorem zdh (T:Txt mg) (dd:Dds K mg):zex P w K mg base:=by
 exact Df.dN dd.d_law_filed zee 2 rfl fun f cdv A outer s H E hr=>⟨_,_,(zj (zG (i:=3) zee.nd rfl (Or.inl rfl) (zaJ zfI (by rfl) T.n_list zgC (zc (pv 0) zg))) (zj (zbc PassesOwn.never rfl (zaq rfl T.n_range (zc (zv zE (by rfl) T.n_len zaf (zc (pv 2) zg)) zg)) (zy (i:=4) zee.nd rfl (Or.inl rfl)) (zr (zbl (zal zkF (zP zB (pv 2) (pv 4) (fun _ _=>rfl)) zh (nomark _)) (zr (zim (zI zcd (zP zB (pv 3) (pv 4) (fun _ _=>rfl)) (zP zB (zP zB (zP zB (pv 1) (pv 4) (fun _ _=>rfl)) (zI zcd (zP zB (pv 2) (pv 4) (fun _ _=>rfl)) zh) (fun _ _=>rfl)) zh (fun _ _=>rfl))) (zlH (pv 3) (pv 4) zhD))) zZ))) (zr (zH (zaJ zai (by rfl) T.n_tuple zaM (zc (pv 3) zg)))))),(zu (zC (zR zl7 (za zd zf)) zk) (zu (zbH (za7 (za (zR zS (za zd zf)) zf)) zk (zbu (zeI (zp zdD (zp zQ zd zd) zi)) (zC (zp zdQ (zp zQ zd zd) (zp zQ (zp zQ (zp zQ zd zd) (zp zdQ (zp zQ zd zd) zi)) zi)) (zkT zd zd)) zaa)) (zJ (zR zb0 (za zd zf))))),fun xs S R q=>q⟩
theorem zdf (T:Txt mg) (dd:Dds K mg):zem P w K mg base:=by
 exact Df.dN dd.d_law_worth zcQ 3 rfl fun f cdv A outer s H E hr=>⟨_,_,(zj (zG (i:=2) zcQ.nd rfl (Or.inl rfl) zh) (zj (zbc PassesOwn.never rfl (za5 (zP zB (pv 0) zh (fun _ _=>rfl))) (zdk (n:=2) rfl (zY (zy (i:=3) zcQ.nd rfl (Or.inl rfl)) (zY (zy (i:=4) zcQ.nd rfl (Or.inl rfl)) zb2))) (zr (zG (i:=2) zcQ.nd rfl (Or.inl rfl) (zI zK (pv 2) (zI zbO (pv 4) (zP zB (pv 1) (pv 3) (fun _ _=>rfl))))))) (zr (zH (pv 2))))),(zu (zC zi zk) (zu (zbH (za4 (zp zQ zd zi)) (zdg (zX zk (zX zk zb6))) (zC (zp zV zd (zp zc2 zd (zp zQ zd zd))) zk)) (zJ zd))),fun xs S R q=>q⟩
theorem zeq (T:Txt mg) (dd:Dds K mg) (zw:zaK P w K mg base) (zbS:zdl P w K mg base) (zaV:zcH P w K mg base) (zdh:zex P w K mg base) (zdf:zem P w K mg base):zfp P w K mg base:=by
 exact Df.dN dd.d_law_wanted zbg 6 rfl fun f cdv A outer s H E hr=>⟨_,_,(zj (zG (i:=4) zbg.nd rfl (Or.inl rfl) (zab zg)) (zj (zbc PassesOwn.never rfl (zaq rfl T.n_range (zc (zI zK zh (zA zw hr (by decide) (zc (pv 0) (zc zh zg)))) zg)) (zy (i:=5) zbg.nd rfl (Or.inl rfl)) (zj (zG (i:=6) zbg.nd rfl (Or.inl rfl) (zA zbS hr (by decide) (zc (pv 0) (zc (pv 1) zg)))) (zj (zG (i:=7) zbg.nd rfl (Or.inl rfl) (zA zaV hr (by decide) (zc (pv 3) zg))) (zj (zG (i:=8) zbg.nd rfl (Or.inl rfl) (zA zdh hr (by decide) (zc (pv 2) (zc (pv 3) (zc (zP zB (pv 7) (zA zw hr (by decide) (zc (pv 0) (zc (zv zE (by rfl) T.n_len zaf (zc (pv 7) zg)) zg))) (fun _ _=>rfl)) zg))))) (zj (zG (i:=9) zbg.nd rfl (Or.inl rfl) (zI zcd (zI zK (zA zdf hr (by decide) (zc (zF (zc (pv 6) (zc zh (zc zh zg)))) (zc (pv 8) zg))) (zA zw hr (by decide) (zc (pv 0) (zc zh zg)))) zh)) (zr (zcX (zfP PySem.F.plainAttrs_list PySem.F.slot_list_append PySem.F.type_list_append zbX (pv 4) (zc (zF (zc (pv 6) (zc (pv 9) (zc (zI zK (pv 9) (zA zw hr (by decide) (zc (pv 0) (zc zh zg)))) zg)))) zg))))))))) (zr (zH (zaJ zai (by rfl) T.n_tuple zaM (zc (pv 4) zg)))))),(zu (zC (zb7 zf) zk) (zu (zbH (za7 (za (zp zV zi (zL (i:=0) (za zd (za zi zf)))) zf)) zk (zu (zC (zL (i:=0) (za zd (za zd zf))) zk) (zu (zC (zN (za zd zf)) zk) (zu (zC (zN (za zd (za zd (za (zp zQ zd (zL (i:=0) (za zd (za (zR zS (za zd zf)) zf)))) zf)))) zk) (zu (zC (zp zdQ (zp zV (zN (za (zz (za zd (za zi (za zi zf)))) (za zd zf))) (zL (i:=0) (za zd (za zi zf)))) zi) zk) (zcW (zf5 zcf zd (za (zz (za zd (za zd (za (zp zV zd (zL (i:=0) (za zd (za zi zf)))) zf)))) zf)))))))) (zJ (zR zb0 (za zd zf))))),fun xs S R q=>q⟩
theorem zag (T:Txt mg) (dd:Dds K mg):zbD P w K mg base:=by
 exact Df.dN dd.d_law_price_of zco 2 rfl fun f cdv A outer s H E hr=>⟨_,_,(zj (zG (i:=2) zco.nd rfl (Or.inl rfl) zh) (zj (zbc PassesOwn.never rfl (zaq rfl T.n_range (zc (zv zE (by rfl) T.n_len zaf (zc (pv 1) zg)) zg)) (zy (i:=3) zco.nd rfl (Or.inl rfl)) (zr (zG (i:=2) zco.nd rfl (Or.inl rfl) (zI zK (pv 2) (zP zB (zI zK (zab (zc zh zg)) (zaY (fun _ _ h=>h) rfl (zW (L:=0) rfl rfl rfl rfl (N:=["much","price"]) (caps:=[none,none]) (by show za3 ["trims","filing","total","part"] (zq s_law_price_of).names _ _ _ = true; decide +kernel)) (za5 (zP zB (pv 0) (pv 3) (fun _ _=>rfl))) (fun _ _ _ _=>(zdk (n:=2) rfl (zY (zy (i:=0) (by show List.Nodup (["much","price"]:List Str); decide) rfl (Or.inl rfl)) (zY (zy (i:=1) (by show List.Nodup (["much","price"]:List Str); decide) rfl (Or.inl rfl)) zb2)))) (fun _ _ _ _=>zaA) (fun _ _ _ _=>(pv 1)))) (zP zB (pv 1) (pv 3) (fun _ _=>rfl)) (fun _ _=>rfl)))))) (zr (zH (pv 2))))),(zu (zC zi zk) (zu (zbH (za7 (za (zR zS (za zd zf)) zf)) zk (zC (zp zV zd (zp zQ (zp zV (zak (za zi zf)) (zbb (za4 (zp zQ zd zd)) (zdg (zX zk (zX zk zb6))) zaz zd)) (zp zQ zd zd))) zk)) (zJ zd))),fun xs S R q=>q⟩
theorem zbL (T:Txt mg) (dd:Dds K mg):zdG P w K mg base:=by
 exact Df.dN dd.d_law_much_of zgQ 0 rfl fun f cdv A outer s H E hr=>⟨_,_,(zj (zbl (zal (zcL hr.units) (pv 2) zh (nomark _)) (zr (zH zh)) zZ) (zr (zH (zP zB (zP zB (zP zB (pv 0) (pv 1) (fun _ _=>rfl)) (zI zcd (pv 2) zh) (fun _ _=>rfl)) zh (fun _ _=>rfl))))),(zu (zbu (zeI (zp zcK zd zi)) (zJ zi) zaa) (zJ (zp zQ (zp zQ (zp zQ zd zd) (zp zdQ zd zi)) zi))),fun xs S R q=>q⟩
theorem zav (T:Txt mg) (dd:Dds K mg) (zbL:zdG P w K mg base):zch P w K mg base:=by
 exact Df.dN dd.d_law_off_of zaj 7 rfl fun f cdv A outer s H E hr=>⟨_,_,(zj (zG (i:=4) zaj.nd rfl (Or.inl rfl) zh) (zj (zG (i:=5) zaj.nd rfl (Or.inl rfl) zh) (zj (zbc PassesOwn.never rfl (za5 (zP zB (pv 0) zh (fun _ _=>rfl))) (zdk (n:=2) rfl (zY (zy (i:=6) zaj.nd rfl (Or.inl rfl)) (zY (zy (i:=7) zaj.nd rfl (Or.inl rfl)) zb2))) (zj (zG (i:=8) zaj.nd rfl (Or.inl rfl) zh) (zj (zG (i:=9) zaj.nd rfl (Or.inl rfl) (zA zbL hr (by decide) (zc (pv 2) (zc (pv 6) (zc (zv zE (by rfl) T.n_len zaf (zc (zP zB (pv 2) (pv 6) (fun _ _=>rfl)) zg)) zg))))) (zj (zbl (zal zjw (pv 6) (zv zE (by rfl) T.n_len zaf (zc (pv 3) zg)) (nomark _)) (zj (zG (i:=8) zaj.nd rfl (Or.inl rfl) (zA zbL hr (by decide) (zc (pv 2) (zc (pv 6) (zc (zP zB (pv 3) (pv 6) (fun _ _=>rfl)) zg))))) (zr (zG (i:=9) zaj.nd rfl (Or.inl rfl) (pv 8)))) zZ) (zj (zG (i:=10) zaj.nd rfl (Or.inl rfl) (zab (zc (zI zbO (pv 7) (zI zcd (zP zB (pv 1) (pv 6) (fun _ _=>rfl)) (pv 8))) (zc (zI zbO (pv 7) (zI zcd (zP zB (pv 1) (pv 6) (fun _ _=>rfl)) (pv 9))) zg)))) (zj (zG (i:=4) zaj.nd rfl (Or.inl rfl) (zI zK (pv 4) (zv (ziK rfl hr.units) (by rfl) T.n_min zj0 (zc (pv 10) zg)))) (zr (zG (i:=5) zaj.nd rfl (Or.inl rfl) (zI zK (pv 5) (zv (ziB rfl) (by rfl) T.n_max ziT (zc (pv 10) zg))))))))))) (zr (zH (zsA (zcz zjw (pv 5) (zP zB (pv 0) zh (fun _ _=>rfl)) (nomark _)) (zfd (zcz zkF (pv 4) (zP zB (pv 0) zh (fun _ _=>rfl)) (nomark _))))))))),(zu (zC zi zk) (zu (zC zi zk) (zu (zbH (za4 (zp zQ zd zi)) (zdg (zX zk (zX zk zb6))) (zu (zC zi zk) (zu (zC (zN (za zd (za zd (za (zR zS (za (zp zQ zd zd) zf)) zf)))) zk) (zu (zbu (zeI (zp zdD zd (zR zS (za zd zf)))) (zu (zC (zN (za zd (za zd (za (zp zQ zd zd) zf)))) zk) (zC zd zk)) zaa) (zu (zC (zak (za (zp zc2 zd (zp zdQ (zp zQ zd zd) zd)) (za (zp zc2 zd (zp zdQ (zp zQ zd zd) zd)) zf))) zk) (zu (zC (zp zV zd (zR zlF (za zd zf))) zk) (zC (zp zV zd (zR zos (za zd zf))) zk))))))) (zJ (zsx (zp zdD zd (zp zQ zd zi)) (zp zdD zd (zp zQ zd zi))))))),fun xs S R q=>q⟩
theorem zes (T:Txt mg) (dd:Dds K mg) (zag:zbD P w K mg base) (zav:zch P w K mg base):∀ n,Df P w K mg base "_law_rows_of" ["gaps","built","trims","price","ahead"] (3 + n) (spN ["gaps","built","trims","price","ahead"] (zax n))
 | 0=>Df.none dd.d_law_rows_of
 | n + 1=>by
  have zcm:=zes T dd zag zav n
  show Df P w K mg base "_law_rows_of" ["gaps","built","trims","price","ahead"] (3 + n + 1) (spN ["gaps","built","trims","price","ahead"] (zax (n + 1)))
  exact Df.dN dd.d_law_rows_of zcF 3 rfl fun f cdv A outer s H E hr=>⟨_,_,(zj (zbl (zal znu (zA zag hr (by omega) (zc (pv 2) (zc (pv 4) zg))) (pv 3) (nomark _)) (zr (zH (zab (zc (zF (zc (pv 4) (zc (zF (zc zat zg)) zg))) zg)))) zZ) (zj (zgh (i:=5) (fun _ _ h=>h) rfl (zW rfl rfl rfl rfl (N:=["number","built","trims","ahead","gaps"]) (caps:=[none,some 1,some 2,some 4,some 0]) (by show za3 ["gaps","built","trims","price","ahead","off","found","number"] (zq s_law_rows_of).names _ _ _ = true; decide +kernel)) zcF.nd rfl rfl (zaq rfl T.n_range (zc (zv zE (by rfl) T.n_len zaf (zc (pv 0) zg)) zg)) (fun _ _ _ _=>(zy (i:=0) (by show List.Nodup (["number","built","trims","ahead","gaps"]:List Str); decide) rfl (Or.inl rfl))) (fun _ _ _ _=>(zpw (zaF (zA zav hr (by omega) (zc (zP zB (pv 4) (pv 0) (fun _ _=>rfl)) (zc (pv 1) (zc (pv 2) (zc (pv 3) zg))))) (fun _=>rfl)))) (fun _ _ _ _=>(pv 0))) (zj (zbl (zal (zgs hr.units) (pv 5) (zab zg) (nomark _)) (zr (zH (zab (zc (zF (zc (pv 4) (zc (zF (zc zat (zc (zP zB (pv 5) (zec zcw zh) (fun _ _=>rfl)) zg))) zg))) zg)))) zZ) (zj (zbl (zal (zcL hr.units) (zv zE (by rfl) T.n_len zaf (zc (pv 4) zg)) (zv zE (by rfl) T.n_len zaf (zc (pv 2) zg)) (nomark _)) (zr (zH (zab (zc (zF (zc (pv 4) (zc (zF (zc zat (zc zh zg))) zg))) zg)))) zZ) (zj (zG (i:=6) zcF.nd rfl (Or.inl rfl) (zab zg)) (zj (zbc PassesOwn.never rfl (zaq rfl T.n_range (zc (zI zK (zv zE (by rfl) T.n_len zaf (zc (zP zB (pv 2) (zv zE (by rfl) T.n_len zaf (zc (pv 4) zg)) (fun _ _=>rfl)) zg)) zh) zg)) (zy (i:=7) zcF.nd rfl (Or.inl rfl)) (zr (zcX (zfP PySem.F.plainAttrs_list PySem.F.slot_list_extend PySem.F.type_list_extend ziD (pv 6) (zc (zA zcm hr (by omega) (zc (pv 0) (zc (pv 1) (zc (pv 2) (zc (pv 3) (zc (zI zK (pv 4) (zF (zc (pv 7) zg))) zg)))))) zg))))) (zr (zH (pv 6))))))))),(zu (zbu (zeI (zp zdD (zN (za zd (za zd zf))) zd)) (zJ (zb7 (za (zz (za zd (za (zz (za zas zf)) zf))) zf))) zaa) (zu (zC (zbb (za7 (za (zR zS (za zd zf)) zf)) zk (zct (zN (za (zp zQ zd zd) (za zd (za zd (za zd zf)))))) zd) zk) (zu (zbu (zeI (zp zf4 zd (zak zf))) (zJ (zb7 (za (zz (za zd (za (zz (za zas (za (zp zQ zd (zeb zh7 zi)) zf))) zf))) zf))) zaa) (zu (zbu (zeI (zp zcK (zR zS (za zd zf)) (zR zS (za zd zf)))) (zJ (zb7 (za (zz (za zd (za (zz (za zas (za zi zf))) zf))) zf))) zaa) (zu (zC (zb7 zf) zk) (zu (zbH (za7 (za (zp zV (zR zS (za (zp zQ zd (zR zS (za zd zf))) zf)) zi) zf)) zk (zcW (zf5 ziz zd (za (zN (za zd (za zd (za zd (za zd (za (zp zV zd (zz (za zd zf))) zf)))))) zf)))) (zJ zd))))))),fun xs S R q=>q⟩
theorem zcm (T:Txt mg) (dd:Dds K mg) (zag:zbD P w K mg base) (zav:zch P w K mg base):zeN P w K mg base:=zes T dd zag zav 160
theorem zbG (T:Txt mg) (dd:Dds K mg) (zaV:zcH P w K mg base):zcU P w K mg base:=by
 exact Df.dN dd.d_law_all_begun zbY 3 rfl fun f cdv A outer s H E hr=>⟨_,_,(zj (zG (i:=2) zbY.nd rfl (Or.inr rfl) zm5) (zj (zbc PassesOwn.never rfl (za5 (pv 1)) (zy (i:=3) zbY.nd rfl (Or.inl rfl)) (zr (zoF (zsc hr) (pv 2) (pv 3) zdc rfl))) (zj (zbc PassesOwn.never rfl (za5 (zA zaV hr (by decide) (zc (pv 0) zg))) (zy (i:=4) zbY.nd rfl (Or.inr rfl)) (zr (zbl (zcc (zaF (zv (zlc rfl) (by rfl) T.n_any zqj (zc (zaY (fun _ _ h=>h) rfl (zW rfl rfl rfl rfl (N:=["size","there","filing"]) (caps:=[none,some 2,some 4]) (by show za3 ["trims","beginnings","there","beginning","filing"] (zq s_law_all_begun).names _ _ _ = true; decide +kernel)) (zaq rfl T.n_range (zc (zI zK (zv zE (by rfl) T.n_len zaf (zc (pv 0) zg)) zh) zg)) (fun _ _ _ _=>(zy (i:=0) (by show List.Nodup (["size","there","filing"]:List Str); decide) rfl (Or.inl rfl))) (fun _ _ _ _=>zaA) (fun _ _ _ _=>(zcz (zqi hr.units) (zar zeP (pv 2) zaZ (zaL (pv 0))) (pv 1) (by rfl)))) zg)) (fun _=>rfl))) (zr (zH zdc)) zZ))) (zr (zH zdc))))),(zpg (zpe (zo7 (zp4 (znF (fun M=>zi6 (za4 zd)) zk (zrm (fun M=>(zhE zd)) (fun M=>(zhE zdq)))) (znF (fun M=>zi6 (za4 (zN (za zd zf)))) zk (zr3 (fun M=>(zqW (zq0 (zsy zqI (zoz (zmA (zi6 (za7 (za (zp zV (zR zS (za zd zf)) zi) zf))) zk (zo8 zaz) (zqX zqg (zhE (zdE ze2 zd za2 (za1 zd))) (zhE zd))) (zpG zf)))))) (zk4 (zJ zdq)) (zk4 zaa)))))) (zJ zdq)),fun xs S R q=>q⟩
theorem zbC (T:Txt mg) (dd:Dds K mg):zdt P w K mg base:=by
 exact Df.dN dd.d_law_whole ziq 0 rfl fun f cdv A outer s H E hr=>⟨_,_,(zr (zH (zfM (zv zbM (by rfl) T.n_isinstance zad (zc (pv 0) (zc (zcy rfl T.n_int zk7 (v:=.ty "int") rfl) zg))) (zfd (znH (zv zbM (by rfl) T.n_isinstance zad (zc (pv 0) (zc (zcy rfl T.n_bool zi8 (v:=.ty "bool") rfl) zg)))))))),(zJ (zfL (zR zdS (za zd (za zkC zf))) (znQ (zR zdS (za zd (za zkC zf)))))),fun xs S R q=>q⟩
theorem zcM (T:Txt mg) (dd:Dds K mg) (zag:zbD P w K mg base) (zbC:zdt P w K mg base) (zav:zch P w K mg base):zd7 P w K mg base:=by
 exact Df.dN dd.d_law_why_of zd6 2 rfl fun f cdv A outer s H E hr=>⟨_,_,(zj (zim (pv 4) (zdk (n:=2) rfl (zY (zy (i:=5) zd6.nd rfl (Or.inl rfl)) (zY (zy (i:=6) zd6.nd rfl (Or.inl rfl)) zb2)))) (zj (zbl (PW.pt (zfW (zcc (zaF (zv zbM (by rfl) T.n_isinstance zad (zc (pv 6) (zc (zcy rfl T.n_tuple zaM (v:=.ty "tuple") rfl) zg))) (fun _=>rfl))) (zfN (zal (zcL hr.units) (zv zE (by rfl) T.n_len zaf (zc (pv 6) zg)) zh (nomark _))))) (zr (zH zdc)) zZ) (zj (zbl (zal (zcL hr.units) (zP zB (pv 6) zh (fun _ _=>rfl)) zat (nomark _)) (zr (zH (zfM (zcz (zcL hr.units) (zv zE (by rfl) T.n_len zaf (zc (pv 6) zg)) zh (nomark _)) (zfd (zcz znu (zA zag hr (by decide) (zc (pv 2) (zc (pv 5) zg))) (pv 3) (nomark _)))))) zZ) (zj (zbl (PW.pt (zfW (zal (zgs hr.units) (zP zB (pv 6) zh (fun _ _=>rfl)) zat (nomark _)) (zfW (zal (zgs hr.units) (zv zE (by rfl) T.n_len zaf (zc (pv 6) zg)) zh (nomark _)) (zfW (zcc (zaF (zA zbC hr (by decide) (zc (zP zB (pv 6) zh (fun _ _=>rfl)) zg)) (fun _=>rfl))) (zfN (zmG true rfl T.n_range (zP zB (pv 6) zh (fun _ _=>rfl)) (zc (zv zE (by rfl) T.n_len zaf (zc (pv 0) zg)) zg))))))) (zr (zH zdc)) zZ) (zr (zH (zA zav hr (by decide) (zc (zP zB (pv 0) (zP zB (pv 6) zh (fun _ _=>rfl)) (fun _ _=>rfl)) (zc (pv 1) (zc (pv 2) (zc (pv 5) zg))))))))))),(zu (zC zd (zdg (zX zk (zX zk zb6)))) (zu (zbu (zfT (zcv (zct (zR zdS (za zd (za zkC zf))))) (zeI (zp zcK (zR zS (za zd zf)) zi))) (zJ zdq) zaa) (zu (zbu (zeI (zp zcK (zp zQ zd zi) zas)) (zJ (zfL (zp zcK (zR zS (za zd zf)) zi) (zp zdD (zN (za zd (za zd zf))) zd))) zaa) (zu (zbu (zfT (zeI (zp zf4 (zp zQ zd zi) zas)) (zfT (zeI (zp zf4 (zR zS (za zd zf)) zi)) (zfT (zcv (zct (zN (za (zp zQ zd zi) zf)))) (zeI (znd (zp zQ zd zi) (za (zR zS (za zd zf)) zf)))))) (zJ zdq) zaa) (zJ (zN (za (zp zQ zd (zp zQ zd zi)) (za zd (za zd (za zd zf)))))))))),fun xs S R q=>q⟩
theorem zaU (T:Txt mg) (dd:Dds K mg) (zbC:zdt P w K mg base):zb9 P w K mg base:=by
 exact Df.dN dd.d_law_beginning_of zeZ 0 rfl fun f cdv A outer s H E hr=>⟨_,_,(zj (zbl (PW.pt (zfW (zcc (zaF (zv zbM (by rfl) T.n_isinstance zad (zc (pv 1) (zc (zcy rfl T.n_tuple zaM (v:=.ty "tuple") rfl) zg))) (fun _=>rfl))) (zfN (zal zkF (zv zE (by rfl) T.n_len zaf (zc (pv 1) zg)) (zv zE (by rfl) T.n_len zaf (zc (pv 0) zg)) (nomark _))))) (zr (zH zdc)) zZ) (zr (zH (zv (zdP rfl) (by rfl) T.n_all zhc (zc (zaY (fun _ _ h=>h) rfl (zW (L:=0) rfl rfl rfl rfl (N:=["number","one"]) (caps:=[none,none]) (by show za3 ["trims","thing"] (zq s_law_beginning_of).names _ _ _ = true; decide +kernel)) (zfy rfl T.n_zip (zc (pv 1) (zc (pv 0) zg))) (fun _ _ _ _=>(zdk (n:=2) rfl (zY (zy (i:=0) (by show List.Nodup (["number","one"]:List Str); decide) rfl (Or.inl rfl)) (zY (zy (i:=1) (by show List.Nodup (["number","one"]:List Str); decide) rfl (Or.inl rfl)) zb2)))) (fun _ _ _ _=>zaA) (fun _ _ _ _=>(zfM (zA zbC hr (by decide) (zc (pv 0) zg)) (zfd (zjL zlp zlp zh (pv 0) (zv zE (by rfl) T.n_len zaf (zc (pv 1) zg))))))) zg))))),(zu (zbu (zfT (zcv (zct (zR zdS (za zd (za zkC zf))))) (zeI (zp zdD (zR zS (za zd zf)) (zR zS (za zd zf))))) (zJ zdq) zaa) (zJ (zR zhl (za (zbb (zfv (za zd (za zd zf))) (zdg (zX zk (zX zk zb6))) zaz (zfL (zN (za zd zf)) (zh1 zdD zdD zi zd (zR zS (za zd zf))))) zf)))),fun xs S R q=>q⟩
theorem zcr (T:Txt mg) (dd:Dds K mg) (zaU:zb9 P w K mg base) (zcM:zd7 P w K mg base) (zbG:zcU P w K mg base):zdH P w K mg base:=by
 exact Df.dN dd.d_law_bar_due zbV 4 rfl fun f cdv A outer s H E hr=>⟨_,_,(zj (zbl (zcc (zaF (zv zbM (by rfl) T.n_isinstance zad (zc (pv 4) (zc (zcy rfl T.n_list zgC (v:=.ty "list") rfl) zg))) (fun _=>rfl))) (zr (zH zdc)) zZ) (zj (zbc PassesOwn.never rfl (za5 (pv 4)) (zy (i:=5) zbV.nd rfl (Or.inl rfl)) (zj (zbl (PW.pt (zfW (zcc (zaF (zv zbM (by rfl) T.n_isinstance zad (zc (pv 5) (zc (zcy rfl T.n_tuple zaM (v:=.ty "tuple") rfl) zg))) (fun _=>rfl))) (zfW (zal (zgs hr.units) (zv zE (by rfl) T.n_len zaf (zc (pv 5) zg)) zh (nomark _)) (zfN (zcc (zaF (zA zaU hr (by decide) (zc (pv 2) (zc (zP zB (pv 5) zh (fun _ _=>rfl)) zg))) (fun _=>rfl))))))) (zr (zH zdc)) zZ) (zr (zbl (zcc (zaF (zA zcM hr (by decide) (zc (pv 0) (zc (pv 1) (zc (pv 2) (zc (pv 3) (zc (pv 5) zg)))))) (fun _=>rfl))) (zr (zH zdc)) zZ)))) (zj (zbc PassesOwn.never rfl (zaq rfl T.n_range (zc (zI zcd (zv zE (by rfl) T.n_len zaf (zc (pv 4) zg)) zh) zg)) (zy (i:=6) zbV.nd rfl (Or.inl rfl)) (zj (zG (i:=7) zbV.nd rfl (Or.inl rfl) (zP zB (zP zB (pv 4) (pv 6) (fun _ _=>rfl)) zh (fun _ _=>rfl))) (zj (zG (i:=8) zbV.nd rfl (Or.inl rfl) (zP zB (zP zB (pv 4) (zI zK (pv 6) zh) (fun _ _=>rfl)) zh (fun _ _=>rfl))) (zr (zbl (PW.pt (zfW (zal (zrz hr.units) (pv 7) (pv 8) (nomark _)) (zfN (zal (zcL hr.units) (zar zeP (pv 8) zaZ (zaL (zv zE (by rfl) T.n_len zaf (zc (pv 7) zg)))) (pv 7) (nomark _))))) (zr (zH zdc)) zZ))))) (zr (zH (zA zbG hr (by decide) (zc (pv 2) (zc (zaY (fun _ _ h=>h) rfl (zW (L:=0) rfl rfl rfl rfl (N:=["row"]) (caps:=[none]) (by show za3 ["gaps","built","trims","price","thing","row","k","ahead","behind"] (zq s_law_bar_due).names _ _ _ = true; decide +kernel)) (za5 (pv 4)) (fun _ _ _ _=>(zy (i:=0) (by show List.Nodup (["row"]:List Str); decide) rfl (Or.inl rfl))) (fun _ _ _ _=>zaA) (fun _ _ _ _=>(zP zB (pv 0) zh (fun _ _=>rfl)))) zg)))))))),(zu (zbu (zcv (zct (zR zdS (za zd (za zkC zf))))) (zJ zdq) zaa) (zu (zbH (za4 zd) zk (zu (zbu (zfT (zcv (zct (zR zdS (za zd (za zkC zf))))) (zfT (zeI (zp zf4 (zR zS (za zd zf)) zi)) (zcv (zct (zN (za zd (za (zp zQ zd zi) zf))))))) (zJ zdq) zaa) (zbu (zcv (zct (zN (za zd (za zd (za zd (za zd (za zd zf)))))))) (zJ zdq) zaa))) (zu (zbH (za7 (za (zp zdQ (zR zS (za zd zf)) zi) zf)) zk (zu (zC (zp zQ (zp zQ zd zd) zi) zk) (zu (zC (zp zQ (zp zQ zd (zp zV zd zi)) zi) zk) (zbu (zfT (zeI (zp zrw zd zd)) (zeI (zp zcK (zdE ze2 zd za2 (za1 (zR zS (za zd zf)))) zd))) (zJ zdq) zaa)))) (zJ (zN (za zd (za (zbb (za4 zd) zk zaz (zp zQ zd zi)) zf))))))),fun xs S R q=>q⟩
theorem zaQ (T:Txt mg) (dd:Dds K mg):zcB P w K mg base:=by
 exact Df.dN dd.d_choices_behind zbJ 2 rfl fun f cdv A outer s H E hr=>⟨_,_,(zj (zG (i:=2) zbJ.nd rfl (Or.inl rfl) zh) (zj (zbc PassesOwn.never rfl (za5 (zar zdw (pv 0) (zaL (zv zE (by rfl) T.n_len zaf (zc (pv 1) zg))) zaZ)) (zy (i:=3) zbJ.nd rfl (Or.inl rfl)) (zr (zG (i:=2) zbJ.nd rfl (Or.inl rfl) (zI zbO (pv 2) (pv 3))))) (zr (zH (pv 2))))),(zu (zC zi zk) (zu (zbH (za4 (zdE zdy zd (za1 (zR zS (za zd zf))) za2)) zk (zC (zp zc2 zd zd) zk)) (zJ zd))),fun xs S R q=>q⟩
theorem zcb (T:Txt mg) (dd:Dds K mg):zd5 P w K mg base:=by
 exact Df.dN dd.d_is_whole zjf 0 rfl fun f cdv A outer s H E hr=>⟨_,_,(zr (zH (zfM (zv zbM (by rfl) T.n_isinstance zad (zc (pv 0) (zc (zcy rfl T.n_int zk7 (v:=.ty "int") rfl) zg))) (zfd (znH (zv zbM (by rfl) T.n_isinstance zad (zc (pv 0) (zc (zcy rfl T.n_bool zi8 (v:=.ty "bool") rfl) zg)))))))),(zJ (zfL (zR zdS (za zd (za zkC zf))) (znQ (zR zdS (za zd (za zkC zf)))))),fun xs S R q=>q⟩
theorem zbT (T:Txt mg) (dd:Dds K mg) (zcb:zd5 P w K mg base):zdj P w K mg base:=by
 exact Df.dN dd.d_is_beginning zgd 0 rfl fun f cdv A outer s H E hr=>⟨_,_,(zj (zbl (PW.pt (zfW (zcc (zaF (zv zbM (by rfl) T.n_isinstance zad (zc (pv 1) (zc (zcy rfl T.n_tuple zaM (v:=.ty "tuple") rfl) zg))) (fun _=>rfl))) (zfN (zal zkF (zv zE (by rfl) T.n_len zaf (zc (pv 1) zg)) (zv zE (by rfl) T.n_len zaf (zc (pv 0) zg)) (nomark _))))) (zr (zH zdc)) zZ) (zr (zH (zv (zdP rfl) (by rfl) T.n_all zhc (zc (zaY (fun _ _ h=>h) rfl (zW (L:=0) rfl rfl rfl rfl (N:=["number","size"]) (caps:=[none,none]) (by show za3 ["sizes","thing"] (zq s_is_beginning).names _ _ _ = true; decide +kernel)) (zfy rfl T.n_zip (zc (pv 1) (zc (pv 0) zg))) (fun _ _ _ _=>(zdk (n:=2) rfl (zY (zy (i:=0) (by show List.Nodup (["number","size"]:List Str); decide) rfl (Or.inl rfl)) (zY (zy (i:=1) (by show List.Nodup (["number","size"]:List Str); decide) rfl (Or.inl rfl)) zb2)))) (fun _ _ _ _=>zaA) (fun _ _ _ _=>(zfM (zA zcb hr (by decide) (zc (pv 0) zg)) (zfd (zjL zlp zjw zh (pv 0) (pv 1)))))) zg))))),(zu (zbu (zfT (zcv (zct (zR zdS (za zd (za zkC zf))))) (zeI (zp zdD (zR zS (za zd zf)) (zR zS (za zd zf))))) (zJ zdq) zaa) (zJ (zR zhl (za (zbb (zfv (za zd (za zd zf))) (zdg (zX zk (zX zk zb6))) zaz (zfL (zN (za zd zf)) (zh1 zdD zdD zi zd zd))) zf)))),fun xs S R q=>q⟩
theorem zaX (T:Txt mg) (dd:Dds K mg) (zbT:zdj P w K mg base) (zaQ:zcB P w K mg base):zca P w K mg base:=by
 exact Df.dN dd.d_part_all_choices zeY 0 rfl fun f cdv A outer s H E hr=>⟨_,_,(zj (zbl (zcc (zaF (zv (zdP rfl) (by rfl) T.n_all zhc (zc (zaY (fun _ _ h=>h) rfl (zW rfl rfl rfl rfl (N:=["thing","sizes"]) (caps:=[none,some 0]) (by show za3 ["sizes","things"] (zq s_part_all_choices).names _ _ _ = true; decide +kernel)) (za5 (pv 1)) (fun _ _ _ _=>(zy (i:=0) (by show List.Nodup (["thing","sizes"]:List Str); decide) rfl (Or.inl rfl))) (fun _ _ _ _=>zaA) (fun _ _ _ _=>(zA zbT hr (by decide) (zc (pv 1) (zc (pv 0) zg))))) zg)) (fun _=>rfl))) (zr (zH zdc)) zZ) (zj (zbl (zcc (zaF (zv (zdP rfl) (by rfl) T.n_all zhc (zc (zaY (fun _ _ h=>h) rfl (zW rfl rfl rfl rfl (N:=["ahead","thing"]) (caps:=[none,none]) (by show za3 ["sizes","things"] (zq s_part_all_choices).names _ _ _ = true; decide +kernel)) (zfy rfl T.n_zip (zc (pv 1) (zc (zar zdw (pv 1) (zaL zh) zaZ) zg))) (fun _ _ _ _=>(zdk (n:=2) rfl (zY (zy (i:=0) (by show List.Nodup (["ahead","thing"]:List Str); decide) rfl (Or.inl rfl)) (zY (zy (i:=1) (by show List.Nodup (["ahead","thing"]:List Str); decide) rfl (Or.inl rfl)) zb2)))) (fun _ _ _ _=>zaA) (fun _ _ _ _=>(zfM (zcz (zrA hr.units0) (pv 0) (pv 1) (nomark _)) (zfd (zcz (zgs hr.units) (zar zeP (pv 1) zaZ (zaL (zv zE (by rfl) T.n_len zaf (zc (pv 0) zg)))) (pv 0) (nomark _)))))) zg)) (fun _=>rfl))) (zr (zH zdc)) zZ) (zr (zH (zcz (zcL hr.units) (zv (ziY rfl) (by rfl) T.n_sum zn1 (zc (zaY (fun _ _ h=>h) rfl (zW rfl rfl rfl rfl (N:=["thing","sizes"]) (caps:=[none,some 0]) (by show za3 ["sizes","things"] (zq s_part_all_choices).names _ _ _ = true; decide +kernel)) (za5 (pv 1)) (fun _ _ _ _=>(zy (i:=0) (by show List.Nodup (["thing","sizes"]:List Str); decide) rfl (Or.inl rfl))) (fun _ _ _ _=>zaA) (fun _ _ _ _=>(zA zaQ hr (by decide) (zc (pv 1) (zc (pv 0) zg))))) zg)) (zA zaQ hr (by decide) (zc (pv 0) (zc (zF zg) zg))) (nomark _)))))),(zu (zbu (zcv (zct (zR zhl (za (zbb (za4 zd) zk zaz (zN (za zd (za zd zf)))) zf)))) (zJ zdq) zaa) (zu (zbu (zcv (zct (zR zhl (za (zbb (zfv (za zd (za (zdE zdy zd (za1 zi) za2) zf))) (zdg (zX zk (zX zk zb6))) zaz (zfL (zp zrh zd zd) (zp zf4 (zdE ze2 zd za2 (za1 (zR zS (za zd zf)))) zd))) zf)))) (zJ zdq) zaa) (zJ (zp zcK (zR znV (za (zbb (za4 zd) zk zaz (zN (za zd (za zd zf)))) zf)) (zN (za zd (za (zz zf) zf))))))),fun xs S R q=>q⟩
theorem zdL (T:Txt mg) (dd:Dds K mg) (zaX:zca P w K mg base):zeT P w K mg base:=by
 exact Df.dN dd.d_are_rows zjb 0 rfl fun f cdv A outer s H E hr=>⟨_,_,(zj (zbl (zcc (zaF (zv zbM (by rfl) T.n_isinstance zad (zc (pv 1) (zc (zcy rfl T.n_list zgC (v:=.ty "list") rfl) zg))) (fun _=>rfl))) (zr (zH zdc)) zZ) (zj (zbl (zcc (zaF (zv (zdP rfl) (by rfl) T.n_all zhc (zc (zaY (fun _ _ h=>h) rfl (zW (L:=0) rfl rfl rfl rfl (N:=["row"]) (caps:=[none]) (by show za3 ["sizes","thing"] (zq s_are_rows).names _ _ _ = true; decide +kernel)) (za5 (pv 1)) (fun _ _ _ _=>(zy (i:=0) (by show List.Nodup (["row"]:List Str); decide) rfl (Or.inl rfl))) (fun _ _ _ _=>zaA) (fun _ _ _ _=>(zfM (zv zbM (by rfl) T.n_isinstance zad (zc (pv 0) (zc (zcy rfl T.n_tuple zaM (v:=.ty "tuple") rfl) zg))) (zfd (zcz (zcL hr.units) (zv zE (by rfl) T.n_len zaf (zc (pv 0) zg)) zh (nomark _)))))) zg)) (fun _=>rfl))) (zr (zH zdc)) zZ) (zr (zH (zA zaX hr (by decide) (zc (pv 0) (zc (zaY (fun _ _ h=>h) rfl (zW (L:=0) rfl rfl rfl rfl (N:=["row"]) (caps:=[none]) (by show za3 ["sizes","thing"] (zq s_are_rows).names _ _ _ = true; decide +kernel)) (za5 (pv 1)) (fun _ _ _ _=>(zy (i:=0) (by show List.Nodup (["row"]:List Str); decide) rfl (Or.inl rfl))) (fun _ _ _ _=>zaA) (fun _ _ _ _=>(zP zB (pv 0) zh (fun _ _=>rfl)))) zg))))))),(zu (zbu (zcv (zct (zR zdS (za zd (za zkC zf))))) (zJ zdq) zaa) (zu (zbu (zcv (zct (zR zhl (za (zbb (za4 zd) zk zaz (zfL (zR zdS (za zd (za zkC zf))) (zp zcK (zR zS (za zd zf)) zi))) zf)))) (zJ zdq) zaa) (zJ (zN (za zd (za (zbb (za4 zd) zk zaz (zp zQ zd zi)) zf)))))),fun xs S R q=>q⟩
theorem zdU (T:Txt mg) (dd:Dds K mg):zeW P w K mg base:=by
 exact Df.dN dd.d_sizes_of zju 0 rfl fun f cdv A outer s H E hr=>⟨_,_,(zr (zH (zaY (fun _ _ h=>h) rfl (zW (L:=0) rfl rfl rfl rfl (N:=["of_part"]) (caps:=[none]) (by show za3 ["offers"] (zq s_sizes_of).names _ _ _ = true; decide +kernel)) (za5 (pv 0)) (fun _ _ _ _=>(zy (i:=0) (by show List.Nodup (["of_part"]:List Str); decide) rfl (Or.inl rfl))) (fun _ _ _ _=>zaA) (fun _ _ _ _=>(zv zE (by rfl) T.n_len zaf (zc (pv 0) zg)))))),(zJ (zfa (za4 zd) zk zaz (zR zS (za zd zf)))),fun xs S R q=>q⟩
theorem ziy (T:Txt mg) (dd:Dds K mg):zjt P w K mg base:=by
 exact Df.dN dd.d_meet zjr 2 rfl fun f cdv A outer s H E hr=>⟨_,_,(zj (zG (i:=2) zjr.nd rfl (Or.inl rfl) (zv (zgA rfl) (by rfl) T.n_max ziT (zc (zP zB (pv 0) zh (fun _ _=>rfl)) (zc (zP zB (pv 1) zh (fun _ _=>rfl)) zg)))) (zj (zG (i:=3) zjr.nd rfl (Or.inl rfl) (zv (ziF rfl) (by rfl) T.n_min zj0 (zc (zP zB (pv 0) zh (fun _ _=>rfl)) (zc (zP zB (pv 1) zh (fun _ _=>rfl)) zg)))) (zr (zH (znw (zal zlp (pv 2) (pv 3) (nomark _)) (zF (zc (pv 2) (zc (pv 3) zg))) zfF))))),(zu (zC (zR zlX (za (zp zQ zd zi) (za (zp zQ zd zi) zf))) zk) (zu (zC (zR zlX (za (zp zQ zd zi) (za (zp zQ zd zi) zf))) zk) (zJ (zsq (zeI (zp zdD zd zd)) (zz (za zd (za zd zf))) zgx)))),fun xs S R q=>q⟩
theorem ziQ (T:Txt mg) (dd:Dds K mg):zji P w K mg base:=by
 exact Df.dN dd.d_plus zpd 0 rfl fun f cdv A outer s H E hr=>⟨_,_,(zr (zH (zF (zc (zI zK (zP zB (pv 0) zh (fun _ _=>rfl)) (zP zB (pv 1) zh (fun _ _=>rfl))) (zc (zI zK (zP zB (pv 0) zh (fun _ _=>rfl)) (zP zB (pv 1) zh (fun _ _=>rfl))) zg))))),(zJ (zz (za (zp zV (zp zQ zd zi) (zp zQ zd zi)) (za (zp zV (zp zQ zd zi) (zp zQ zd zi)) zf)))),fun xs S R q=>q⟩
theorem zcN (T:Txt mg) (dd:Dds K mg):zdZ P w K mg base:=by
 exact Df.dN dd.d_multiplied ze7 1 rfl fun f cdv A outer s H E hr=>⟨_,_,(zj (zG (i:=2) ze7.nd rfl (Or.inl rfl) (zF (zc (zI zbO (zP zB (pv 0) zh (fun _ _=>rfl)) (pv 1)) (zc (zI zbO (zP zB (pv 0) zh (fun _ _=>rfl)) (pv 1)) zg)))) (zr (zH (zF (zc (zv (ziK rfl hr.units) (by rfl) T.n_min zj0 (zc (pv 2) zg)) (zc (zv (ziB rfl) (by rfl) T.n_max ziT (zc (pv 2) zg)) zg)))))),(zu (zC (zz (za (zp zc2 (zp zQ zd zi) zd) (za (zp zc2 (zp zQ zd zi) zd) zf))) zk) (zJ (zz (za (zR zlF (za zd zf)) (za (zR zos (za zd zf)) zf))))),fun xs S R q=>q⟩
theorem zer (T:Txt mg) (dd:Dds K mg):zfs P w K mg base:=by
 exact Df.dN dd.d_span_of zkH 0 rfl fun f cdv A outer s H E hr=>⟨_,_,(zr (zH (zF (zc (zP zB (pv 0) zh (fun _ _=>rfl)) (zc (zP zB (pv 0) zh (fun _ _=>rfl)) zg))))),(zJ (zz (za (zp zQ zd zi) (za (zp zQ zd zi) zf)))),fun xs S R q=>q⟩
theorem zbm (T:Txt mg) (dd:Dds K mg) (ziQ:zji P w K mg base) (zcN:zdZ P w K mg base) (zer:zfs P w K mg base):zcC P w K mg base:=by
 exact Df.dN dd.d_reach_of_terms zba 3 rfl fun f cdv A outer s H E hr=>⟨_,_,(zj (zG (i:=2) zba.nd rfl (Or.inl rfl) (zF (zc zh (zc zh zg)))) (zj (zbc PassesOwn.never rfl (za5 (pv 1)) (zdk (n:=2) rfl (zY (zy (i:=3) zba.nd rfl (Or.inl rfl)) (zY (zy (i:=4) zba.nd rfl (Or.inl rfl)) zb2))) (zr (zG (i:=2) zba.nd rfl (Or.inl rfl) (zA ziQ hr (by decide) (zc (pv 2) (zc (zA zcN hr (by decide) (zc (zA zer hr (by decide) (zc (zP zB (pv 0) (pv 3) (fun _ _=>rfl)) zg)) (zc (pv 4) zg))) zg)))))) (zr (zH (pv 2))))),(zu (zC (zz (za zi (za zi zf))) zk) (zu (zbH (za4 zd) (zdg (zX zk (zX zk zb6))) (zC (zN (za zd (za (zN (za (zN (za (zp zQ zd zd) zf)) (za zd zf))) zf))) zk)) (zJ zd))),fun xs S R q=>q⟩
theorem zf6 (T:Txt mg) (dd:Dds K mg) (zbm:zcC P w K mg base):zhI P w K mg base:=by
 exact Df.dN dd.d_reach znh 0 rfl fun f cdv A outer s H E hr=>⟨_,_,(zr (zH (zA zbm hr (by decide) (zc (pv 0) (zc (zP zB (pv 1) zh (fun _ _=>rfl)) zg))))),(zJ (zN (za zd (za (zp zQ zd zi) zf)))),fun xs S R q=>q⟩
theorem zde (T:Txt mg) (dd:Dds K mg):zed P w K mg base:=by
 exact Df.dN dd.d_wanted_of ziO 0 rfl fun f cdv A outer s H E hr=>⟨_,_,(zr (zH (zF (zc (zP zB (pv 0) zh (fun _ _=>rfl)) (zc (zP zB (pv 0) zh (fun _ _=>rfl)) zg))))),(zJ (zz (za (zp zQ zd zi) (za (zp zQ zd zi) zf)))),fun xs S R q=>q⟩
theorem ze6 (T:Txt mg) (dd:Dds K mg) (ziy:zjt P w K mg base) (zde:zed P w K mg base) (zf6:zhI P w K mg base):zgL P w K mg base:=by
 exact Df.dN dd.d_misses zlD 0 rfl fun f cdv A outer s H E hr=>⟨_,_,(zr (zH (zcz zpJ (zA ziy hr (by decide) (zc (zA zf6 hr (by decide) (zc (pv 0) (zc (pv 1) zg))) (zc (zA zde hr (by decide) (zc (pv 1) zg)) zg))) zfF (nomark _)))),(zJ (zqt (zN (za (zN (za zd (za zd zf))) (za (zN (za zd zf)) zf))))),fun xs S R q=>q⟩
theorem zbA (T:Txt mg) (dd:Dds K mg):zdO P w K mg base:=by
 exact Df.dN dd.d_ways_of zkO 0 rfl fun f cdv A outer s H E hr=>⟨_,_,(zr (zH (zaJ zai (by rfl) T.n_tuple zaM (zc (zaY (fun _ _ h=>h) rfl (zW (L:=0) rfl rfl rfl rfl (N:=["of_part"]) (caps:=[none]) (by show za3 ["trims"] (zq s_ways_of).names _ _ _ = true; decide +kernel)) (za5 (pv 0)) (fun _ _ _ _=>(zy (i:=0) (by show List.Nodup (["of_part"]:List Str); decide) rfl (Or.inl rfl))) (fun _ _ _ _=>zaA) (fun _ _ _ _=>(zI zK (zF (zc (zF (zc zh (zc zh zg))) zg)) (pv 0)))) zg)))),(zJ (zR zb0 (za (zbb (za4 zd) zk zaz (zp zV (zz (za (zz (za zi (za zi zf))) zf)) zd)) zf))),fun xs S R q=>q⟩
theorem zaS (T:Txt mg) (dd:Dds K mg) (zbA:zdO P w K mg base):zcE P w K mg base:=by
 exact Df.dN dd.d_chosen_ways zgW 0 rfl fun f cdv A outer s H E hr=>⟨_,_,(zr (zH (zaY (fun _ _ h=>h) rfl (zW (L:=0) rfl rfl rfl rfl (N:=["of_part","number"]) (caps:=[none,none]) (by show za3 ["trims","filing"] (zq s_chosen_ways).names _ _ _ = true; decide +kernel)) (zfy rfl T.n_zip (zc (zA zbA hr (by decide) (zc (pv 0) zg)) (zc (pv 1) zg))) (fun _ _ _ _=>(zdk (n:=2) rfl (zY (zy (i:=0) (by show List.Nodup (["of_part","number"]:List Str); decide) rfl (Or.inl rfl)) (zY (zy (i:=1) (by show List.Nodup (["of_part","number"]:List Str); decide) rfl (Or.inl rfl)) zb2)))) (fun _ _ _ _=>zaA) (fun _ _ _ _=>(zP zB (pv 0) (pv 1) (fun _ _=>rfl)))))),(zJ (zfa (zfv (za (zN (za zd zf)) (za zd zf))) (zdg (zX zk (zX zk zb6))) zaz (zp zQ zd zd))),fun xs S R q=>q⟩
theorem zgw (T:Txt mg) (dd:Dds K mg) (zaS:zcE P w K mg base):zhu P w K mg base:=by
 exact Df.dN dd.d_filed znr 0 rfl fun f cdv A outer s H E hr=>⟨_,_,(zr (zH (zaJ zai (by rfl) T.n_tuple zaM (zc (zaY (fun _ _ h=>h) rfl (zW (L:=0) rfl rfl rfl rfl (N:=["number","way"]) (caps:=[none,none]) (by show za3 ["built","trims","filing"] (zq s_filed).names _ _ _ = true; decide +kernel)) (zfy rfl T.n_zip (zc (pv 0) (zc (zA zaS hr (by decide) (zc (pv 1) (zc (pv 2) zg))) zg))) (fun _ _ _ _=>(zdk (n:=2) rfl (zY (zy (i:=0) (by show List.Nodup (["number","way"]:List Str); decide) rfl (Or.inl rfl)) (zY (zy (i:=1) (by show List.Nodup (["number","way"]:List Str); decide) rfl (Or.inl rfl)) zb2)))) (fun _ _ _ _=>zaA) (fun _ _ _ _=>(zI zcd (pv 0) (zP zB (pv 1) zh (fun _ _=>rfl))))) zg)))),(zJ (zR zb0 (za (zbb (zfv (za zd (za (zN (za zd (za zd zf))) zf))) (zdg (zX zk (zX zk zb6))) zaz (zp zdQ zd (zp zQ zd zi))) zf))),fun xs S R q=>q⟩
theorem zaT (T:Txt mg) (dd:Dds K mg) (zgw:zhu P w K mg base) (zbA:zdO P w K mg base):zb4 P w K mg base:=by
 exact Df.dN dd.d_what_may_be_left zbh 3 rfl fun f cdv A outer s H E hr=>⟨_,_,(zj (zgh (i:=4) (fun _ _ h=>h) rfl (zW (L:=0) rfl rfl rfl rfl (N:=["number"]) (caps:=[none]) (by show za3 ["drawing","built","trims","beginning","spans","number","ways"] (zq s_what_may_be_left).names _ _ _ = true; decide +kernel)) zbh.nd rfl rfl (za5 (zA zgw hr (by decide) (zc (pv 1) (zc (pv 2) (zc (pv 3) zg))))) (fun _ _ _ _=>(zy (i:=0) (by show List.Nodup (["number"]:List Str); decide) rfl (Or.inl rfl))) (fun _ _ _ _=>zaA) (fun _ _ _ _=>(zF (zc (pv 0) (zc (pv 0) zg))))) (zj (zbc PassesOwn.never rfl (za5 (zar zdw (zoP rfl rfl T.n_list rfl T.n_zip (zc (pv 1) (zc (zA zbA hr (by decide) (zc (pv 2) zg)) zg))) (zaL (zv zE (by rfl) T.n_len zaf (zc (pv 3) zg))) zaZ)) (zdk (n:=2) rfl (zY (zy (i:=5) zbh.nd rfl (Or.inl rfl)) (zY (zy (i:=6) zbh.nd rfl (Or.inl rfl)) zb2))) (zr (zcX (zfP PySem.F.plainAttrs_list PySem.F.slot_list_append PySem.F.type_list_append zbX (pv 4) (zc (zF (zc (zI zcd (pv 5) (zP zB (zP zB (pv 6) (zec zcw zh) (fun _ _=>rfl)) zh (fun _ _=>rfl))) (zc (pv 5) zg))) zg))))) (zr (zH (zaJ zai (by rfl) T.n_tuple zaM (zc (zaY (fun _ _ h=>h) rfl (zW (L:=0) rfl rfl rfl rfl (N:=["part","span"]) (caps:=[none,none]) (by show za3 ["drawing","built","trims","beginning","spans","number","ways"] (zq s_what_may_be_left).names _ _ _ = true; decide +kernel)) (zfy rfl T.n_zip (zc (pv 0) (zc (pv 4) zg))) (fun _ _ _ _=>(zdk (n:=2) rfl (zY (zy (i:=0) (by show List.Nodup (["part","span"]:List Str); decide) rfl (Or.inl rfl)) (zY (zy (i:=1) (by show List.Nodup (["part","span"]:List Str); decide) rfl (Or.inl rfl)) zb2)))) (fun _ _ _ _=>zaA) (fun _ _ _ _=>(zF (zc (zP zB (pv 0) zh (fun _ _=>rfl)) (zc (zP zB (pv 1) zh (fun _ _=>rfl)) (zc (zP zB (pv 1) zh (fun _ _=>rfl)) zg)))))) zg)))))),(zop (zu (zoa (zu (zC (zfa (za4 (zN (za zd (za zd (za zd zf))))) zk zaz (zz (za zd (za zd zf)))) zk) (zbH (za4 (zdE zdy (zo1 (za zd (za (zN (za zd zf)) zf))) (za1 (zR zS (za zd zf))) za2)) (zdg (zX zk (zX zk zb6))) (zcW (zf5 zcf zd (za (zz (za (zp zdQ zd (zp zQ (zp zQ zd (zeb zh7 zi)) zi)) (za zd zf))) zf)))))) (zJ (zR zb0 (za (zbb (zfv (za zd (za zd zf))) (zdg (zX zk (zX zk zb6))) zaz (zz (za (zp zQ zd zi) (za (zp zQ zd zi) (za (zp zQ zd zi) zf))))) zf))))),fun xs S R q=>q⟩
theorem zbR (T:Txt mg) (dd:Dds K mg) (zaS:zcE P w K mg base):zdm P w K mg base:=by
 exact Df.dN dd.d_filing_price zgu 0 rfl fun f cdv A outer s H E hr=>⟨_,_,(zr (zH (zv (ziY rfl) (by rfl) T.n_sum zn1 (zc (zaY (fun _ _ h=>h) rfl (zW (L:=0) rfl rfl rfl rfl (N:=["way"]) (caps:=[none]) (by show za3 ["trims","filing"] (zq s_filing_price).names _ _ _ = true; decide +kernel)) (za5 (zA zaS hr (by decide) (zc (pv 0) (zc (pv 1) zg)))) (fun _ _ _ _=>(zy (i:=0) (by show List.Nodup (["way"]:List Str); decide) rfl (Or.inl rfl))) (fun _ _ _ _=>zaA) (fun _ _ _ _=>(zP zB (pv 0) zh (fun _ _=>rfl)))) zg)))),(zJ (zR znV (za (zbb (za4 (zN (za zd (za zd zf)))) zk zaz (zp zQ zd zi)) zf))),fun xs S R q=>q⟩
theorem zaR (T:Txt mg) (dd:Dds K mg) (zbR:zdm P w K mg base) (zcb:zd5 P w K mg base) (ze6:zgL P w K mg base) (zaT:zb4 P w K mg base):zb5 P w K mg base:=by
 exact Df.dN dd.d_is_why_no_filing zeQ 0 rfl fun f cdv A outer s H E hr=>⟨_,_,(zj (zbl (zal (zcL hr.units) (pv 5) (zF (zc zat zg)) (nomark _)) (zr (zH (zcz znu (zA zbR hr (by decide) (zc (pv 2) (zc (pv 4) zg))) (pv 3) (nomark _)))) zZ) (zj (zbl (PW.pt (zfW (zcc (zaF (zv zbM (by rfl) T.n_isinstance zad (zc (pv 5) (zc (zcy rfl T.n_tuple zaM (v:=.ty "tuple") rfl) zg))) (fun _=>rfl))) (zfW (zal (zgs hr.units) (zv zE (by rfl) T.n_len zaf (zc (pv 5) zg)) zh (nomark _)) (zfN (zal (zgs hr.units) (zP zB (pv 5) zh (fun _ _=>rfl)) zat (nomark _)))))) (zr (zH zdc)) zZ) (zj (zbl (PW.pt (zfW (zcc (zaF (zA zcb hr (by decide) (zc (zP zB (pv 5) zh (fun _ _=>rfl)) zg)) (fun _=>rfl))) (zfN (zcc (zmB zlp zjw zh (zP zB (pv 5) zh (fun _ _=>rfl)) (zv zE (by rfl) T.n_len zaf (zc (zP zB (pv 0) zh (fun _ _=>rfl)) zg))))))) (zr (zH zdc)) zZ) (zr (zH (zA ze6 hr (by decide) (zc (zA zaT hr (by decide) (zc (zP zB (pv 0) zh (fun _ _=>rfl)) (zc (pv 1) (zc (pv 2) (zc (pv 4) zg))))) (zc (zP zB (zP zB (pv 0) zh (fun _ _=>rfl)) (zP zB (pv 5) zh (fun _ _=>rfl)) (fun _ _=>rfl)) zg)))))))),(zu (zbu (zeI (zp zcK zd (zz (za zas zf)))) (zJ (zp zdD (zN (za zd (za zd zf))) zd)) zaa) (zu (zbu (zfT (zcv (zct (zR zdS (za zd (za zkC zf))))) (zfT (zeI (zp zf4 (zR zS (za zd zf)) zi)) (zeI (zp zf4 (zp zQ zd zi) zas)))) (zJ zdq) zaa) (zu (zbu (zfT (zcv (zct (zN (za (zp zQ zd zi) zf)))) (zcv (zeI (zh1 zdD zdD zi (zp zQ zd zi) (zR zS (za (zp zQ zd zi) zf)))))) (zJ zdq) zaa) (zJ (zN (za (zN (za (zp zQ zd zi) (za zd (za zd (za zd zf))))) (za (zp zQ (zp zQ zd zi) (zp zQ zd zi)) zf))))))),fun xs S R q=>q⟩
theorem zdd (T:Txt mg) (dd:Dds K mg) (zdL:zeT P w K mg base) (zdU:zeW P w K mg base) (zbA:zdO P w K mg base) (zaR:zb5 P w K mg base):zet P w K mg base:=by
 exact Df.dN dd.d_bar_holds ziR 0 rfl fun f cdv A outer s H E hr=>⟨_,_,(zj (zbl (zcc (zaF (zA zdL hr (by decide) (zc (zA zdU hr (by decide) (zc (zA zbA hr (by decide) (zc (pv 2) zg)) zg)) (zc (pv 4) zg))) (fun _=>rfl))) (zr (zH zdc)) zZ) (zr (zH (zv (zdP rfl) (by rfl) T.n_all zhc (zc (zaY (fun _ _ h=>h) rfl (zW rfl rfl rfl rfl (N:=["beginning","why","job","built","trims","price"]) (caps:=[none,none,some 0,some 1,some 2,some 3]) (by show za3 ["job","built","trims","price","thing"] (zq s_bar_holds).names _ _ _ = true; decide +kernel)) (za5 (pv 4)) (fun _ _ _ _=>(zdk (n:=2) rfl (zY (zy (i:=0) (by show List.Nodup (["beginning","why","job","built","trims","price"]:List Str); decide) rfl (Or.inl rfl)) (zY (zy (i:=1) (by show List.Nodup (["beginning","why","job","built","trims","price"]:List Str); decide) rfl (Or.inl rfl)) zb2)))) (fun _ _ _ _=>zaA) (fun _ _ _ _=>(zA zaR hr (by decide) (zc (pv 2) (zc (pv 3) (zc (pv 4) (zc (pv 5) (zc (pv 0) (zc (pv 1) zg))))))))) zg))))),(zu (zbu (zcv (zct (zN (za (zN (za (zN (za zd zf)) zf)) (za zd zf))))) (zJ zdq) zaa) (zJ (zR zhl (za (zbb (za4 zd) (zdg (zX zk (zX zk zb6))) zaz (zN (za zd (za zd (za zd (za zd (za zd (za zd zf)))))))) zf)))),fun xs S R q=>q⟩
theorem zd3 (T:Txt mg) (dd:Dds K mg) (zcr:zdH P w K mg base) (zdd:zet P w K mg base):zfG P w K mg base:=by
 exact Df.dN dd.d_law_right zel 2 rfl fun f cdv A outer s H E hr=>⟨_,_,(zj (zG (i:=6) zel.nd rfl (Or.inl rfl) (zA zcr hr (by decide) (zc (pv 1) (zc (pv 2) (zc (pv 3) (zc (pv 4) (zc (pv 5) zg))))))) (zj (zG (i:=7) zel.nd rfl (Or.inl rfl) (zA zdd hr (by decide) (zc (zF (zc (pv 0) (zc (pv 1) zg))) (zc (pv 2) (zc (pv 3) (zc (pv 4) (zc (pv 5) zg))))))) (zr (zH (zfM (zv zbM (by rfl) T.n_isinstance zad (zc (pv 7) (zc (zcy rfl T.n_bool zi8 (v:=.ty "bool") rfl) zg))) (zfd (zcz (zcL hr.units) (pv 7) (pv 6) (nomark _)))))))),(zu (zC (zN (za zd (za zd (za zd (za zd (za zd zf)))))) zk) (zu (zC (zN (za (zz (za zd (za zd zf))) (za zd (za zd (za zd (za zd zf)))))) zk) (zJ (zfL (zR zdS (za zd (za zkC zf))) (zp zcK zd zd))))),fun xs S R q=>q⟩
theorem zci (T:Txt mg) (dd:Dds K mg) (zw:zaK P w K mg base):zdF P w K mg base:=by
 exact Df.dN dd.d_law_odd_row zaH 4 rfl fun f cdv A outer s H E hr=>⟨_,_,(zj (zim (pv 0) (zdk (n:=2) rfl (zY (zy (i:=3) zaH.nd rfl (Or.inl rfl)) (zY (zy (i:=4) zaH.nd rfl (Or.inl rfl)) zb2)))) (zj (zG (i:=5) zaH.nd rfl (Or.inl rfl) (zab (zc (zF (zc (pv 3) (zc (zF (zc zat zg)) zg))) (zc (zF (zc (pv 3) (zc (zF (zc zat (zc zh zg))) zg))) (zc (zF (zc (pv 3) (zc (zF (zc zat (zc (zI zcd (zv zE (by rfl) T.n_len zaf (zc (pv 1) zg)) zh) zg))) zg))) (zc (zF (zc (pv 3) (zc (zF (zc zat (zc (zv zE (by rfl) T.n_len zaf (zc (pv 1) zg)) zg))) zg))) zg)))))) (zj (zG (i:=5) zaH.nd rfl (Or.inl rfl) (zI zhm (pv 5) (zeu (zM (zF (zc (pv 3) (zc (zF (zc zat (zc (zec zcw zh) zg))) zg))) (zM (zF (zc (pv 3) (zc (zF (zc zat (zc zdc zg))) zg))) (zM (zF (zc (pv 3) (zc (zF (zc zat zg)) zg))) (zM (zF (zc (pv 3) (zc (zF (zc zat (zc zh zg))) zg))) zbj))))))) (zj (zcX (zfP PySem.F.plainAttrs_list PySem.F.slot_list_append PySem.F.type_list_append zbX (pv 5) (zc (zF (zc (pv 3) (zc zat zg))) zg))) (zj (zG (i:=5) zaH.nd rfl (Or.inl rfl) (zI zhm (pv 5) (zeu (zM (zF (zc (pv 3) (zc (zab (zc zat zg)) zg))) (zM (zF (zc (pv 3) (zc (zF zg) zg))) (zM (zF (zc (pv 3) (zc zfF zg))) (zM (zF (zc (pv 3) zg)) (zM (zF (zc (pv 3) (zc (pv 4) (zc (pv 4) zg)))) (zM (zab (zc (pv 3) (zc (pv 4) zg))) (zM zfF (zM (pv 4) zbj))))))))))) (zj (zG (i:=5) zaH.nd rfl (Or.inl rfl) (zI zhm (pv 5) (zeu (zM (zF (zc (zar zeP (pv 3) zaZ (zaL (zec zcw zh))) (zc (pv 4) zg))) (zM (zF (zc (zI zK (pv 3) (zF (zc zh zg))) (zc (pv 4) zg))) (zM (zF (zc (zaJ zfI (by rfl) T.n_list zgC (zc (pv 3) zg)) (zc (pv 4) zg))) (zM (zF (zc (zar zeP (pv 3) (zaL zh) zaZ) (zc (pv 4) zg))) (zM (zF (zc (zF zg) (zc (pv 4) zg))) (zM (zF (zc zfF (zc (pv 4) zg))) zbj))))))))) (zj (zbc PassesOwn.never rfl (za5 (zeu (zM (zec zcw zh) (zM zh (zM zdc (zM zfF (zM zat (zM zh (zM zh zbj))))))))) (zy (i:=6) zaH.nd rfl (Or.inl rfl)) (zr (zcX (zfP PySem.F.plainAttrs_list PySem.F.slot_list_append PySem.F.type_list_append zbX (pv 5) (zc (zF (zc (zI zK (zar zeP (pv 3) zaZ (zaL (zec zcw zh))) (zF (zc (pv 6) zg))) (zc (pv 4) zg))) zg))))) (zr (zH (zP zB (pv 5) (zA zw hr (by decide) (zc (pv 2) (zc (zv zE (by rfl) T.n_len zaf (zc (pv 5) zg)) zg))) (fun _ _=>rfl))))))))))),(zu (zC zd (zdg (zX zk (zX zk zb6)))) (zu (zC (zb7 (za (zz (za zd (za (zz (za zas zf)) zf))) (za (zz (za zd (za (zz (za zas (za zi zf))) zf))) (za (zz (za zd (za (zz (za zas (za (zp zdQ (zR zS (za zd zf)) zi) zf))) zf))) (za (zz (za zd (za (zz (za zas (za (zR zS (za zd zf)) zf))) zf))) zf))))) zk) (zu (zC (zp zh4 zd (zak (za (zz (za zd (za (zz (za zas (za (zeb zh7 zi) zf))) zf))) (za (zz (za zd (za (zz (za zas (za zdq zf))) zf))) (za (zz (za zd (za (zz (za zas zf)) zf))) (za (zz (za zd (za (zz (za zas (za zi zf))) zf))) zf)))))) zk) (zu (zcW (zf5 zcf zd (za (zz (za zd (za zas zf))) zf))) (zu (zC (zp zh4 zd (zak (za (zz (za zd (za (zak (za zas zf)) zf))) (za (zz (za zd (za (zz zf) zf))) (za (zz (za zd (za zgx zf))) (za (zz (za zd zf)) (za (zz (za zd (za zd (za zd zf)))) (za (zak (za zd (za zd zf))) (za zgx (za zd zf)))))))))) zk) (zu (zC (zp zh4 zd (zak (za (zz (za (zdE ze2 zd za2 (za1 (zeb zh7 zi))) (za zd zf))) (za (zz (za (zp zV zd (zz (za zi zf))) (za zd zf))) (za (zz (za (zR zmL (za zd zf)) (za zd zf))) (za (zz (za (zdE ze2 zd (za1 zi) za2) (za zd zf))) (za (zz (za (zz zf) (za zd zf))) (za (zz (za zgx (za zd zf))) zf)))))))) zk) (zu (zbH (za4 (zak (za (zeb zh7 zi) (za zi (za zdq (za zgx (za zas (za zi (za zi zf))))))))) zk (zcW (zf5 zcf zd (za (zz (za (zp zV (zdE ze2 zd za2 (za1 (zeb zh7 zi))) (zz (za zd zf))) (za zd zf))) zf)))) (zJ (zp zQ zd (zL (i:=0) (za zd (za (zR zS (za zd zf)) zf)))))))))))),fun xs S R q=>q⟩
theorem zeo (T:Txt mg) (dd:Dds K mg) (zw:zaK P w K mg base) (zci:zdF P w K mg base):ze5 P w K mg base:=by
 exact Df.dN dd.d_law_odd_of zc4 2 rfl fun f cdv A outer s H E hr=>⟨_,_,(zj (zG (i:=3) zc4.nd rfl (Or.inl rfl) (zA zw hr (by decide) (zc (pv 2) (zc (zv zE (by rfl) T.n_len zaf (zc (pv 0) zg)) zg)))) (zj (zbl (zal (zcL hr.units) (zA zw hr (by decide) (zc (pv 2) (zc zh zg))) zh (nomark _)) (zr (zH (zI zK (zI zK (zar zdw (pv 0) zaZ (zaL (pv 3))) (zab (zc (zA zci hr (by decide) (zc (zP zB (pv 0) (pv 3) (fun _ _=>rfl)) (zc (pv 1) (zc (pv 2) zg)))) zg))) (zar zdw (pv 0) (zaL (zI zK (pv 3) zh)) zaZ)))) zZ) (zj (zG (i:=4) zc4.nd rfl (Or.inl rfl) (zeu (zM (zI zK (zar zdw (pv 0) zaZ (zaL (pv 3))) (zar zdw (pv 0) (zaL (zI zK (pv 3) zh)) zaZ)) (zM (zI zK (zar zdw (pv 0) zaZ (zaL (zI zK (pv 3) zh))) (zar zdw (pv 0) (zaL (pv 3)) zaZ)) (zM (zp2 (pv 0) (zec zcw zh)) (zM (zaJ zai (by rfl) T.n_tuple zaM (zc (pv 0) zg)) (zM (zab zg) (zM zfF (zM (zsg zmM) (zM (zI zK (pv 0) (zab (zc zfF zg))) zbj)))))))))) (zj (zG (i:=4) zc4.nd rfl (Or.inl rfl) (zI zK (pv 4) (zeu (zM (zI zK (zar zdw (pv 0) (zaL (pv 3)) zaZ) (zar zdw (pv 0) zaZ (zaL (pv 3)))) (zM (zI zK (pv 0) (zab (zc (zP zB (pv 0) zh (fun _ _=>rfl)) zg))) (zM (zab (zc (zF (zc (zF zg) (zc (zF (zc zat zg)) zg))) zg)) (zM (zab (zc (zF (zc (zF zg) (zc (zF (zc zat (zc zh zg))) zg))) zg)) (zM zat (zM (zP zB (pv 0) (pv 3) (fun _ _=>rfl)) zbj))))))))) (zr (zH (zP zB (pv 4) (zA zw hr (by decide) (zc (pv 2) (zc (zv zE (by rfl) T.n_len zaf (zc (pv 4) zg)) zg))) (fun _ _=>rfl)))))))),(zu (zC (zL (i:=0) (za zd (za (zR zS (za zd zf)) zf))) zk) (zu (zbu (zeI (zp zcK (zL (i:=0) (za zd (za zi zf))) zi)) (zJ (zp zV (zp zV (zdE zdy zd za2 (za1 zd)) (zak (za (zL (i:=2) (za (zp zQ zd zd) (za zd (za zd zf)))) zf))) (zdE zdy zd (za1 (zp zV zd zi)) za2))) zaa) (zu (zC (zak (za (zp zV (zdE zdy zd za2 (za1 zd)) (zdE zdy zd (za1 (zp zV zd zi)) za2)) (za (zp zV (zdE zdy zd za2 (za1 (zp zV zd zi))) (zdE zdy zd (za1 zd) za2)) (za (zqE zd (zeb zh7 zi)) (za (zR zb0 (za zd zf)) (za (zak zf) (za zgx (za zpQ (za (zp zV zd (zak (za zgx zf))) zf))))))))) zk) (zu (zC (zp zV zd (zak (za (zp zV (zdE zdy zd (za1 zd) za2) (zdE zdy zd za2 (za1 zd))) (za (zp zV zd (zak (za (zp zQ zd zi) zf))) (za (zak (za (zz (za (zz zf) (za (zz (za zas zf)) zf))) zf)) (za (zak (za (zz (za (zz zf) (za (zz (za zas (za zi zf))) zf))) zf)) (za zas (za (zp zQ zd zd) zf)))))))) zk) (zJ (zp zQ zd (zL (i:=0) (za zd (za (zR zS (za zd zf)) zf))))))))),fun xs S R q=>q⟩
theorem ok_law {f:Addr} {fd:FuncData} (F:Fun K "law" "law" s_law f fd) (T:Txt mg) (dd:Dds K mg):FnOk P w K mg base CX0 164 f fd ["script"] (sp1 (zsl K)):=by
 have zdX:=zdX (P:=P) (w:=w) (base:=base) T dd
 have zef:zfb P w K mg base:=zef T dd 
 have zc6:ze1 P w K mg base:=zc6 T dd 
 have zw:zaK P w K mg base:=zw T dd zc6
 have zbW:zda P w K mg base:=zbW T dd zw
 have zby:zcT P w K mg base:=zby T dd zw
 have zgK:zhb P w K mg base:=zgK T dd zbW zw zby
 have zdB:zep P w K mg base:=zdB T dd zw
 have zga:zhd P w K mg base:=zga T dd zw
 have zbS:zdl P w K mg base:=zbS T dd zw
 have zaV:zcH P w K mg base:=zaV T dd 
 have zdh:zex P w K mg base:=zdh T dd 
 have zdf:zem P w K mg base:=zdf T dd 
 have zeq:zfp P w K mg base:=zeq T dd zw zbS zaV zdh zdf
 have zag:zbD P w K mg base:=zag T dd 
 have zbL:zdG P w K mg base:=zbL T dd 
 have zav:zch P w K mg base:=zav T dd zbL
 have zcm:zeN P w K mg base:=zcm T dd zag zav
 have zbG:zcU P w K mg base:=zbG T dd zaV
 have zbC:zdt P w K mg base:=zbC T dd 
 have zcM:zd7 P w K mg base:=zcM T dd zag zbC zav
 have zaU:zb9 P w K mg base:=zaU T dd zbC
 have zcr:zdH P w K mg base:=zcr T dd zaU zcM zbG
 have zaQ:zcB P w K mg base:=zaQ T dd 
 have zcb:zd5 P w K mg base:=zcb T dd 
 have zbT:zdj P w K mg base:=zbT T dd zcb
 have zaX:zca P w K mg base:=zaX T dd zbT zaQ
 have zdL:zeT P w K mg base:=zdL T dd zaX
 have zdU:zeW P w K mg base:=zdU T dd 
 have ziy:zjt P w K mg base:=ziy T dd 
 have ziQ:zji P w K mg base:=ziQ T dd 
 have zcN:zdZ P w K mg base:=zcN T dd 
 have zer:zfs P w K mg base:=zer T dd 
 have zbm:zcC P w K mg base:=zbm T dd ziQ zcN zer
 have zf6:zhI P w K mg base:=zf6 T dd zbm
 have zde:zed P w K mg base:=zde T dd 
 have ze6:zgL P w K mg base:=ze6 T dd ziy zde zf6
 have zbA:zdO P w K mg base:=zbA T dd 
 have zaS:zcE P w K mg base:=zaS T dd zbA
 have zgw:zhu P w K mg base:=zgw T dd zaS
 have zaT:zb4 P w K mg base:=zaT T dd zgw zbA
 have zbR:zdm P w K mg base:=zbR T dd zaS
 have zaR:zb5 P w K mg base:=zaR T dd zbR zcb ze6 zaT
 have zdd:zet P w K mg base:=zdd T dd zdL zdU zbA zaR
 have zd3:zfG P w K mg base:=zd3 T dd zcr zdd
 have zci:zdF P w K mg base:=zci T dd zw
 have zeo:ze5 P w K mg base:=zeo T dd zw zci
 refine F.ok1 zc1 (fun v=>[some v,none,none,none,none,none,none,none,none,none,none,none]) (fun _=>rfl) fun cdv A outer s H v Q E hr h=>?_
 obtain ⟨a,ns,rfl,hS,hlen,q⟩:=h
 refine zpp ?_
 refine ⟨_,(zh5 (zG (i:=1) zc1.nd rfl (Or.inl rfl) (zF (zc (zF (zc zat (zc zh (zc zh zg)))) zg))) (zh5 (zG (i:=2) zc1.nd rfl (Or.inr rfl) (zF (zc (zF (zc (zF (zc (zF (zc zh (zc zh zg))) zg)) (zc zh (zc zh zg)))) zg))) (zmi (zpL PassesOwn.never rfl (zmI (zjW zbj) (zmI (zjW (zfU (zd8 (zfU (zd8 zbj) (zfU (zd8 (zin (QE.mk zat) (zin (QE.mk zh) zbj))) zbj))) zbj)) (zmI (zjW (zfU (zd8 (zfU (zd8 (zin (QE.mk zh) zbj)) (zfU (zd8 (zin (QE.mk zat) (zin (QE.mk zh) zbj))) zbj))) (zfU (zd8 (zfU (zd8 (zin (QE.mk zh) zbj)) (zfU (zd8 (zin (QE.mk zat) zbj)) zbj))) zbj))) (zmI (zjW (zfU (zd8 (zfU (zd8 zbj) (zfU (zd8 (zin (QE.mk zat) zbj)) zbj))) zbj)) zbj)))) (zy (i:=3) zc1.nd rfl (Or.inl rfl)) (zr (zbc PassesOwn.never rfl (za5 (zab (zc zh (zc zh (zc zh (zc zh zg)))))) (zy (i:=4) zc1.nd rfl (Or.inl rfl)) (zr (zbl (zcc (zaF (zA zd3 hr (by decide) (zc (pv 1) (zc (pv 2) (zc (zF (zc zh zg)) (zc (zF (zc (zF (zc (zF (zc zh (zc zh zg))) zg)) zg)) (zc (pv 4) (zc (pv 3) zg))))))) (fun _=>rfl))) (zr (zH zdc)) zZ))))) (zh5 (zbc PassesOwn.never rfl (zpO (zI zhm (zab (zc (zqu zdX hr (by decide) (pv 0) zh) zg)) (zar zlh (pv 0) (zaL zh) (zaL zh)))) (zy (i:=5) zc1.nd rfl (Or.inl rfl)) (zj (zG (i:=6) zc1.nd rfl (Or.inr rfl) (zA zef hr (by decide) (zc (pv 5) zg))) (zj (zG (i:=7) zc1.nd rfl (Or.inl rfl) (zA zgK hr (by decide) (zc (pv 6) (zc zh zg)))) (zj (zG (i:=8) zc1.nd rfl (Or.inl rfl) (zA zdB hr (by decide) (zc (pv 6) (zc (pv 7) zg)))) (zj (zbl (zal zkF (zv zE (by rfl) T.n_len zaf (zc (pv 7) zg)) zh (nomark _)) (zr (zG (i:=8) zc1.nd rfl (Or.inl rfl) (zaJ zai (by rfl) T.n_tuple zaM (zc (zaY (fun _ _ h=>h) rfl (zW rfl rfl rfl rfl (N:=["one"]) (caps:=[none]) (by show za3 ["script","one","gaps","thing","price","cell","pen","drawing","trims","built","rows","more"] (zq s_law).names _ _ _ = true; decide +kernel)) (za5 (pv 8)) (fun _ _ _ _=>(zy (i:=0) (by show List.Nodup (["one"]:List Str); decide) rfl (Or.inl rfl))) (fun _ _ _ _=>zaA) (fun _ _ _ _=>(zar (zm6 (K:=K) rfl) (pv 0) zaZ (zaL zh)))) zg)))) zZ) (zj (zG (i:=9) zc1.nd rfl (Or.inl rfl) (zA zga hr (by decide) (zc (pv 6) (zc (pv 7) zg)))) (zj (zG (i:=2) zc1.nd rfl (Or.inr rfl) (zA zeq hr (by decide) (zc (pv 6) (zc (pv 7) (zc (pv 9) (zc (pv 8) zg)))))) (zj (zG (i:=4) zc1.nd rfl (Or.inl rfl) (zI zcd (zA zw hr (by decide) (zc (pv 6) (zc zh zg))) zh)) (zj (zG (i:=10) zc1.nd rfl (Or.inr rfl) (zA zcm hr (by decide) (zc (pv 2) (zc (pv 9) (zc (pv 8) (zc (pv 4) (zc (zF zg) zg))))))) (zr (zbc PassesOwn.never rfl (za5 (zI zK (zI zK (zab (zc (pv 10) zg)) (zaY (fun _ _ h=>h) rfl (zW rfl rfl rfl rfl (N:=["turn","rows","gaps","pen"]) (caps:=[none,some 10,some 2,some 6]) (by show za3 ["script","one","gaps","thing","price","cell","pen","drawing","trims","built","rows","more"] (zq s_law).names _ _ _ = true; decide +kernel)) (zaq rfl T.n_range (zc zh zg)) (fun _ _ _ _=>(zy (i:=0) (by show List.Nodup (["turn","rows","gaps","pen"]:List Str); decide) rfl (Or.inl rfl))) (fun _ _ _ _=>zaA) (fun _ _ _ _=>(zA zeo hr (by decide) (zc (pv 1) (zc (pv 2) (zc (pv 3) zg))))))) (zab (zc (pv 10) zg)))) (zy (i:=3) zc1.nd rfl (Or.inl rfl)) (zr (zbc PassesOwn.never rfl (zkA rfl T.n_range (zc (zec zcw zh) (zc zh zg))) (zy (i:=11) zc1.nd rfl (Or.inl rfl)) (zr (zbl (zcc (zaF (zA zd3 hr (by decide) (zc (pv 7) (zc (pv 2) (zc (pv 9) (zc (pv 8) (zc (zI zK (pv 4) (pv 11)) (zc (pv 3) zg))))))) (fun _=>rfl))) (zr (zH zdc)) zZ))))))))))))))) (zpz (zH zdc)))))),?_⟩
 refine zpi (a:=a) (m:=11) (dt:=zi4) (zu (zC (zz (za (zz (za zas (za zi (za zi zf)))) zf)) zk) (zu (zC (zz (za (zz (za (zz (za (zz (za zi (za zi zf))) zf)) (za zi (za zi zf)))) zf)) zk) (zbH (za4 (zak (za (zak zf) (za (zak (za (zz (za (zz zf) (za (zz (za zas (za zi zf))) zf))) zf)) (za (zak (za (zz (za (zz (za zi zf)) (za (zz (za zas (za zi zf))) zf))) (za (zz (za (zz (za zi zf)) (za (zz (za zas zf)) zf))) zf))) (za (zak (za (zz (za (zz zf) (za (zz (za zas zf)) zf))) zf)) zf)))))) zk (zbH (za4 (zak (za zi (za zi (za zi (za zi zf)))))) zk (zbu (zcv (zct (zN (za zd (za zd (za (zz (za zi zf)) (za (zz (za (zz (za (zz (za zi (za zi zf))) zf)) zf)) (za zd (za zd zf))))))))) (zJ zdq) zaa))))) rfl rfl (zkx a) fun σ1 H1 z0 z1 s1=>?_
 exact zoM (m:=11) (db:=zpo) (zu (zC (zN (za zd zf)) zk) (zu (zC (zL (i:=0) (za zd (za zi zf))) zk) (zu (zC (zL (i:=0) (za zd (za zd zf))) zk) (zu (zbu (zeI (zp zdD (zR zS (za zd zf)) zi)) (zC (zR zb0 (za (zbb (za4 zd) zk zaz (zdE ze2 zd za2 (za1 zi))) zf)) zk) zaa) (zu (zC (zL (i:=0) (za zd (za zd zf))) zk) (zu (zC (zL (i:=0) (za zd (za zd (za zd (za zd zf))))) zk) (zu (zC (zp zdQ (zL (i:=0) (za zd (za zi zf))) zi) zk) (zu (zC (zN (za zd (za zd (za zd (za zd (za (zz zf) zf)))))) zk) (zbH (za4 (zp zV (zp zV (zak (za zd zf)) (zbb (za7 (za zi zf)) zk zaz (zL (i:=2) (za zd (za zd (za zd zf)))))) (zak (za zd zf)))) zk (zbH (znv (za (zeb zh7 zi) (za zi zf))) zk (zbu (zcv (zct (zN (za zd (za zd (za zd (za zd (za (zp zV zd zd) (za zd zf))))))))) (zJ zdq) zaa))))))))))) z0 z1 (s1.seq hS) hlen (fun n=>zjo a n) (by decide) fun _ H2 _=>q H2
end
end My
namespace PySem.W.Fast
def tw1527014326833421502:Unit:=()
def tw7621063442867106735:Unit:=()
def tw8984885250098744106:Unit:=()
def tw8446749715183957579:Unit:=()
def tw7496680867927141712:Unit:=()
def tw9063901703199101370:Unit:=()
def tw14195800799128852200:Unit:=()
def tw11647826292251098397:Unit:=()
def tw2834215148767644816:Unit:=()
def tw13342552165755223941:Unit:=()
def tw6608782385680481172:Unit:=()
def tw8077102244586299246:Unit:=()
def tw4248166829191269947:Unit:=()
def tw11897675919187727000:Unit:=()
def tw6488512933882076001:Unit:=()
def tw1534404426534367602:Unit:=()
def tw8137462060580845192:Unit:=()
def tw6610376499362790062:Unit:=()
def tw5802564343115215474:Unit:=()
def tw12394653154121700413:Unit:=()
def tw7103666042976086163:Unit:=()
def tw137978724471762051:Unit:=()
def tw14924032637761469650:Unit:=()
def tw2606698813578979182:Unit:=()
def tw15513335612116823136:Unit:=()
def tw18110857337946689171:Unit:=()
def tw7238069098487883859:Unit:=()
def tw13174341432655133844:Unit:=()
def tw10106801595161038892:Unit:=()
def tw2584002919726289070:Unit:=()
def tw1574244790244499093:Unit:=()
def tw17747387546878133283:Unit:=()
def tw130990526900778048:Unit:=()
def tw7994068495068227868:Unit:=()
def tw14090133072317855712:Unit:=()
def tw16047938222323663993:Unit:=()
def tw14972162289822694606:Unit:=()
def tw16917829584825248570:Unit:=()
def tw11131645845708398655:Unit:=()
def tw16123193219927703144:Unit:=()
def tw16397782358882312833:Unit:=()
def tw9852904163224249023:Unit:=()
def tw18227775100654259658:Unit:=()
def tw8670376960988584765:Unit:=()
def tw796960080932079745:Unit:=()
def tw9072084744793586587:Unit:=()
def tw9065286048698685946:Unit:=()
def tw9431883342388205821:Unit:=()
def tw8087171102853245082:Unit:=()
def tw5885453035796079929:Unit:=()
def tw3634755170690191693:Unit:=()
def tw8538630216618858611:Unit:=()
def tw14948655706121540147:Unit:=()
def tw7827884278373056903:Unit:=()
def tw15108110545726565260:Unit:=()
def tw11476193942941224040:Unit:=()
def tw2993529781130596193:Unit:=()
def tw3169129452628911193:Unit:=()
def tw9786555391739720848:Unit:=()
def tw10563124024507019566:Unit:=()
def tw675013557520816147:Unit:=()
def tw7087131743088023245:Unit:=()
def tw459736414777331000:Unit:=()
def tw18363154762588324751:Unit:=()
def tw6296966802767201227:Unit:=()
def tw664658380143423510:Unit:=()
def tw12823915258143071199:Unit:=()
def tw8176082569491802037:Unit:=()
def tw9288045495996382145:Unit:=()
def tw5043300442065541429:Unit:=()
def tw2000289148009582141:Unit:=()
def tw18151055097884263367:Unit:=()
def tw8515298818320830138:Unit:=()
def tw11245357374002355385:Unit:=()
def tw5484755344020647844:Unit:=()
def tw7194860425679488625:Unit:=()
def tw11546050618101205559:Unit:=()
def tw13685455131105141018:Unit:=()
def tw9560837781492058553:Unit:=()
def tw12052455247695692119:Unit:=()
def tw13706877120184167999:Unit:=()
def tw13476139658691572663:Unit:=()
def tw3205628164050620723:Unit:=()
def tw5527089685034910948:Unit:=()
def tw9279486862830306351:Unit:=()
def tw10282198297158205922:Unit:=()
def tw12526189517650043441:Unit:=()
def tw4665438982705173534:Unit:=()
def tw17366650976416867559:Unit:=()
def tw6754229520750010109:Unit:=()
def tw4028118593970810234:Unit:=()
def tw9486880385181349170:Unit:=()
def tw4632931133524120820:Unit:=()
def tw5829420525597469253:Unit:=()
def tw6942845884671806485:Unit:=()
def tw6447622326831988878:Unit:=()
def tw18163759098218952520:Unit:=()
def tw10094757586894979556:Unit:=()
def tw16955195903614257303:Unit:=()
def tw1848959449927423674:Unit:=()
def tw10620813950431812421:Unit:=()
def tw7390657933804135580:Unit:=()
def tw3869972478780737451:Unit:=()
def tw10552037138968521500:Unit:=()
def tw190426354011910143:Unit:=()
def tw96513864303342254:Unit:=()
def tw16314001389340757710:Unit:=()
def tw5658130834796206318:Unit:=()
def tw2347314296353023668:Unit:=()
def tw11149568346737760536:Unit:=()
def tw11510894116260788756:Unit:=()
def tw13840641289662073010:Unit:=()
def tw78558566344554266:Unit:=()
def tw7405799839483273165:Unit:=()
def tw13396990143717650718:Unit:=()
def tw3598897436008346095:Unit:=()
def tw740157306630624445:Unit:=()
def tw11297638416785182325:Unit:=()
def tw8629044779460760099:Unit:=()
def tw12114482634068109969:Unit:=()
def tw13311020918281135353:Unit:=()
def tw61272925389074732:Unit:=()
def tw11256459729181212299:Unit:=()
def tw8630029486855640281:Unit:=()
def tw5938972701612055465:Unit:=()
def tw16157296653479182888:Unit:=()
end PySem.W.Fast
open PySem PySem.W PyProof.Rows L2
set_option maxRecDepth 100000 in
set_option maxHeartbeats 0 in
theorem PySem.Challenge.cw_gaugewright_k68_bars_held_holds : PySem.Challenge.rw_gaugewright_k68_bars_held.Holds := by
 w_on; o_law; k_head; (case hw=>w_witness2)
 k_fill
 refine L2.walk_law (l := PySem.Challenge.rw_gaugewright_k68_bars_held) (k := 164) rfl rfl ⟨rfl, by decide, by decide⟩ (fun w h Y => PySem.W.kIn_of Y) ?F
 case F =>
  intro w mg fa h KX G hmg
  have d_law_cell_at:Dd (L2.KOf KX) mg "_law_cell_at" My.s_law_cell_at ["script","k"]:=by
   dsimp only [L2.KOf]
   refine' Dd.mk' KX G ?a ?l ?c ?k ?b
   (case a=>k_is); (case l=>k_is); (case c=>k_is); (case k=>k_is); (case b=>intro _ _ _ _ _ _ us hl; obtain ⟨_,_,rfl⟩:=L2.len2 hl; rfl)
  have d_law_pen_of:Dd (L2.KOf KX) mg "_law_pen_of" My.s_law_pen_of ["cell"]:=by
   dsimp only [L2.KOf]
   refine' Dd.mk' KX G ?a ?l ?c ?k ?b
   (case a=>k_is); (case l=>k_is); (case c=>k_is); (case k=>k_is); (case b=>intro _ _ _ _ _ _ us hl; obtain ⟨_,rfl⟩:=L2.len1 hl; rfl)
  have d_law_next:Dd (L2.KOf KX) mg "_law_next" My.s_law_next ["seed"]:=by
   dsimp only [L2.KOf]
   refine' Dd.mk' KX G ?a ?l ?c ?k ?b
   (case a=>k_is); (case l=>k_is); (case c=>k_is); (case k=>k_is); (case b=>intro _ _ _ _ _ _ us hl; obtain ⟨_,rfl⟩:=L2.len1 hl; rfl)
  have d_law_draw:Dd (L2.KOf KX) mg "_law_draw" My.s_law_draw ["pen","many"]:=by
   dsimp only [L2.KOf]
   refine' Dd.mk' KX G ?a ?l ?c ?k ?b
   (case a=>k_is); (case l=>k_is); (case c=>k_is); (case k=>k_is); (case b=>intro _ _ _ _ _ _ us hl; obtain ⟨_,_,rfl⟩:=L2.len2 hl; rfl)
  have d_law_names_of:Dd (L2.KOf KX) mg "_law_names_of" My.s_law_names_of ["pen"]:=by
   dsimp only [L2.KOf]
   refine' Dd.mk' KX G ?a ?l ?c ?k ?b
   (case a=>k_is); (case l=>k_is); (case c=>k_is); (case k=>k_is); (case b=>intro _ _ _ _ _ _ us hl; obtain ⟨_,rfl⟩:=L2.len1 hl; rfl)
  have d_law_number_of:Dd (L2.KOf KX) mg "_law_number_of" My.s_law_number_of ["pen"]:=by
   dsimp only [L2.KOf]
   refine' Dd.mk' KX G ?a ?l ?c ?k ?b
   (case a=>k_is); (case l=>k_is); (case c=>k_is); (case k=>k_is); (case b=>intro _ _ _ _ _ _ us hl; obtain ⟨_,rfl⟩:=L2.len1 hl; rfl)
  have d_law_few:Dd (L2.KOf KX) mg "_law_few" My.s_law_few ["pen","most"]:=by
   dsimp only [L2.KOf]
   refine' Dd.mk' KX G ?a ?l ?c ?k ?b
   (case a=>k_is); (case l=>k_is); (case c=>k_is); (case k=>k_is); (case b=>intro _ _ _ _ _ _ us hl; obtain ⟨_,_,rfl⟩:=L2.len2 hl; rfl)
  have d_law_trims_of:Dd (L2.KOf KX) mg "_law_trims_of" My.s_law_trims_of ["pen","drawing"]:=by
   dsimp only [L2.KOf]
   refine' Dd.mk' KX G ?a ?l ?c ?k ?b
   (case a=>k_is); (case l=>k_is); (case c=>k_is); (case k=>k_is); (case b=>intro _ _ _ _ _ _ us hl; obtain ⟨_,_,rfl⟩:=L2.len2 hl; rfl)
  have d_law_set:Dd (L2.KOf KX) mg "_law_set" My.s_law_set ["pen","drawing"]:=by
   dsimp only [L2.KOf]
   refine' Dd.mk' KX G ?a ?l ?c ?k ?b
   (case a=>k_is); (case l=>k_is); (case c=>k_is); (case k=>k_is); (case b=>intro _ _ _ _ _ _ us hl; obtain ⟨_,_,rfl⟩:=L2.len2 hl; rfl)
  have d_law_terms_of:Dd (L2.KOf KX) mg "_law_terms_of" My.s_law_terms_of ["pen","drawing"]:=by
   dsimp only [L2.KOf]
   refine' Dd.mk' KX G ?a ?l ?c ?k ?b
   (case a=>k_is); (case l=>k_is); (case c=>k_is); (case k=>k_is); (case b=>intro _ _ _ _ _ _ us hl; obtain ⟨_,_,rfl⟩:=L2.len2 hl; rfl)
  have d_law_filings:Dd (L2.KOf KX) mg "_law_filings" My.s_law_filings ["trims"]:=by
   dsimp only [L2.KOf]
   refine' Dd.mk' KX G ?a ?l ?c ?k ?b
   (case a=>k_is); (case l=>k_is); (case c=>k_is); (case k=>k_is); (case b=>intro _ _ _ _ _ _ us hl; obtain ⟨_,rfl⟩:=L2.len1 hl; rfl)
  have d_law_filed:Dd (L2.KOf KX) mg "_law_filed" My.s_law_filed ["built","trims","filing"]:=by
   dsimp only [L2.KOf]
   refine' Dd.mk' KX G ?a ?l ?c ?k ?b
   (case a=>k_is); (case l=>k_is); (case c=>k_is); (case k=>k_is); (case b=>intro _ _ _ _ _ _ us hl; obtain ⟨_,_,_,rfl⟩:=L2.len3 hl; rfl)
  have d_law_worth:Dd (L2.KOf KX) mg "_law_worth" My.s_law_worth ["gap","one"]:=by
   dsimp only [L2.KOf]
   refine' Dd.mk' KX G ?a ?l ?c ?k ?b
   (case a=>k_is); (case l=>k_is); (case c=>k_is); (case k=>k_is); (case b=>intro _ _ _ _ _ _ us hl; obtain ⟨_,_,rfl⟩:=L2.len2 hl; rfl)
  have d_law_wanted:Dd (L2.KOf KX) mg "_law_wanted" My.s_law_wanted ["pen","drawing","built","trims"]:=by
   dsimp only [L2.KOf]
   refine' Dd.mk' KX G ?a ?l ?c ?k ?b
   (case a=>k_is); (case l=>k_is); (case c=>k_is); (case k=>k_is); (case b=>intro _ _ _ _ _ _ us hl; obtain ⟨_,_,_,_,rfl⟩:=L2.len4 hl; rfl)
  have d_law_price_of:Dd (L2.KOf KX) mg "_law_price_of" My.s_law_price_of ["trims","filing"]:=by
   dsimp only [L2.KOf]
   refine' Dd.mk' KX G ?a ?l ?c ?k ?b
   (case a=>k_is); (case l=>k_is); (case c=>k_is); (case k=>k_is); (case b=>intro _ _ _ _ _ _ us hl; obtain ⟨_,_,rfl⟩:=L2.len2 hl; rfl)
  have d_law_much_of:Dd (L2.KOf KX) mg "_law_much_of" My.s_law_much_of ["trims","part","number"]:=by
   dsimp only [L2.KOf]
   refine' Dd.mk' KX G ?a ?l ?c ?k ?b
   (case a=>k_is); (case l=>k_is); (case c=>k_is); (case k=>k_is); (case b=>intro _ _ _ _ _ _ us hl; obtain ⟨_,_,_,rfl⟩:=L2.len3 hl; rfl)
  have d_law_off_of:Dd (L2.KOf KX) mg "_law_off_of" My.s_law_off_of ["gap","built","trims","beginning"]:=by
   dsimp only [L2.KOf]
   refine' Dd.mk' KX G ?a ?l ?c ?k ?b
   (case a=>k_is); (case l=>k_is); (case c=>k_is); (case k=>k_is); (case b=>intro _ _ _ _ _ _ us hl; obtain ⟨_,_,_,_,rfl⟩:=L2.len4 hl; rfl)
  have d_law_rows_of:Dd (L2.KOf KX) mg "_law_rows_of" My.s_law_rows_of ["gaps","built","trims","price","ahead"]:=by
   dsimp only [L2.KOf]
   refine' Dd.mk' KX G ?a ?l ?c ?k ?b
   (case a=>k_is); (case l=>k_is); (case c=>k_is); (case k=>k_is); (case b=>intro _ _ _ _ _ _ us hl; obtain ⟨_,_,_,_,_,rfl⟩:=L2.len5 hl; rfl)
  have d_law_all_begun:Dd (L2.KOf KX) mg "_law_all_begun" My.s_law_all_begun ["trims","beginnings"]:=by
   dsimp only [L2.KOf]
   refine' Dd.mk' KX G ?a ?l ?c ?k ?b
   (case a=>k_is); (case l=>k_is); (case c=>k_is); (case k=>k_is); (case b=>intro _ _ _ _ _ _ us hl; obtain ⟨_,_,rfl⟩:=L2.len2 hl; rfl)
  have d_law_whole:Dd (L2.KOf KX) mg "_law_whole" My.s_law_whole ["found"]:=by
   dsimp only [L2.KOf]
   refine' Dd.mk' KX G ?a ?l ?c ?k ?b
   (case a=>k_is); (case l=>k_is); (case c=>k_is); (case k=>k_is); (case b=>intro _ _ _ _ _ _ us hl; obtain ⟨_,rfl⟩:=L2.len1 hl; rfl)
  have d_law_why_of:Dd (L2.KOf KX) mg "_law_why_of" My.s_law_why_of ["gaps","built","trims","price","row"]:=by
   dsimp only [L2.KOf]
   refine' Dd.mk' KX G ?a ?l ?c ?k ?b
   (case a=>k_is); (case l=>k_is); (case c=>k_is); (case k=>k_is); (case b=>intro _ _ _ _ _ _ us hl; obtain ⟨_,_,_,_,_,rfl⟩:=L2.len5 hl; rfl)
  have d_law_beginning_of:Dd (L2.KOf KX) mg "_law_beginning_of" My.s_law_beginning_of ["trims","thing"]:=by
   dsimp only [L2.KOf]
   refine' Dd.mk' KX G ?a ?l ?c ?k ?b
   (case a=>k_is); (case l=>k_is); (case c=>k_is); (case k=>k_is); (case b=>intro _ _ _ _ _ _ us hl; obtain ⟨_,_,rfl⟩:=L2.len2 hl; rfl)
  have d_law_bar_due:Dd (L2.KOf KX) mg "_law_bar_due" My.s_law_bar_due ["gaps","built","trims","price","thing"]:=by
   dsimp only [L2.KOf]
   refine' Dd.mk' KX G ?a ?l ?c ?k ?b
   (case a=>k_is); (case l=>k_is); (case c=>k_is); (case k=>k_is); (case b=>intro _ _ _ _ _ _ us hl; obtain ⟨_,_,_,_,_,rfl⟩:=L2.len5 hl; rfl)
  have d_choices_behind:Dd (L2.KOf KX) mg "choices_behind" My.s_choices_behind ["sizes","beginning"]:=by
   dsimp only [L2.KOf]
   refine' Dd.mk' KX G ?a ?l ?c ?k ?b
   (case a=>k_is); (case l=>k_is); (case c=>k_is); (case k=>k_is); (case b=>intro _ _ _ _ _ _ us hl; obtain ⟨_,_,rfl⟩:=L2.len2 hl; rfl)
  have d_is_whole:Dd (L2.KOf KX) mg "is_whole" My.s_is_whole ["thing"]:=by
   dsimp only [L2.KOf]
   refine' Dd.mk' KX G ?a ?l ?c ?k ?b
   (case a=>k_is); (case l=>k_is); (case c=>k_is); (case k=>k_is); (case b=>intro _ _ _ _ _ _ us hl; obtain ⟨_,rfl⟩:=L2.len1 hl; rfl)
  have d_is_beginning:Dd (L2.KOf KX) mg "is_beginning" My.s_is_beginning ["sizes","thing"]:=by
   dsimp only [L2.KOf]
   refine' Dd.mk' KX G ?a ?l ?c ?k ?b
   (case a=>k_is); (case l=>k_is); (case c=>k_is); (case k=>k_is); (case b=>intro _ _ _ _ _ _ us hl; obtain ⟨_,_,rfl⟩:=L2.len2 hl; rfl)
  have d_part_all_choices:Dd (L2.KOf KX) mg "part_all_choices" My.s_part_all_choices ["sizes","things"]:=by
   dsimp only [L2.KOf]
   refine' Dd.mk' KX G ?a ?l ?c ?k ?b
   (case a=>k_is); (case l=>k_is); (case c=>k_is); (case k=>k_is); (case b=>intro _ _ _ _ _ _ us hl; obtain ⟨_,_,rfl⟩:=L2.len2 hl; rfl)
  have d_are_rows:Dd (L2.KOf KX) mg "are_rows" My.s_are_rows ["sizes","thing"]:=by
   dsimp only [L2.KOf]
   refine' Dd.mk' KX G ?a ?l ?c ?k ?b
   (case a=>k_is); (case l=>k_is); (case c=>k_is); (case k=>k_is); (case b=>intro _ _ _ _ _ _ us hl; obtain ⟨_,_,rfl⟩:=L2.len2 hl; rfl)
  have d_sizes_of:Dd (L2.KOf KX) mg "sizes_of" My.s_sizes_of ["offers"]:=by
   dsimp only [L2.KOf]
   refine' Dd.mk' KX G ?a ?l ?c ?k ?b
   (case a=>k_is); (case l=>k_is); (case c=>k_is); (case k=>k_is); (case b=>intro _ _ _ _ _ _ us hl; obtain ⟨_,rfl⟩:=L2.len1 hl; rfl)
  have d_meet:Dd (L2.KOf KX) mg "meet" My.s_meet ["one","other"]:=by
   dsimp only [L2.KOf]
   refine' Dd.mk' KX G ?a ?l ?c ?k ?b
   (case a=>k_is); (case l=>k_is); (case c=>k_is); (case k=>k_is); (case b=>intro _ _ _ _ _ _ us hl; obtain ⟨_,_,rfl⟩:=L2.len2 hl; rfl)
  have d_plus:Dd (L2.KOf KX) mg "plus" My.s_plus ["one","other"]:=by
   dsimp only [L2.KOf]
   refine' Dd.mk' KX G ?a ?l ?c ?k ?b
   (case a=>k_is); (case l=>k_is); (case c=>k_is); (case k=>k_is); (case b=>intro _ _ _ _ _ _ us hl; obtain ⟨_,_,rfl⟩:=L2.len2 hl; rfl)
  have d_multiplied:Dd (L2.KOf KX) mg "multiplied" My.s_multiplied ["one","by"]:=by
   dsimp only [L2.KOf]
   refine' Dd.mk' KX G ?a ?l ?c ?k ?b
   (case a=>k_is); (case l=>k_is); (case c=>k_is); (case k=>k_is); (case b=>intro _ _ _ _ _ _ us hl; obtain ⟨_,_,rfl⟩:=L2.len2 hl; rfl)
  have d_span_of:Dd (L2.KOf KX) mg "span_of" My.s_span_of ["part"]:=by
   dsimp only [L2.KOf]
   refine' Dd.mk' KX G ?a ?l ?c ?k ?b
   (case a=>k_is); (case l=>k_is); (case c=>k_is); (case k=>k_is); (case b=>intro _ _ _ _ _ _ us hl; obtain ⟨_,rfl⟩:=L2.len1 hl; rfl)
  have d_reach_of_terms:Dd (L2.KOf KX) mg "reach_of_terms" My.s_reach_of_terms ["drawing","terms"]:=by
   dsimp only [L2.KOf]
   refine' Dd.mk' KX G ?a ?l ?c ?k ?b
   (case a=>k_is); (case l=>k_is); (case c=>k_is); (case k=>k_is); (case b=>intro _ _ _ _ _ _ us hl; obtain ⟨_,_,rfl⟩:=L2.len2 hl; rfl)
  have d_reach:Dd (L2.KOf KX) mg "reach" My.s_reach ["drawing","gap"]:=by
   dsimp only [L2.KOf]
   refine' Dd.mk' KX G ?a ?l ?c ?k ?b
   (case a=>k_is); (case l=>k_is); (case c=>k_is); (case k=>k_is); (case b=>intro _ _ _ _ _ _ us hl; obtain ⟨_,_,rfl⟩:=L2.len2 hl; rfl)
  have d_wanted_of:Dd (L2.KOf KX) mg "wanted_of" My.s_wanted_of ["gap"]:=by
   dsimp only [L2.KOf]
   refine' Dd.mk' KX G ?a ?l ?c ?k ?b
   (case a=>k_is); (case l=>k_is); (case c=>k_is); (case k=>k_is); (case b=>intro _ _ _ _ _ _ us hl; obtain ⟨_,rfl⟩:=L2.len1 hl; rfl)
  have d_misses:Dd (L2.KOf KX) mg "misses" My.s_misses ["drawing","gap"]:=by
   dsimp only [L2.KOf]
   refine' Dd.mk' KX G ?a ?l ?c ?k ?b
   (case a=>k_is); (case l=>k_is); (case c=>k_is); (case k=>k_is); (case b=>intro _ _ _ _ _ _ us hl; obtain ⟨_,_,rfl⟩:=L2.len2 hl; rfl)
  have d_ways_of:Dd (L2.KOf KX) mg "ways_of" My.s_ways_of ["trims"]:=by
   dsimp only [L2.KOf]
   refine' Dd.mk' KX G ?a ?l ?c ?k ?b
   (case a=>k_is); (case l=>k_is); (case c=>k_is); (case k=>k_is); (case b=>intro _ _ _ _ _ _ us hl; obtain ⟨_,rfl⟩:=L2.len1 hl; rfl)
  have d_chosen_ways:Dd (L2.KOf KX) mg "chosen_ways" My.s_chosen_ways ["trims","filing"]:=by
   dsimp only [L2.KOf]
   refine' Dd.mk' KX G ?a ?l ?c ?k ?b
   (case a=>k_is); (case l=>k_is); (case c=>k_is); (case k=>k_is); (case b=>intro _ _ _ _ _ _ us hl; obtain ⟨_,_,rfl⟩:=L2.len2 hl; rfl)
  have d_filed:Dd (L2.KOf KX) mg "filed" My.s_filed ["built","trims","filing"]:=by
   dsimp only [L2.KOf]
   refine' Dd.mk' KX G ?a ?l ?c ?k ?b
   (case a=>k_is); (case l=>k_is); (case c=>k_is); (case k=>k_is); (case b=>intro _ _ _ _ _ _ us hl; obtain ⟨_,_,_,rfl⟩:=L2.len3 hl; rfl)
  have d_what_may_be_left:Dd (L2.KOf KX) mg "what_may_be_left" My.s_what_may_be_left ["drawing","built","trims","beginning"]:=by
   dsimp only [L2.KOf]
   refine' Dd.mk' KX G ?a ?l ?c ?k ?b
   (case a=>k_is); (case l=>k_is); (case c=>k_is); (case k=>k_is); (case b=>intro _ _ _ _ _ _ us hl; obtain ⟨_,_,_,_,rfl⟩:=L2.len4 hl; rfl)
  have d_filing_price:Dd (L2.KOf KX) mg "filing_price" My.s_filing_price ["trims","filing"]:=by
   dsimp only [L2.KOf]
   refine' Dd.mk' KX G ?a ?l ?c ?k ?b
   (case a=>k_is); (case l=>k_is); (case c=>k_is); (case k=>k_is); (case b=>intro _ _ _ _ _ _ us hl; obtain ⟨_,_,rfl⟩:=L2.len2 hl; rfl)
  have d_is_why_no_filing:Dd (L2.KOf KX) mg "is_why_no_filing" My.s_is_why_no_filing ["job","built","trims","price","beginning","why"]:=by
   dsimp only [L2.KOf]
   refine' Dd.mk' KX G ?a ?l ?c ?k ?b
   (case a=>k_is); (case l=>k_is); (case c=>k_is); (case k=>k_is); (case b=>intro _ _ _ _ _ _ us hl; obtain ⟨_,_,_,_,_,_,rfl⟩:=L2.len6 hl; rfl)
  have d_bar_holds:Dd (L2.KOf KX) mg "bar_holds" My.s_bar_holds ["job","built","trims","price","thing"]:=by
   dsimp only [L2.KOf]
   refine' Dd.mk' KX G ?a ?l ?c ?k ?b
   (case a=>k_is); (case l=>k_is); (case c=>k_is); (case k=>k_is); (case b=>intro _ _ _ _ _ _ us hl; obtain ⟨_,_,_,_,_,rfl⟩:=L2.len5 hl; rfl)
  have d_law_right:Dd (L2.KOf KX) mg "_law_right" My.s_law_right ["drawing","gaps","built","trims","price","thing"]:=by
   dsimp only [L2.KOf]
   refine' Dd.mk' KX G ?a ?l ?c ?k ?b
   (case a=>k_is); (case l=>k_is); (case c=>k_is); (case k=>k_is); (case b=>intro _ _ _ _ _ _ us hl; obtain ⟨_,_,_,_,_,_,rfl⟩:=L2.len6 hl; rfl)
  have d_law_odd_row:Dd (L2.KOf KX) mg "_law_odd_row" My.s_law_odd_row ["row","gaps","pen"]:=by
   dsimp only [L2.KOf]
   refine' Dd.mk' KX G ?a ?l ?c ?k ?b
   (case a=>k_is); (case l=>k_is); (case c=>k_is); (case k=>k_is); (case b=>intro _ _ _ _ _ _ us hl; obtain ⟨_,_,_,rfl⟩:=L2.len3 hl; rfl)
  have d_law_odd_of:Dd (L2.KOf KX) mg "_law_odd_of" My.s_law_odd_of ["rows","gaps","pen"]:=by
   dsimp only [L2.KOf]
   refine' Dd.mk' KX G ?a ?l ?c ?k ?b
   (case a=>k_is); (case l=>k_is); (case c=>k_is); (case k=>k_is); (case b=>intro _ _ _ _ _ _ us hl; obtain ⟨_,_,_,rfl⟩:=L2.len3 hl; rfl)
  have d_law:Dd (L2.KOf KX) mg "law" My.s_law ["script"]:=by
   dsimp only [L2.KOf]
   refine' Dd.mk' KX G ?a ?l ?c ?k ?b
   (case a=>k_is); (case l=>k_is); (case c=>k_is); (case k=>k_is); (case b=>intro _ _ _ _ _ _ us hl; obtain ⟨_,rfl⟩:=L2.len1 hl; rfl)
  have T:My.Txt mg:=by
   refine' ⟨PySem.W.mg_none_of KX G ?z0,PySem.W.mg_none_of KX G ?z1,PySem.W.mg_none_of KX G ?z2,PySem.W.mg_none_of KX G ?z3,PySem.W.mg_none_of KX G ?z4,PySem.W.mg_none_of KX G ?z5,PySem.W.mg_none_of KX G ?z6,PySem.W.mg_none_of KX G ?z7,PySem.W.mg_none_of KX G ?z8,PySem.W.mg_none_of KX G ?z9,PySem.W.mg_none_of KX G ?z10,PySem.W.mg_none_of KX G ?z11,PySem.W.mg_none_of KX G ?z12⟩
   (case z0=>k_is); (case z1=>k_is); (case z2=>k_is); (case z3=>k_is); (case z4=>k_is); (case z5=>k_is); (case z6=>k_is); (case z7=>k_is); (case z8=>k_is); (case z9=>k_is); (case z10=>k_is); (case z11=>k_is); (case z12=>k_is)
  have dd:My.Dds (L2.KOf KX) mg:=⟨d_law_cell_at,d_law_pen_of,d_law_next,d_law_draw,d_law_names_of,d_law_number_of,d_law_few,d_law_trims_of,d_law_set,d_law_terms_of,d_law_filings,d_law_filed,d_law_worth,d_law_wanted,d_law_price_of,d_law_much_of,d_law_off_of,d_law_rows_of,d_law_all_begun,d_law_whole,d_law_why_of,d_law_beginning_of,d_law_bar_due,d_choices_behind,d_is_whole,d_is_beginning,d_part_all_choices,d_are_rows,d_sizes_of,d_meet,d_plus,d_multiplied,d_span_of,d_reach_of_terms,d_reach,d_wanted_of,d_misses,d_ways_of,d_chosen_ways,d_filed,d_what_may_be_left,d_filing_price,d_is_why_no_filing,d_bar_holds,d_law_right,d_law_odd_row,d_law_odd_of⟩
  obtain ⟨f,fd,F,hm,_⟩:=d_law.ex
  have e0:=hmg.symm.trans hm
  cases e0
  exact ⟨fd,F.bind1 fun _ _ _ _ _ _ _=>rfl,fun base _ _=>My.ok_law F T dd⟩
#print axioms PySem.Challenge.cw_gaugewright_k68_bars_held_holds
end