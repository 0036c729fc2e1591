import PyProof.Rows.All
import Wide.All
import OpenK.AllK
import Wide.FinOn
import Lean
import PyProof.EqAt
import PyProof.EqKinds
import PyProof.TupleCall
import KE.KTupSum
import KE.KSortTup
import PyProof.SetKind
import PyProof.SetRoads
import PyProof.SetNew
import PyProof.DictKinds
import PyProof.NsDelKeeps
import PyProof.StrWalks
import KE.KEqDict
import KE.KDictList
import PyProof.AttrMissSeq
import PyProof.WalksMore
import KE.KDictOf
import PyProof.Rows.Range3
import KE.KItemsList
import PyProof.FactsAll.dict_3
import KE.KMinKey
import PyProof.Rows.CallKwBuiltin
import PySem.Challenge.RW_gaugewright_k64_tables_held
noncomputable section
set_option Elab.async false
set_option linter.all false
set_option maxRecDepth 100000
namespace L2
open PySem PySem.Spec PyProof.Rows
abbrev Key:=Sum Int Str
def keyIs:Key→Value→Bool
 | .inl k,v=>Value.isInt k v
 | .inr x,v=>Value.isStrOf x v
def keyH (w:World):Key→Int
 | .inl k=>hashInt k
 | .inr x=>hashStr w x
theorem keyIs_shape:∀ {k:Key} {v:Value},keyIs k v = true→(∃ i t,k = Sum.inl i∧v = Value.int i t)∨(∃ x t,k = Sum.inr x∧v = Value.str x t)
 | .inl i,v,h=>by
  obtain ⟨t,e⟩:=Value.isInt_shape (k:=i) (v:=v) h
  exact .inl ⟨i,t,rfl,e⟩
 | .inr x,v,h=>by
  obtain ⟨t,e⟩:=Value.isStrOf_shape (x:=x) (v:=v) h
  exact .inr ⟨x,t,rfl,e⟩
theorem keyIs_int (i:Int) (t:Tok):keyIs (.inl i) (.int i t) = true:=by simp [keyIs,Value.isInt]
theorem keyIs_str (x:Str) (t:Tok):keyIs (.inr x) (.str x t) = true:=by simp [keyIs,Value.isStrOf]
theorem key_ll (a b:Int):decide ((Sum.inl a:Key) = Sum.inl b) = (a == b):=by
 by_cases e:a = b
 ·subst e; simp
 ·have h:¬ (Sum.inl a:Key) = Sum.inl b:=fun q=>e (Sum.inl.inj q)
  rw [decide_eq_false h]
  exact (beq_eq_false_iff_ne.mpr e).symm
theorem key_rr (a b:Str):decide ((Sum.inr a:Key) = Sum.inr b) = decide (a = b):=by
 by_cases e:a = b
 ·subst e; simp
 ·have h:¬ (Sum.inr a:Key) = Sum.inr b:=fun q=>e (Sum.inr.inj q)
  rw [decide_eq_false h,decide_eq_false e]
theorem key_lr (a:Int) (b:Str):decide ((Sum.inl a:Key) = Sum.inr b) = false:=decide_eq_false (fun q=>nomatch q)
theorem key_rl (a:Str) (b:Int):decide ((Sum.inr a:Key) = Sum.inl b) = false:=decide_eq_false (fun q=>nomatch q)
def mixKind (prog:Program) (w:World):PySem.KeyKind prog w Key where
 is:=keyIs
 hash:=keyH w
 inj:=fun v a b ha hb=>by
  rcases keyIs_shape ha with ⟨i,t,rfl,rfl⟩ | ⟨x,t,rfl,rfl⟩
  ·rcases keyIs_shape hb with ⟨j,u,rfl,e⟩ | ⟨y,u,rfl,e⟩
   ·injection e with e1 _; rw [e1]
   ·exact nomatch e
  ·rcases keyIs_shape hb with ⟨j,u,rfl,e⟩ | ⟨y,u,rfl,e⟩
   ·exact nomatch e
   ·injection e with e1 _; rw [e1]
 byValue:=fun k v h=>by
  rcases keyIs_shape h with ⟨i,t,rfl,rfl⟩ | ⟨x,t,rfl,rfl⟩ <;> rfl
 pyHash:=fun hv h=>by
  rcases keyIs_shape hv with ⟨i,t,rfl,rfl⟩ | ⟨x,t,rfl,rfl⟩
  ·exact wpAny_pyHash_int h
  ·exact wpAny_pyHash_str h
 eqBool:=fun hu hv h=>by
  rcases keyIs_shape hu with ⟨i,t,rfl,rfl⟩ | ⟨x,t,rfl,rfl⟩
  ·rcases keyIs_shape hv with ⟨j,u,rfl,rfl⟩ | ⟨y,u,rfl,rfl⟩
   ·rw [key_ll] at h; exact wpAny_eqBool_int h
   ·rw [key_lr] at h; exact SeqAt.EqAt.int_str i t y u _ _ _ _ h
  ·rcases keyIs_shape hv with ⟨j,u,rfl,rfl⟩ | ⟨y,u,rfl,rfl⟩
   ·rw [key_rl] at h; exact SeqAt.EqAt.str_int x t j u _ _ _ _ h
   ·rw [key_rr] at h; exact wpAny_eqBool_str h
 «strs»:=fun k x t v h=>by
  rcases keyIs_shape h with ⟨i,u,rfl,e⟩ | ⟨y,u,rfl,e⟩
  ·exact nomatch e
  ·injection e with e1 _
   subst e1
   cases v <;> rfl
theorem mixKind_int (prog:Program) (w:World) (i:Int) (t:Tok):(mixKind prog w).is (.inl i) (.int i t) = true:=keyIs_int i t
theorem mixKind_str (prog:Program) (w:World) (x:Str) (t:Tok):(mixKind prog w).is (.inr x) (.str x t) = true:=keyIs_str x t
end L2
namespace L2
open PySem PySem.Spec PyProof.Rows
inductive V where
 | non | bl (b:Bool) | int (i:Int) | str (x:Str) | byt (b:Array UInt8) | flt (b:UInt64) | ref (a:Addr) | ty (n:String)
 deriving DecidableEq
def RelV:V→Value→Prop
 | .non,u=>u = Value.none
 | .bl b,u=>u = Value.bool b
 | .int i,u=>∃ t,u = Value.int i t
 | .str x,u=>∃ t,u = Value.str x t
 | .byt b,u=>∃ t,u = Value.bytes b t
 | .flt b,u=>∃ t,u = Value.float b t
 | .ref a,u=>u = Value.ref a
 | .ty n,u=>u = Value.type n
abbrev Vals:List V→List Value→Prop:=Paired RelV
theorem Vals.length {xs:List V} {us:List Value} (r:Vals xs us):xs.length = us.length:=Paired.length r
theorem Vals.get:∀ {xs:List V} {us:List Value} {i:Nat} {x:V},Vals xs us→xs[i]? = some x→∃ u,us[i]? = some u∧RelV x u
 | _,_,_,_,.nil,e=>by simp at e
 | _,_,0,_,.cons r _,e=>by simp at e; subst e; exact ⟨_,rfl,r⟩
 | _,_,i + 1,x,.cons _ t,e=>by
  obtain ⟨u,h1,h2⟩:=Vals.get (i:=i) (x:=x) t (by simpa using e)
  exact ⟨u,by simpa using h1,h2⟩
theorem Vals.set {x:V} {u:Value} (r:RelV x u):∀ {xs:List V} {us:List Value} (i:Nat),Vals xs us→Vals (xs.set i x) (us.set i u)
 | _,_,_,.nil=>.nil
 | _,_,0,.cons _ t=>.cons r t
 | _,_,i + 1,.cons q t=>.cons q (Vals.set r i t)
theorem Vals.append:∀ {xs ys:List V} {us ws:List Value},Vals xs us→Vals ys ws→Vals (xs ++ ys) (us ++ ws)
 | _,_,_,_,.nil,s=>s
 | _,_,_,_,.cons r t,s=>.cons r (Vals.append t s)
theorem Vals.take:∀ {xs:List V} {us:List Value} (n:Nat),Vals xs us→Vals (xs.take n) (us.take n)
 | _,_,0,_=>.nil
 | _,_,_ + 1,.nil=>.nil
 | _,_,n + 1,.cons r t=>.cons r (Vals.take n t)
theorem Vals.drop:∀ {xs:List V} {us:List Value} (n:Nat),Vals xs us→Vals (xs.drop n) (us.drop n)
 | _,_,0,r=>r
 | _,_,_ + 1,.nil=>.nil
 | _,_,n + 1,.cons _ t=>Vals.drop n t
def RelO:Option V→Option Value→Prop
 | some v,some u=>RelV v u
 | none,none=>True
 | _,_=>False
def KV {κ:Type}:List (κ × V)→List (κ × Value)→Prop:=Paired fun (p:κ × V) (q:κ × Value)=>p.1 = q.1∧RelV p.2 q.2
def kV:Key→V
 | .inl i=>.int i
 | .inr x=>.str x
inductive HO where
 | lst (xs:List V)
 | tup (xs:List V)
 | dK (kvs:List (Key × V)) | dT (kvs:List (List Key × V))
 | set (S:Int→Bool) (n:Nat)
 | ins (C dx:Addr) (fs:List (Str × V))
 | own (x:Addr)
 | xd (fs:List (Str × V))
 | met (f x:Addr)
 | rng (lo hi:Int)
 | frz (o:Obj) (u:HO)
 | tbl (ps:Array Value)
 | ext (φ:Heap→Prop)
abbrev Hp:=Addr→Option HO
def upd (H:Hp) (a:Addr) (o:HO):Hp:=fun b=>if b = a then some o else H b
theorem upd_same {H:Hp} {a:Addr} {o:HO}:upd H a o a = some o:=by unfold upd; rw [if_pos rfl]
theorem upd_ne {H:Hp} {a b:Addr} {o:HO} (h:b ≠ a):upd H a o b = H b:=by unfold upd; rw [if_neg h]
theorem upd_upd {H:Hp} {a:Addr} {o u:HO}:upd (upd H a o) a u = upd H a u:=by
 funext b; unfold upd; split <;> rfl
theorem ne_of_none {H:Hp} {a b:Addr} {o:HO} (h:H a = some o) (h':H b = none):a ≠ b:=by
 intro e; subst e; rw [h] at h'; cases h'
section
variable (P:Program) (w:World)
def ObjOk (H:Hp) (h:Heap) (a:Addr):HO→Prop
 | .lst xs=>xs.length ≤ sizeLine∧∃ (its:List Value) (n:Nat),Vals xs its∧h.get? a = some { cls:=.type "list",data:=.seq its.toArray n }
 | .tup xs=>(xs.length ≤ sizeLine∧∃ o:Obj,h.get? a = some o∧o.dict = none)∧∃ its:List Value,Vals xs its∧IsTup h a its.toArray
 | .dK kvs=>kvs.length ≤ sizeLine∧(a == sysModules) = false∧∃ vs,KV kvs vs∧h.DictOf (mixKind P w) a vs
 | .dT kvs=>kvs.length ≤ sizeLine∧(a == sysModules) = false∧∃ xs:List (List Key × Addr × Value),
   Paired (fun (p:List Key × V) (q:List Key × Addr × Value)=>p.1 = q.1∧H q.2.1 = some (.tup (p.1.map kV))∧RelV p.2 q.2.2) kvs xs ∧
   ∃ o es ep,h.get? a = some o∧o.ExactDict∧o.data = .dict es ep∧es.toList = xs.map (entryOfKey (tupleKind (mixKind P w)))∧(xs.map (·.1)).Nodup
 | .set S n=>h.SetOf (intKind P w) a S n
 | .ins C dx fs=>H dx = some (.own a)∧fs.length ≤ 1000∧dx ≠ a∧h.get? a = some (PySem.W.instObj C dx) ∧
   ∃ mA,h.Ns1 dx mA∧(∀ f,RelO (fs.lookup f) (mA f))∧PySem.Within mA (fs.map (·.1))
 | .own _=>∃ o,h.get? a = some o
 | .xd fs=>∃ mA,h.Ns1 a mA∧∀ f,RelO (fs.lookup f) (mA f)
 | .rng lo hi=>∃ t u v,h.get? a = some { cls:=.type "range",data:=.fields #[.int lo t,.int hi u,.int 1 v] }
 | .frz o u=>h.get? a = some o∧ObjOk H h a u
 | .tbl ps=>h.get? a = some { cls:=.none,data:=.fields ps }
 | .met f x=>h.get? a = some (PySem.W.methodObj (.ref f) (.ref x))
 | .ext φ=>φ h∧(∃ o,h.get? a = some o)∧∀ h1 h2:Heap,φ h1→(∀ o,h1.get? a = some o→h2.get? a = some o)→φ h2
def HOk (H:Hp) (h:Heap):Prop:=∀ a o,H a = some o→ObjOk P w H h a o
end
section
variable {P:Program} {w:World} {H H':Hp} {h h':Heap} {a:Addr} {o:HO}
theorem ObjOk.lt (x:ObjOk P w H h a o):a < h.objs.size:=by
 cases o with
 | lst xs=>obtain ⟨_,_,_,_,e⟩:=x; exact Heap.lt_size e
 | tup xs=>obtain ⟨_,_,_,p⟩:=x; exact p.lt
 | dK kvs=>obtain ⟨_,_,_,_,o,_,_,e,_⟩:=x; exact Heap.lt_size e
 | dT kvs=>obtain ⟨_,_,_,_,o,_,_,e,_⟩:=x; exact Heap.lt_size e
 | set S n=>obtain ⟨o,_,_,_,e,_⟩:=x; exact Heap.lt_size e
 | ins C dx fs=>obtain ⟨_,_,_,e,_⟩:=x; exact Heap.lt_size e
 | own y=>obtain ⟨_,e⟩:=x; exact Heap.lt_size e
 | xd fs=>obtain ⟨_,⟨_,_,_,e,_⟩,_⟩:=x; exact Heap.lt_size e
 | rng lo hi=>obtain ⟨_,_,_,e⟩:=x; exact Heap.lt_size e
 | frz ob u=>obtain ⟨e,_⟩:=x; exact Heap.lt_size e
 | tbl ps=>exact Heap.lt_size (show h.get? a = some _ from x)
 | met f y=>exact Heap.lt_size (show h.get? a = some _ from x)
 | ext φ=>obtain ⟨_,⟨_,e⟩,_⟩:=x; exact Heap.lt_size e
theorem Paired.mapP {α β:Type} {F G:α→β→Prop}:∀ {l₁:List α} {l₂:List β},Paired F l₁ l₂→(∀ a b,F a b→G a b)→Paired G l₁ l₂
 | _,_,.nil,_=>.nil
 | _,_,.cons r t,f=>.cons (f _ _ r) (Paired.mapP t f)
theorem ObjOk.stay (x:ObjOk P w H h a o) (k:∀ b u,(b = a∨H b = some (.own a))→h.get? b = some u→h'.get? b = some u)
  (ho:∀ b,H b = some (.own a)→H' b = some (.own a)) (ht:∀ b xs,H b = some (.tup xs)→H' b = some (.tup xs)):ObjOk P w H' h' a o:=by
 induction o with
 | lst xs=>obtain ⟨z,its,n,r,e⟩:=x; exact ⟨z,its,n,r,k _ _ (.inl rfl) e⟩
 | tup xs=>obtain ⟨⟨z,o2,e2,d2⟩,its,r,ob,e,c⟩:=x; exact ⟨⟨z,o2,k _ _ (.inl rfl) e2,d2⟩,its,r,ob,k _ _ (.inl rfl) e,c⟩
 | dK kvs=>obtain ⟨z,y,vs,r,ob,es,ep,e,c⟩:=x; exact ⟨z,y,vs,r,ob,es,ep,k _ _ (.inl rfl) e,c⟩
 | dT kvs =>
  obtain ⟨z,y,xs,r,ob,es,ep,e,c⟩:=x
  exact ⟨z,y,xs,Paired.mapP r fun p q z=>⟨z.1,ht _ _ z.2.1,z.2.2⟩,ob,es,ep,k _ _ (.inl rfl) e,c⟩
 | set S n=>obtain ⟨ob,es,ep,t,e,c⟩:=x; exact ⟨ob,es,ep,t,k _ _ (.inl rfl) e,c⟩
 | ins C dx fs =>
  obtain ⟨d,z,ne,e,mA,⟨od,es,ep,e2,c⟩,r⟩:=x
  exact ⟨ho _ d,z,ne,k _ _ (.inl rfl) e,mA,⟨od,es,ep,k _ _ (.inr d) e2,c⟩,r⟩
 | own y=>obtain ⟨ob,e⟩:=x; exact ⟨ob,k _ _ (.inl rfl) e⟩
 | xd fs=>obtain ⟨mA,⟨od,es,ep,e,c⟩,r⟩:=x; exact ⟨mA,⟨od,es,ep,k _ _ (.inl rfl) e,c⟩,r⟩
 | rng lo hi=>obtain ⟨t,u,v,e⟩:=x; exact ⟨t,u,v,k _ _ (.inl rfl) e⟩
 | frz ob u ih=>obtain ⟨e,q⟩:=x; exact ⟨k _ _ (.inl rfl) e,ih q⟩
 | tbl ps =>
  have e:h.get? a = some { cls:=.none,data:=.fields ps }:=x
  show h'.get? a = some { cls:=.none,data:=.fields ps }
  exact k a _ (.inl rfl) e
 | met f y =>
  have e:h.get? a = some (PySem.W.methodObj (.ref f) (.ref y)):=x
  show h'.get? a = some (PySem.W.methodObj (.ref f) (.ref y))
  exact k a _ (.inl rfl) e
 | ext φ=>obtain ⟨p,⟨o,e⟩,st⟩:=x; exact ⟨st _ _ p fun o q=>k _ _ (.inl rfl) q,⟨o,k _ _ (.inl rfl) e⟩,st⟩
theorem HOk.lt (x:HOk P w H h) (e:H a = some o):a < h.objs.size:=(x a o e).lt
theorem HOk.fresh (x:HOk P w H h) (e:h.objs.size ≤ a):H a = none:=by
 cases q:H a with
 | none=>rfl
 | some u=>exact absurd (Nat.lt_of_lt_of_le (x.lt q) e) (Nat.lt_irrefl _)
theorem HOk.kept (x:HOk P w H h) (k:∀ b u,h.get? b = some u→h'.get? b = some u):HOk P w H h':=fun a o e =>
 (x a o e).stay (fun b u _ q=>k b u q) (fun _ q=>q) fun _ _ q=>q
theorem HOk.laid (x:HOk P w H h) (k:∀ b u,h.get? b = some u→h'.get? b = some u) (hp:h.objs.size ≤ a) (new:ObjOk P w (upd H a o) h' a o):HOk P w (upd H a o) h':=fun b u e=>by
 have hn:=x.fresh hp
 by_cases hb:b = a
 ·subst hb; rw [upd_same] at e; cases e; exact new
 ·rw [upd_ne hb] at e
  exact (x b u e).stay (fun c v _ q=>k c v q) (fun c q=>by rw [upd_ne (ne_of_none q hn)]; exact q) fun c xs q=>by rw [upd_ne (ne_of_none q hn)]; exact q
end
def Rd (H:Hp) (a:Addr) (u:HO):Prop:=H a = some u∨∃ o,H a = some (.frz o u)
theorem Rd.ok {P:Program} {w:World} {H:Hp} {h:Heap} {a:Addr} {u:HO} (r:Rd H a u) (x:HOk P w H h):ObjOk P w H h a u:=by
 rcases r with r | ⟨o,r⟩
 ·exact x a u r
 ·obtain ⟨_,q⟩:=x a _ r
  exact q
def Mut:Option HO→Prop
 | some (.lst _)=>True
 | some (.dK _)=>True
 | some (.dT _)=>True
 | some (.set _ _)=>True
 | some (.ins _ _ _)=>True
 | some (.ext _)=>True
 | _=>False
section
variable {P:Program} {w:World} {H:Hp} {h h':Heap} {x e:Addr} {o':HO}
theorem HOk.write (ok:HOk P w H h) (mu:Mut (H x)) (he:e = x∨H e = some (.own x)) (k:∀ b u,b ≠ e→h.get? b = some u→h'.get? b = some u) (heo:∃ u,h'.get? e = some u)
  (new:ObjOk P w (upd H x o') h' x o'):HOk P w (upd H x o') h':=fun b u q=>by
 have nown:∀ c y,H c = some (.own y)→c ≠ x:=fun c y r z=>by subst z; rw [r] at mu; exact mu
 have ntup:∀ c xs,H c = some (.tup xs)→c ≠ x:=fun c xs r z=>by subst z; rw [r] at mu; exact mu
 by_cases hb:b = x
 ·subst hb; rw [upd_same] at q; cases q; exact new
 ·rw [upd_ne hb] at q
  by_cases hbe:b = e
  ·have q':H b = some (.own x):=by
    rcases he with z | z
    ·exact absurd (hbe.trans z) hb
    ·rw [hbe]; exact z
   rw [q] at q'; cases q'
   obtain ⟨v,hv⟩:=heo
   exact ⟨v,by rw [hbe]; exact hv⟩
  ·refine (ok b u q).stay (fun c v hc r=>k c v ?_ r) (fun c r=>by rw [upd_ne (nown c b r)]; exact r) fun c xs r=>by rw [upd_ne (ntup c xs r)]; exact r
   rcases hc with rfl | hc
   ·exact hbe
   ·rintro rfl
    rcases he with z | z
    ·exact nown c b hc z
    ·rw [hc] at z; cases z; exact hb rfl
end
structure Un (fs ex:List Addr) (H H':Hp) (h h':Heap):Prop where
 keep:∀ b o,h.get? b = some o→H b = none→b ∉ fs→b ∉ ex→h'.get? b = some o
 slot:∀ b o,h.get? b = some o→H b = none→b ∈ fs→b ∉ ex→∃ sl,h'.get? b = some { o with slots:=sl }
 free:∀ b o,h.get? b = some o→H b = none→b ∉ ex→H' b = none
 there:∀ b o,h.get? b = some o→b ∉ ex→∃ o',h'.get? b = some o'
 tups:∀ b xs,H b = some (.tup xs)→H' b = some (.tup xs)
 frzs:∀ b o u,H b = some (.frz o u)→H' b = some (.frz o u)
 tbls:∀ b ps,H b = some (.tbl ps)→∃ more,H' b = some (.tbl (ps ++ more))
section
variable {fs fs' ex ex':List Addr} {H H1 H2:Hp} {h h1 h2 h':Heap} {a x e:Addr} {o:HO}
theorem Un.any (u:Un fs ex H H1 h h1) {b:Addr} {ob:Obj} (q:h.get? b = some ob) (n:H b = none) (hx:b ∉ ex):∃ sl,h1.get? b = some { ob with slots:=sl }:=by
 by_cases hb:b ∈ fs
 ·exact u.slot b ob q n hb hx
 ·exact ⟨ob.slots,u.keep b ob q n hb hx⟩
theorem Un.trans (a:Un fs ex H H1 h h1) (b:Un fs ex H1 H2 h1 h2):Un fs ex H H2 h h2 where
 keep:=fun c ob q n hc hx=>b.keep c ob (a.keep c ob q n hc hx) (a.free c ob q n hx) hc hx
 slot:=fun c ob q n hc hx=>by
  obtain ⟨sl,e1⟩:=a.slot c ob q n hc hx
  obtain ⟨sl',e2⟩:=b.slot c _ e1 (a.free c ob q n hx) hc hx
  exact ⟨sl',e2⟩
 free:=fun c ob q n hx=>by
  obtain ⟨o',e1⟩:=a.there c ob q hx
  exact b.free c o' e1 (a.free c ob q n hx) hx
 there:=fun c ob q hx=>by
  obtain ⟨o',e1⟩:=a.there c ob q hx
  exact b.there c o' e1 hx
 tups:=fun c xs q=>b.tups c xs (a.tups c xs q)
 frzs:=fun c ob xs q=>b.frzs c ob xs (a.frzs c ob xs q)
 tbls:=fun c ps q=>by
  obtain ⟨m1,e1⟩:=a.tbls c ps q
  obtain ⟨m2,e2⟩:=b.tbls c _ e1
  exact ⟨m1 ++ m2,by rw [e2,Array.append_assoc]⟩
theorem Un.kept (k:∀ b u,h.get? b = some u→h'.get? b = some u):Un fs ex H H h h' :=
 ⟨fun b ob q _ _ _=>k b ob q,fun b ob q _ _ _=>⟨ob.slots,k b ob q⟩,fun _ _ _ n _=>n,fun b ob q _=>⟨ob,k b ob q⟩,fun _ _ q=>q,fun _ _ _ q=>q,fun _ ps q=>⟨#[],by rw [q]; simp⟩⟩
theorem Un.refl:Un fs ex H H h h:=Un.kept fun _ _ q=>q
theorem Un.laid (k:∀ b u,h.get? b = some u→h'.get? b = some u) (hp:h.objs.size ≤ a) (hn:H a = none):Un fs ex H (upd H a o) h h' where
 keep:=fun b u q _ _ _=>k b u q
 slot:=fun b u q _ _ _=>⟨u.slots,k b u q⟩
 free:=fun b u q n _=>by rw [upd_ne (Nat.ne_of_lt (Nat.lt_of_lt_of_le (Heap.lt_size q) hp))]; exact n
 there:=fun b u q _=>⟨u,k b u q⟩
 tups:=fun b xs q=>by rw [upd_ne (ne_of_none q hn)]; exact q
 frzs:=fun b u xs q=>by rw [upd_ne (ne_of_none q hn)]; exact q
 tbls:=fun b ps q=>⟨#[],by rw [upd_ne (ne_of_none q hn),q]; simp⟩
theorem Un.write (mu:Mut (H x)) (he:e = x∨H e = some (.own x)) (k:∀ b u,b ≠ e→h.get? b = some u→h'.get? b = some u) (heo:∃ u,h'.get? e = some u):Un fs ex H (upd H x o) h h':=by
 have hx:∀ b,H b = none→b ≠ x:=fun b n z=>by subst z; rw [n] at mu; exact mu
 have hb:∀ b,H b = none→b ≠ e:=fun b n z=>by
  subst z
  rcases he with r | r
  ·exact hx b n r
  ·rw [n] at r; cases r
 have hm:∀ b u,H b = some u→¬ Mut (some u)→b ≠ x:=fun b u q nm z=>by subst z; rw [q] at mu; exact nm mu
 refine ⟨fun b u q n _ _=>k b u (hb b n) q,fun b u q n _ _=>⟨u.slots,k b u (hb b n) q⟩,fun b u q n _=>by rw [upd_ne (hx b n)]; exact n,fun b u q _=>?_,
  fun b xs q=>by rw [upd_ne (hm b _ q fun z=>z)]; exact q,fun b u xs q=>by rw [upd_ne (hm b _ q fun z=>z)]; exact q,fun b ps q=>⟨#[],by rw [upd_ne (hm b _ q fun z=>z),q]; simp⟩⟩
 by_cases hbe:b = e
 ·subst hbe; exact heo
 ·exact ⟨u,k b u hbe q⟩
theorem Un.mono (u:Un fs ex H H1 h h1) (hs:∀ b ∈ fs,b ∈ fs') (hx:∀ b ∈ ex,b ∈ ex'):Un fs' ex' H H1 h h1 :=
 ⟨fun b ob q n hb he=>u.keep b ob q n (fun z=>hb (hs b z)) fun z=>he (hx b z),fun _ _ q n _ he=>u.any q n fun z=>he (hx _ z),fun b ob q n he=>u.free b ob q n fun z=>he (hx b z),fun b ob q he=>u.there b ob q fun z=>he (hx b z),u.tups,u.frzs,u.tbls⟩
end
def trk (h:Heap) (H:Hp):List Addr:=(List.range h.objs.size).filter fun a=>(H a).isSome
def hidT (h:Heap) (H:Hp):Heap:=PySem.W.hideAll h (trk h H)
theorem hidT_size (h:Heap) (H:Hp):(hidT h H).objs.size = h.objs.size:=PySem.W.hideAll_size _ _
theorem hidT_get {h:Heap} {H:Hp} {b:Addr} {o:Obj} (e:h.get? b = some o) (n:H b = none):(hidT h H).get? b = some o :=
 PySem.W.hideAll_get _ e fun hm=>by
  have q:(H b).isSome = true:=(List.mem_filter.mp hm).2
  rw [n] at q; simp at q
theorem of_hidT {h:Heap} {H:Hp} {b:Addr} {o:Obj} (e:(hidT h H).get? b = some o):h.get? b = some o∧H b = none:=by
 have e':h.get? b = some o:=PySem.W.of_hideAll (trk h H) e
 refine ⟨e',?_⟩
 cases q:H b with
 | none=>rfl
 | some x =>
  have hm:b ∈ trk h H:=List.mem_filter.mpr ⟨List.mem_range.mpr (Heap.lt_size e'),by simp [q]⟩
  have z:(hidT h H).get? b = none:=PySem.W.hideAll_none (trk h H) hm
  rw [z] at e; cases e
def allNews (g h:Heap) (L:Addr):List (Addr × Obj):=(List.range h.objs.size).filterMap fun a=>if a = L∨(g.get? a).isSome = true then none else (h.get? a).map fun o=>(a,o)
def rest (g h:Heap) (L d:Addr):List (Addr × Obj):=(allNews g h L).filter fun p=>decide (p.1 ≠ d)
end L2
namespace L2
open PySem PySem.Spec PyProof.Rows
structure Mod (K:PySem.W.Frag) (mg:Str→Option Value) (base:Heap):Prop where
 kin:K.In base
 glob:base.Ns mainGlobals mg
 blt:∃ mb,base.Ns builtinsNs mb∧∀ x:Str,x ≠ "__name__"→mb x = bootBuiltins x
 nolimit:base.NoLimit
structure Cx where
 prog:Program
 w:World
 K:PySem.W.Frag
 mg:Str→Option Value
 base:Heap
 A:Around
 N:List Str
 s₀:Shared
 H₀:Hp
 env:Env
 outer:List Env
 stack:List Env
 ex:List Addr
 fn:Str→Bool
 calm:Bool
 pn:List (Addr × Obj)
 xe:Value→Shared→Prop
def frs (l:List Env):List Addr:=l.filterMap (·.frame)
abbrev Cx.fs (X:Cx):List Addr:=frs X.outer
def Vis (sc:Scope) (x:Str):Prop:=sc.names.lookup x = some .local∨sc.names.lookup x = some .cell∨sc.names.lookup x = some .free
def Loc (sc:Scope) (x:Str):Prop:=sc.names.lookup x = some .local∨sc.names.lookup x = some .cell
def Look (env:Env) (h:Heap) (m:Str→Option Value) (x:Str) (u:Value):Prop :=
 (env.kindOf x = some .local∧m x = some u)∨((env.kindOf x = some .cell∨env.kindOf x = some .free)∧∃ c,env.cells.lookup x = some c∧h.IsCell c (some u))
structure Cx.Ok (X:Cx):Prop where
 mod:Mod X.K X.mg X.base
 kind:X.env.scope.kind = .function
 glob:X.env.globals = mainGlobals
 blt:X.env.builtins = builtinsNs
 above:X.s₀.heap.objs.size ≤ X.env.locals
 inj:∀ x y c,X.env.cells.lookup x = some c→X.env.cells.lookup y = some c→x = y
 has:∀ x,(X.env.kindOf x = some .cell∨X.env.kindOf x = some .free)→∃ c,X.env.cells.lookup x = some c
 cab:∀ x c,X.fn x = true→X.env.cells.lookup x = some c→X.s₀.heap.objs.size ≤ c
 hd:X.calm = true→X.A.handled = none
 frames:X.A.frames = some X.stack
 stk:X.stack = X.outer∨(X.stack = X.env :: X.outer∧X.env.frame = some X.env.locals)
 exf:∀ b ∈ X.ex,b ≠ X.env.locals∧∀ x c,X.env.cells.lookup x = some c→c ≠ b
 bs:∀ b o,X.base.get? b = some o→X.s₀.heap.get? b = some o∧X.H₀ b = none
 bsz:X.base.objs.size ≤ X.s₀.heap.objs.size
 noex:∀ b o,X.base.get? b = some o→b ∉ X.ex
 exfs:∀ b ∈ X.ex,b ∉ X.fs
 funs:X.s₀.heap.FunFrames X.base X.outer
 frf:∀ b ∈ X.fs,X.H₀ b = none
structure Inv (X:Cx) (pins:List (Addr × Obj)) (σ:List (Option V)) (H:Hp) (s:Shared):Prop where
 ok:X.Ok
 os:s.os = X.s₀.os
 bare:AllBare s.gens
 base:Un X.fs X.ex X.H₀ H X.s₀.heap s.heap
 loc:∃ m,s.heap.Ns X.env.locals m∧∀ (i:Nat) (x:Str) (v:V),X.N[i]? = some x→σ[i]? = some (some v)→Vis X.env.scope x→∃ u,RelV v u∧Look X.env s.heap m x u
 cell:∀ x c,X.env.cells.lookup x = some c→∃ v,s.heap.IsCell c v
 free:H X.env.locals = none
 freeC:∀ x c,X.env.cells.lookup x = some c→H c = none
 pin:∀ p ∈ X.pn ++ pins,s.heap.get? p.1 = some p.2∧H p.1 = none∧p.1 ≠ X.env.locals∧p.1 ∉ X.fs∧∀ v,p.2.data ≠ .cell v
 hok:HOk X.prog X.w H s.heap
 len:σ.length = X.N.length
section
variable {X:Cx} {pins:List (Addr × Obj)} {σ:List (Option V)} {H H':Hp} {s:Shared} {h':Heap}
theorem Cx.Ok.nofr (ok:X.Ok) {b:Addr} {o:Obj} (e:X.base.get? b = some o):b ∉ X.fs:=fun hb=>by
 have:=(ok.funs.mem hb).1
 rw [e] at this; cases this
theorem Inv.bs (I:Inv X pins σ H s):∀ b o,X.base.get? b = some o→s.heap.get? b = some o∧H b = none:=fun b o e =>
 ⟨I.base.keep b o (I.ok.bs b o e).1 (I.ok.bs b o e).2 (I.ok.nofr e) (I.ok.noex b o e),I.base.free b o (I.ok.bs b o e).1 (I.ok.bs b o e).2 (I.ok.noex b o e)⟩
theorem Inv.bk (I:Inv X pins σ H s):∀ b o,X.base.get? b = some o→s.heap.get? b = some o:=fun b o e=>(I.bs b o e).1
theorem Inv.mod (I:Inv X pins σ H s):Mod X.K X.mg X.base:=I.ok.mod
theorem Inv.kIn (I:Inv X pins σ H s):X.K.In s.heap:=I.ok.mod.kin.keeps I.bk
theorem Inv.lt (I:Inv X pins σ H s):X.env.locals < s.heap.objs.size:=let ⟨_,hn,_⟩:=I.loc; hn.lt
theorem Inv.sz (I:Inv X pins σ H s):X.s₀.heap.objs.size ≤ s.heap.objs.size:=Nat.le_trans I.ok.above (Nat.le_of_lt I.lt)
theorem Inv.nofs (I:Inv X pins σ H s) {a:Addr} (h:s.heap.objs.size ≤ a):a ∉ X.fs:=fun hb=>by
 obtain ⟨_,o,ho,_⟩:=I.ok.funs.mem hb
 exact absurd (Nat.lt_of_lt_of_le (Heap.lt_size ho) (Nat.le_trans I.sz h)) (Nat.lt_irrefl _)
theorem Inv.cne (I:Inv X pins σ H s):∀ x c,X.env.cells.lookup x = some c→c ≠ X.env.locals:=fun x c e z=>by
 obtain ⟨v,o,ho,hd⟩:=I.cell x c e
 obtain ⟨m,⟨o',es,ep,ho',hd',_⟩,_⟩:=I.loc
 rw [z,ho'] at ho; cases ho; rw [hd'] at hd; cases hd
theorem Inv.funs (I:Inv X pins σ H s):s.heap.FunFrames X.base X.outer:=by
 have all:∀ (l:List Env),(∀ b ∈ frs l,b ∈ X.fs)→X.s₀.heap.FunFrames X.base l→s.heap.FunFrames X.base l:=by
  intro l
  induction l with
  | nil=>intro _ _; trivial
  | cons env r ih =>
   intro hs hl
   obtain ⟨hk,⟨L,o,hf,hn,ho,hd⟩,hr⟩:=hl
   have hL:L ∈ X.fs:=hs L (by unfold frs; rw [List.filterMap_cons,hf]; exact List.mem_cons_self)
   obtain ⟨sl,e⟩:=I.base.slot L o ho (I.ok.frf L hL) hL fun z=>I.ok.exfs L z hL
   exact ⟨hk,⟨L,_,hf,hn,e,hd⟩,ih (fun b hb=>hs b (by unfold frs; rw [List.filterMap_cons,hf]; exact List.mem_cons_of_mem _ hb)) hr⟩
 exact all X.outer (fun _ hb=>hb) I.ok.funs
theorem Inv.stack (I:Inv X pins σ H s):s.heap.FunFrames X.base X.stack:=by
 rcases I.ok.stk with e | ⟨e,hf⟩
 ·rw [e]; exact I.funs
 ·rw [e]
  obtain ⟨m,hn,_⟩:=I.loc
  refine .cons (by rw [I.ok.kind]; decide) hf hn ?_ I.funs
  exact Heap.get?_none_of_le (Nat.le_trans I.ok.bsz I.ok.above)
theorem Inv.stkSub (I:Inv X pins σ H s):∀ b ∈ frs X.stack,b ∈ X.env.locals :: X.fs:=fun b hb=>by
 rcases I.ok.stk with e | ⟨e,hf⟩
 ·rw [e] at hb; exact List.mem_cons_of_mem _ hb
 ·rw [e] at hb
  unfold frs at hb
  rw [List.filterMap_cons,hf] at hb
  exact hb
theorem Inv.stkFree (I:Inv X pins σ H s):∀ b ∈ frs X.stack,H b = none:=fun b hb=>by
 rcases List.mem_cons.mp (I.stkSub b hb) with e | hb
 ·rw [e]; exact I.free
 ·obtain ⟨_,o,ho,_⟩:=I.ok.funs.mem hb
  exact I.base.free b o ho (I.ok.frf b hb) fun z=>I.ok.exfs b z hb
theorem Inv.step {g':Array GenState} {t':Nat} {d':Drawn} {ch:List Addr} (I:Inv X pins σ H s)
  (hch:∀ b ∈ ch,(b ∈ X.ex∨X.s₀.heap.objs.size ≤ b)∧b ≠ X.env.locals∧(∀ x c,X.env.cells.lookup x = some c→c ≠ b)∧∀ p ∈ X.pn ++ pins,p.1 ≠ b)
  (keep:∀ b o,b ≠ X.env.locals→b ∉ X.fs→b ∉ ch→s.heap.get? b = some o→H b = none→h'.get? b = some o)
  (slot:∀ b o,b ≠ X.env.locals→b ∈ X.fs→b ∉ ch→s.heap.get? b = some o→H b = none→∃ sl,h'.get? b = some { o with slots:=sl }) (free:∀ b o,b ∉ ch→s.heap.get? b = some o→H b = none→H' b = none)
  (there:∀ b o,b ∉ ch→s.heap.get? b = some o→∃ o',h'.get? b = some o')
  (tups:∀ b xs,H b = some (.tup xs)→H' b = some (.tup xs)) (frzs:∀ b o u,H b = some (.frz o u)→H' b = some (.frz o u)) (tbls:∀ b ps,H b = some (.tbl ps)→∃ more,H' b = some (.tbl (ps ++ more)))
  (ns:∀ m,s.heap.Ns X.env.locals m→h'.Ns X.env.locals m) (hok:HOk X.prog X.w H' h') (hg:AllBare g') :
  Inv X pins σ H' { s with heap:=h',gens:=g',drawn:=d',toks:=t' }:=by
 have neL:∀ b o,X.s₀.heap.get? b = some o→b ≠ X.env.locals:=fun b o e=>Nat.ne_of_lt (Nat.lt_of_lt_of_le (Heap.lt_size e) I.ok.above)
 have neC:∀ b o,X.s₀.heap.get? b = some o→b ∉ X.ex→b ∉ ch:=fun b o e hx hb=>by
  rcases (hch b hb).1 with z | z
  ·exact hx z
  ·exact absurd (Nat.lt_of_lt_of_le (Heap.lt_size e) z) (Nat.lt_irrefl _)
 have cellK:∀ x c,X.env.cells.lookup x = some c→∀ v,s.heap.IsCell c v→h'.IsCell c v:=fun x c e v ⟨o,ho,hd⟩=>by
  have nch:c ∉ ch:=fun z=>(hch c z).2.2.1 x c e rfl
  by_cases hc:c ∈ X.fs
  ·obtain ⟨sl,q⟩:=slot c o (I.cne x c e) hc nch ho (I.freeC x c e)
   exact ⟨_,q,hd⟩
  ·exact ⟨o,keep c o (I.cne x c e) hc nch ho (I.freeC x c e),hd⟩
 refine ⟨I.ok,I.os,hg,⟨fun b o e n hb hx=>?_,fun b o e n hb hx=>?_,fun b o e n hx=>?_,fun b o e hx=>?_,fun b xs e=>tups b xs (I.base.tups b xs e),fun b o xs e=>frzs b o xs (I.base.frzs b o xs e),fun b ps e=>?_⟩,?_,fun x c e=>?_,?_,fun x c e=>?_,fun p hp=>?_,hok,I.len⟩
 ·exact keep b o (neL b o e) hb (neC b o e hx) (I.base.keep b o e n hb hx) (I.base.free b o e n hx)
 ·obtain ⟨sl,e1⟩:=I.base.slot b o e n hb hx
  obtain ⟨sl',e2⟩:=slot b _ (neL b o e) hb (neC b o e hx) e1 (I.base.free b o e n hx)
  exact ⟨sl',e2⟩
 ·obtain ⟨o',e1⟩:=I.base.there b o e hx
  exact free b o' (neC b o e hx) e1 (I.base.free b o e n hx)
 ·obtain ⟨o',e1⟩:=I.base.there b o e hx
  exact there b o' (neC b o e hx) e1
 ·obtain ⟨m1,e1⟩:=I.base.tbls b ps e
  obtain ⟨m2,e2⟩:=tbls b _ e1
  exact ⟨m1 ++ m2,by rw [e2,Array.append_assoc]⟩
 ·obtain ⟨m,hn,hl⟩:=I.loc
  refine ⟨m,ns m hn,fun i x v e1 e2 e3=>?_⟩
  obtain ⟨u,r,l⟩:=hl i x v e1 e2 e3
  refine ⟨u,r,?_⟩
  rcases l with l | ⟨k,c,e,z⟩
  ·exact .inl l
  ·exact .inr ⟨k,c,e,cellK x c e _ z⟩
 ·obtain ⟨v,z⟩:=I.cell x c e
  exact ⟨v,cellK x c e v z⟩
 ·obtain ⟨m,⟨o,_,_,ho,_⟩,_⟩:=I.loc
  exact free _ o (fun z=>(hch _ z).2.1 rfl) ho I.free
 ·obtain ⟨v,o,ho,hd⟩:=I.cell x c e
  exact free c o (fun z=>(hch c z).2.2.1 x c e rfl) ho (I.freeC x c e)
 ·obtain ⟨e,n,ne,nf,d⟩:=I.pin p hp
  have nch:p.1 ∉ ch:=fun z=>(hch p.1 z).2.2.2 p hp rfl
  exact ⟨keep p.1 p.2 ne nf nch e n,free p.1 p.2 nch e n,ne,nf,d⟩
theorem Inv.un {t':Nat} (I:Inv X pins σ H s) (u:Un X.fs [] H H' s.heap h') (hok:HOk X.prog X.w H' h'):Inv X pins σ H' { s with heap:=h',toks:=t' }:=by
 obtain ⟨m,⟨o,es,ep,ho,r⟩,_⟩:=id I.loc
 obtain ⟨sl,hL⟩:=u.any ho I.free (by simp)
 exact I.step (g':=s.gens) (d':=s.drawn) (ch:=[]) (fun _ z=>nomatch z) (fun b o _ hb _ e n=>u.keep b o e n hb (by simp)) (fun b o _ hb _ e n=>u.slot b o e n hb (by simp)) (fun b o _ e n=>u.free b o e n (by simp)) (fun b o _ e=>u.there b o e (by simp)) u.tups u.frzs u.tbls (fun m' hm=>by
  obtain ⟨o',es',ep',ho',r'⟩:=hm
  rw [ho] at ho'; cases ho'
  exact ⟨_,es',ep',hL,r'⟩) hok I.bare
theorem Inv.call {g':Array GenState} {t':Nat} {d':Drawn} {ch:List Addr} (I:Inv X pins σ H s) (u:Un (frs X.stack) ch H H' s.heap h') (hok:HOk X.prog X.w H' h') (hg:AllBare g')
  (hch:∀ b ∈ ch,(b ∈ X.ex∨X.s₀.heap.objs.size ≤ b)∧b ≠ X.env.locals∧(∀ x c,X.env.cells.lookup x = some c→c ≠ b)∧∀ p ∈ X.pn ++ pins,p.1 ≠ b) :
  Inv X pins σ H' { s with heap:=h',gens:=g',drawn:=d',toks:=t' }:=by
 obtain ⟨m,⟨o,es,ep,ho,r⟩,_⟩:=id I.loc
 obtain ⟨sl,hL⟩:=u.any ho I.free fun z=>(hch _ z).2.1 rfl
 exact I.step (ch:=ch) hch (fun b o hL hb hc e n=>u.keep b o e n (fun z=>(List.mem_cons.mp (I.stkSub b z)).elim hL hb) hc) (fun b o _ _ hc e n=>u.any e n hc) (fun b o hc e n=>u.free b o e n hc) (fun b o hc e=>u.there b o e hc) u.tups u.frzs u.tbls (fun m' hm=>by
  obtain ⟨o',es',ep',ho',r'⟩:=hm
  rw [ho] at ho'; cases ho'
  exact ⟨_,es',ep',hL,r'⟩) hok hg
theorem Inv.turned {t':Nat} {it:Addr} (I:Inv X pins σ H s) (k:∀ b o,b ≠ it→s.heap.get? b = some o→h'.get? b = some o) (hn:H it = none) (hL:it ≠ X.env.locals)
  (h1:it ∈ X.ex∨X.s₀.heap.objs.size ≤ it) (h2:∀ x c,X.env.cells.lookup x = some c→c ≠ it) (h3:∀ p ∈ X.pn ++ pins,p.1 ≠ it):Inv X pins σ H { s with heap:=h',toks:=t' }:=by
 have nit:∀ b u,H b = some u→b ≠ it:=fun b u e z=>by rw [z,hn] at e; cases e
 refine I.step (g':=s.gens) (d':=s.drawn) (ch:=[it]) (fun b hb=>?_) (fun b o _ _ hc e _=>k b o (fun z=>hc (by simp [z])) e) (fun b o _ _ hc e _=>⟨o.slots,k b o (fun z=>hc (by simp [z])) e⟩) (fun _ _ _ _ n=>n)
  (fun b o hc e=>⟨o,k b o (fun z=>hc (by simp [z])) e⟩) (fun _ _ e=>e) (fun _ _ _ e=>e) (fun b ps e=>⟨#[],by rw [e]; simp⟩) (fun m hm=>?_) (fun b u e=>?_) I.bare
 ·have e:b = it:=by simpa using hb
  subst e
  exact ⟨h1,hL,h2,h3⟩
 ·obtain ⟨o,es,ep,ho,r⟩:=hm
  exact ⟨o,es,ep,k _ o (Ne.symm hL) ho,r⟩
 ·refine (I.hok b u e).stay (fun c v hc q=>k c v ?_ q) (fun _ q=>q) fun _ _ q=>q
  rcases hc with z | z
  ·rw [z]; exact nit b u e
  ·exact nit c _ z
theorem Inv.tok (I:Inv X pins σ H s) (t:Nat):Inv X pins σ H { s with toks:=t }:=I.un (h':=s.heap) (t':=t) Un.refl I.hok
theorem Inv.kept {t':Nat} (I:Inv X pins σ H s) (k:∀ b u,s.heap.get? b = some u→h'.get? b = some u):Inv X pins σ H { s with heap:=h',toks:=t' }:=I.un (Un.kept k) (I.hok.kept k)
theorem Inv.laid {a:Addr} {o:HO} {t':Nat} (I:Inv X pins σ H s) (k:∀ b u,s.heap.get? b = some u→h'.get? b = some u) (hp:s.heap.objs.size ≤ a) (new:ObjOk X.prog X.w (upd H a o) h' a o) :
  Inv X pins σ (upd H a o) { s with heap:=h',toks:=t' }:=I.un (Un.laid k hp (I.hok.fresh hp)) (I.hok.laid k hp new)
theorem Inv.write {x e:Addr} {o:HO} {t':Nat} (I:Inv X pins σ H s) (mu:Mut (H x)) (he:e = x∨H e = some (.own x)) (k:∀ b u,b ≠ e→s.heap.get? b = some u→h'.get? b = some u) (heo:∃ u,h'.get? e = some u)
  (new:ObjOk X.prog X.w (upd H x o) h' x o):Inv X pins σ (upd H x o) { s with heap:=h',toks:=t' }:=I.un (Un.write mu he k heo) (I.hok.write mu he k heo new)
theorem Inv.pins_of {pins':List (Addr × Obj)} (I:Inv X pins σ H s) (h:∀ p ∈ pins',s.heap.get? p.1 = some p.2∧H p.1 = none∧p.1 ≠ X.env.locals∧p.1 ∉ X.fs∧∀ v,p.2.data ≠ .cell v):Inv X pins' σ H s :=
 ⟨I.ok,I.os,I.bare,I.base,I.loc,I.cell,I.free,I.freeC,fun p hp=>(List.mem_append.mp hp).elim (fun z=>I.pin p (List.mem_append_left _ z)) (h p),I.hok,I.len⟩
theorem nodup_ix {N:List Str} (hN:N.Nodup) {i j:Nat} {x:Str} (a:N[i]? = some x) (b:N[j]? = some x):i = j:=by
 obtain ⟨h1,e1⟩:=List.getElem?_eq_some_iff.mp a
 obtain ⟨h2,e2⟩:=List.getElem?_eq_some_iff.mp b
 exact (List.getElem_inj hN).mp (e1.trans e2.symm)
theorem store_ok2 {M:Model} {A:Around} {E:Value→Shared→Prop} {i:Nat} {x:Str} {v:V} {u:Value} {Q:Unit→Shared→Prop} (I:Inv X pins σ H s) (hN:X.N.Nodup) (hi:X.N[i]? = some x) (hx:Loc X.env.scope x) (r:RelV v u)
  (h:∀ s',Inv X pins (σ.set i (some v)) H s'→(∃ a,Heap.SameBut a s.heap s'.heap∧(a = X.env.locals∨X.env.cells.lookup x = some a))→Q () s') (hf:X.fn x = true∨X.env.scope.names.lookup x = some .local:=by first | exact .inl rfl | exact .inr rfl | assumption):wpAny M A (storeName X.env x u) Q E s:=by
 obtain ⟨m,hn,hl⟩:=id I.loc
 have hcls:(X.env.scope.kind == .class || (X.env.scope.kind == .module && X.env.locals != X.env.globals)) = false:=by rw [I.ok.kind]; rfl
 have hiσ:i < σ.length:=by rw [I.len]; exact (List.getElem?_eq_some_iff.mp hi).1
 have cne:=I.cne
 have tracked:∀ {a:Addr} {h':Heap},(∃ o,s.heap.get? a = some o∧H a = none)→Heap.SameBut a s.heap h'→HOk X.prog X.w H h':=fun {a h'} ha hs b ob e=>by
  obtain ⟨_,_,hfree⟩:=ha
  refine (I.hok b ob e).stay (fun c w' hc q=>(hs.2 c ?_).trans q) (fun _ q=>q) fun _ _ q=>q
  rintro rfl
  rcases hc with rfl | hc
  ·rw [hfree] at e; cases e
  ·rw [hfree] at hc; cases hc
 rcases hx with hk | hk
 ·refine wpAny_storeName_local hk hn (fun h' hn' hs=>?_) hcls
  obtain ⟨oL,_,_,hoL,_⟩:=id hn
  refine h _ ⟨I.ok,I.os,I.bare,⟨fun b o e n hb hx=>?_,fun b o e n hb hx=>?_,I.base.free,fun b o e hx=>?_,I.base.tups,I.base.frzs,I.base.tbls⟩,⟨_,hn',fun j y v' e1 e2 e3=>?_⟩,fun y c e=>?_,I.free,I.freeC,fun p hp=>?_,tracked ⟨oL,hoL,I.free⟩ hs,by simpa using I.len⟩ ⟨_,hs,.inl rfl⟩
  ·exact (hs.2 b (Nat.ne_of_lt (Nat.lt_of_lt_of_le (Heap.lt_size e) I.ok.above))).trans (I.base.keep b o e n hb hx)
  ·obtain ⟨sl,e1⟩:=I.base.slot b o e n hb hx
   exact ⟨sl,(hs.2 b (Nat.ne_of_lt (Nat.lt_of_lt_of_le (Heap.lt_size e) I.ok.above))).trans e1⟩
  ·obtain ⟨o',e1⟩:=I.base.there b o e hx
   exact ⟨o',(hs.2 b (Nat.ne_of_lt (Nat.lt_of_lt_of_le (Heap.lt_size e) I.ok.above))).trans e1⟩
  ·by_cases hj:j = i
   ·subst hj
    rw [hi] at e1; cases e1
    rw [List.getElem?_set_self hiσ] at e2
    cases e2
    exact ⟨u,r,.inl ⟨hk,by simp⟩⟩
   ·rw [List.getElem?_set_ne (Ne.symm hj)] at e2
    obtain ⟨u',r',q⟩:=hl j y v' e1 e2 e3
    refine ⟨u',r',?_⟩
    rcases q with ⟨k,e⟩ | ⟨k,c,e,z⟩
    ·refine .inl ⟨k,?_⟩
     have:y ≠ x:=fun e=>hj (nodup_ix hN e1 (e ▸ hi))
     simp [this,e]
    ·exact .inr ⟨k,c,e,z.sameBut hs (cne y c e)⟩
  ·obtain ⟨w',z⟩:=I.cell y c e
   exact ⟨w',z.sameBut hs (cne y c e)⟩
  ·obtain ⟨e,n,ne,nf,d⟩:=I.pin p hp
   exact ⟨(hs.2 p.1 ne).trans e,n,ne,nf,d⟩
 ·have hfn:X.fn x = true:=by
   rcases hf with z | z
   ·exact z
   ·rw [z] at hk; cases hk
  obtain ⟨c,hc⟩:=I.ok.has x (.inl hk)
  obtain ⟨w',z⟩:=I.cell x c hc
  refine wpAny_storeName_cell I.ok.kind hk hc z (fun h' hc' hs=>?_)
  obtain ⟨oc,hoc,hocd⟩:=id z
  refine h { s with heap:=h' } ⟨I.ok,I.os,I.bare,⟨fun b o e n hb hx=>?_,fun b o e n hb hx=>?_,I.base.free,fun b o e hx=>?_,I.base.tups,I.base.frzs,I.base.tbls⟩,⟨m,hn.sameBut hs (Ne.symm (cne x c hc)),fun j y v' e1 e2 e3=>?_⟩,fun y c' e=>?_,I.free,I.freeC,fun p hp=>?_,tracked ⟨oc,hoc,I.freeC x c hc⟩ hs,by simpa using I.len⟩ ⟨c,hs,.inr hc⟩
  ·exact (hs.2 b (Nat.ne_of_lt (Nat.lt_of_lt_of_le (Heap.lt_size e) (I.ok.cab x c hfn hc)))).trans (I.base.keep b o e n hb hx)
  ·obtain ⟨sl,e1⟩:=I.base.slot b o e n hb hx
   exact ⟨sl,(hs.2 b (Nat.ne_of_lt (Nat.lt_of_lt_of_le (Heap.lt_size e) (I.ok.cab x c hfn hc)))).trans e1⟩
  ·obtain ⟨o',e1⟩:=I.base.there b o e hx
   exact ⟨o',(hs.2 b (Nat.ne_of_lt (Nat.lt_of_lt_of_le (Heap.lt_size e) (I.ok.cab x c hfn hc)))).trans e1⟩
  ·by_cases hj:j = i
   ·subst hj
    rw [hi] at e1; cases e1
    rw [List.getElem?_set_self hiσ] at e2
    cases e2
    exact ⟨u,r,.inr ⟨.inl hk,c,hc,hc'⟩⟩
   ·rw [List.getElem?_set_ne (Ne.symm hj)] at e2
    obtain ⟨u',r',q⟩:=hl j y v' e1 e2 e3
    refine ⟨u',r',?_⟩
    rcases q with q | ⟨k,c',e,z'⟩
    ·exact .inl q
    ·refine .inr ⟨k,c',e,z'.sameBut hs ?_⟩
     rintro rfl
     exact hj (nodup_ix hN e1 (I.ok.inj _ _ _ e hc ▸ hi))
  ·by_cases hcc:c' = c
   ·subst hcc; exact ⟨_,hc'⟩
   ·obtain ⟨w2,z2⟩:=I.cell y c' e
    exact ⟨w2,z2.sameBut hs hcc⟩
  ·obtain ⟨e,n,ne,nf,d⟩:=I.pin p hp
   refine ⟨(hs.2 p.1 ?_).trans e,n,ne,nf,d⟩
   intro q
   rw [q,hoc] at e
   have q':oc = p.2:=Option.some.inj e
   exact d w' (by rw [← q']; exact hocd)
theorem store_ok {M:Model} {A:Around} {E:Value→Shared→Prop} {i:Nat} {x:Str} {v:V} {u:Value} {Q:Unit→Shared→Prop} (I:Inv X pins σ H s) (hN:X.N.Nodup) (hi:X.N[i]? = some x) (hx:Loc X.env.scope x) (r:RelV v u)
  (h:∀ s',Inv X pins (σ.set i (some v)) H s'→Q () s') (hf:X.fn x = true∨X.env.scope.names.lookup x = some .local:=by first | exact .inl rfl | exact .inr rfl | assumption):wpAny M A (storeName X.env x u) Q E s :=
 store_ok2 I hN hi hx r (fun s' I' _=>h s' I') hf
theorem Inv.call' {s':Shared} {ch:List Addr} (I:Inv X pins σ H s) (ho:s'.os = s.os) (u:Un (frs X.stack) ch H H' s.heap s'.heap) (hok:HOk X.prog X.w H' s'.heap) (hg:AllBare s'.gens)
  (hch:∀ b ∈ ch,(b ∈ X.ex∨X.s₀.heap.objs.size ≤ b)∧b ≠ X.env.locals∧(∀ x c,X.env.cells.lookup x = some c→c ≠ b)∧∀ p ∈ X.pn ++ pins,p.1 ≠ b):Inv X pins σ H' s':=by
 obtain ⟨h',g',d',t',o'⟩:=s'
 have e:o' = s.os:=ho
 subst e
 exact I.call (g':=g') (t':=t') (d':=d') u hok hg hch
end
abbrev XK:=Value→Option Addr→Hp→Prop
abbrev St:=List (Option V)
abbrev VK:=V→Hp→Prop
abbrev TE:=St→Hp→VK→Prop
abbrev TT:=St→Hp→(Bool→Hp→Prop)→Prop
abbrev TA:=St→Hp→(List V→Hp→Prop)→Prop
structure Ends where
 nx:St→Hp→Prop
 rt:VK
 bk:St→Hp→Prop:=fun _ _=>False
 ct:St→Hp→Prop:=fun _ _=>False
abbrev TS:=Ends→St→Hp→Prop
def EP (X:Cx) (pins:List (Addr × Obj)) (σ:St) (Q:VK) (u:Value) (s':Shared):Prop:=∃ v H',Inv X pins σ H' s'∧RelV v u∧Q v H'
def TP (X:Cx) (pins:List (Addr × Obj)) (σ:St) (Q:Bool→Hp→Prop) (b:Bool) (s':Shared):Prop:=∃ H',Inv X pins σ H' s'∧Q b H'
def AP (X:Cx) (pins:List (Addr × Obj)) (σ:St) (Q:List V→Hp→Prop) (us:List Value) (s':Shared):Prop:=∃ vs H',Inv X pins σ H' s'∧Vals vs us∧Q vs H'
def SP (X:Cx) (pins:List (Addr × Obj)) (D:Ends) (f:Flow) (s':Shared):Prop :=
 match f with
 | .next=>∃ σ' H',Inv X pins σ' H' s'∧D.nx σ' H'
 | .brk=>∃ σ' H',Inv X pins σ' H' s'∧D.bk σ' H'
 | .cont=>∃ σ' H',Inv X pins σ' H' s'∧D.ct σ' H'
 | .ret u=>∃ v σ' H',Inv X pins σ' H' s'∧RelV v u∧D.rt v H'
def PE (X:Cx) (e:Expr) (t:TE):Prop :=
 ∀ (pins:List (Addr × Obj)) (s:Shared) (σ:St) (H:Hp) (Q:VK),Inv X pins σ H s→t σ H Q→wpAny (model X.prog X.w) X.A (eval e X.env) (EP X pins σ Q) X.xe s
def PT (X:Cx) (e:Expr) (t:TT):Prop :=
 ∀ (pins:List (Addr × Obj)) (s:Shared) (σ:St) (H:Hp) (Q:Bool→Hp→Prop),Inv X pins σ H s→t σ H Q→wpAny (model X.prog X.w) X.A (isTrue e X.env (eval e X.env)) (TP X pins σ Q) X.xe s
def PW (X:Cx) (e:Expr) (t:TT):Prop :=
 ∀ (whole:Sem Value) (pins:List (Addr × Obj)) (s:Shared) (σ:St) (H:Hp) (Q:Bool→Hp→Prop),Inv X pins σ H s→t σ H Q→wpAny (model X.prog X.w) X.A (isTrue e X.env whole) (TP X pins σ Q) X.xe s
theorem PW.pt {X:Cx} {e:Expr} {t:TT} (h:PW X e t):PT X e t:=h _
def PA (X:Cx) (es:List Expr) (t:TA):Prop :=
 ∀ (pos:Pos) (pins:List (Addr × Obj)) (s:Shared) (σ:St) (H:Hp) (Q:List V→Hp→Prop),Inv X pins σ H s→t σ H Q→wpAny (model X.prog X.w) X.A (spliced (backTo pos (starEach es X.env))) (AP X pins σ Q) X.xe s
def PS (X:Cx) (st:Stmt) (t:TS):Prop :=
 ∀ (pins:List (Addr × Obj)) (s:Shared) (σ:St) (H:Hp) (D:Ends),Inv X pins σ H s→t D σ H→wpAny (model X.prog X.w) X.A (exec st X.env) (SP X pins D) X.xe s
def PSs (X:Cx) (st:List Stmt) (t:TS):Prop :=
 ∀ (pins:List (Addr × Obj)) (s:Shared) (σ:St) (H:Hp) (D:Ends),Inv X pins σ H s→t D σ H→wpAny (model X.prog X.w) X.A (execs st X.env) (SP X pins D) X.xe s
theorem thn {α:Type} {t:Sem α} {Q Q':α→Shared→Prop} {M:Model} {A:Around} {E:Value→Shared→Prop} {s:Shared} (h:wpAny M A t Q E s) (hQ:∀ a s,Q a s→Q' a s):wpAny M A t Q' E s:=wpAny_mono h hQ fun _ _ x=>x
end L2
namespace L2
open PySem PySem.Spec PyProof.Rows
section
variable {X:Cx}
def tVar (i:Nat):TE:=fun σ H Q=>∃ v,σ[i]? = some (some v)∧Q v H
def tC (v:V):TE:=fun _ H Q=>Q v H
theorem pe_var {i:Nat} {x:Str} {pos:Pos} (hN:X.N[i]? = some x) (hv:Vis X.env.scope x) (hd:(x == ("__debug__":Str)) = false:=by decide) (hcd:(x == ("__classdict__":Str)) = false:=by decide):PE X (.Name x pos) (tVar i):=by
 intro pins s σ H Q I h
 obtain ⟨v,e,h⟩:=h
 obtain ⟨m,hn,hl⟩:=I.loc
 obtain ⟨u,r,l⟩:=hl i x v hN e hv
 have fin:EP X pins σ Q u s:=⟨v,H,I,r,h⟩
 rcases l with ⟨hk,hm⟩ | ⟨hk,c,hc,hcell⟩
 ·exact wpAny_Name (wpAny_loadName_local I.ok.kind hk hn hm fin) hd
 ·rcases hk with hk | hk
  ·exact wpAny_Name (wpAny_loadName_cell I.ok.kind hk hc hcell fin) hd
  ·exact wpAny_Name (wpAny_loadName_free I.ok.kind hk hc hcell fin hcd) hd
theorem pe_int {i j pos}:PE X (.Constant (.int i) j pos) (tC (.int i)):=fun _ _ _ H _ I h=>wpAny_Constant_int ⟨.int i,H,I.tok _,⟨_,rfl⟩,h⟩
theorem pe_bl {b j pos}:PE X (.Constant (.bool b) j pos) (tC (.bl b)):=fun _ _ _ H _ I h=>Constant_bool ⟨.bl b,H,I,rfl,h⟩
theorem pe_non {j pos}:PE X (.Constant .none j pos) (tC .non):=fun _ _ _ H _ I h=>Constant_none ⟨.non,H,I,rfl,h⟩
theorem pe_str {x j pos}:PE X (.Constant (.str x) j pos) (tC (.str x)):=fun _ _ _ H _ I h=>Calls.Constant_str ⟨.str x,H,I.tok _,⟨_,rfl⟩,h⟩
def Gl (X:Cx) (x:Str):Prop:=X.env.kindOf x = some .globalImplicit
theorem ld_glob {E:Value→Shared→Prop} {pins:List (Addr × Obj)} {s:Shared} {σ:St} {H:Hp} {x:Str} {u:Value} {pos:Pos} {Q:Value→Shared→Prop} (I:Inv X pins σ H s) (hg:Gl X x) (hm:X.mg x = some u) (h:Q u s)
  (hd:(x == ("__debug__":Str)) = false:=by decide):wpAny (model X.prog X.w) X.A (eval (.Name x pos) X.env) Q E s :=
 Calls.Name_function_global I.ok.kind hg (Calls.loadGlobal_global (by rw [I.ok.glob]; exact I.mod.glob.keeps I.bk) hm h) hd
theorem ld_blt {E:Value→Shared→Prop} {pins:List (Addr × Obj)} {s:Shared} {σ:St} {H:Hp} {x:Str} {u:Value} {pos:Pos} {Q:Value→Shared→Prop} (I:Inv X pins σ H s) (hg:Gl X x) (hm:X.mg x = none) (hv:bootBuiltins x = some u) (h:Q u s)
  (hn:x ≠ "__name__":=by decide) (hd:(x == ("__debug__":Str)) = false:=by decide):wpAny (model X.prog X.w) X.A (eval (.Name x pos) X.env) Q E s:=by
 obtain ⟨mb,h1,h2⟩:=I.mod.blt
 exact Calls.Name_function_global I.ok.kind hg (Calls.loadGlobal_builtin (by rw [I.ok.glob]; exact I.mod.glob.keeps I.bk) hm (by rw [I.ok.blt]; exact h1.keeps I.bk) ((h2 x hn).trans hv) h) hd
theorem pe_glob {x:Str} {v:V} {u:Value} {pos:Pos} (hg:Gl X x) (hm:X.mg x = some u) (r:RelV v u) (hd:(x == ("__debug__":Str)) = false:=by decide):PE X (.Name x pos) (tC v) :=
 fun _ _ _ H _ I h=>ld_glob I hg hm ⟨v,H,I,r,h⟩ hd
theorem pe_bltn {x:Str} {v:V} {u:Value} {pos:Pos} (hg:Gl X x) (hm:X.mg x = none) (hv:bootBuiltins x = some u) (r:RelV v u) (hn:x ≠ "__name__":=by decide) (hd:(x == ("__debug__":Str)) = false:=by decide):PE X (.Name x pos) (tC v) :=
 fun _ _ _ H _ I h=>ld_blt I hg hm hv ⟨v,H,I,r,h⟩ hn hd
variable {a b:Expr} {ta tb:TE} {pos:Pos}
variable {tA tB':TT} {rest:List Expr}
def tAnd (t u:TT):TT:=fun σ H Q=>t σ H fun c H1=>if c = true then u σ H1 Q else Q false H1
def tOr (t u:TT):TT:=fun σ H Q=>t σ H fun c H1=>if c = true then Q true H1 else u σ H1 Q
def tNot (t:TT):TT:=fun σ H Q=>t σ H fun c H1=>Q (!c) H1
theorem pw_and1 (ha:PT X a tA):PW X (.BoolOp .And [a] pos) tA:=by
 intro wh pins s σ H Q I h
 refine isTrue_and (thn (ha pins s σ H Q I h) fun c s1 e=>?_)
 cases c with
 | true=>exact isTrue_and_nil e
 | false=>exact e
theorem pw_or1 (ha:PT X a tA):PW X (.BoolOp .Or [a] pos) tA:=by
 intro wh pins s σ H Q I h
 refine isTrue_or (thn (ha pins s σ H Q I h) fun c s1 e=>?_)
 cases c with
 | false=>exact isTrue_or_nil e
 | true=>exact e
theorem pw_and (ha:PT X a tA) (hb:PW X (.BoolOp .And (b :: rest) pos) tB'):PW X (.BoolOp .And (a :: b :: rest) pos) (tAnd tA tB'):=by
 intro wh pins s σ H Q I h
 refine isTrue_and (thn (ha pins s σ H _ I h) fun c s1 ⟨H1,I1,q1⟩=>?_)
 cases c with
 | true=>exact hb wh pins s1 σ H1 Q I1 q1
 | false=>exact ⟨H1,I1,q1⟩
theorem pw_or (ha:PT X a tA) (hb:PW X (.BoolOp .Or (b :: rest) pos) tB'):PW X (.BoolOp .Or (a :: b :: rest) pos) (tOr tA tB'):=by
 intro wh pins s σ H Q I h
 refine isTrue_or (thn (ha pins s σ H _ I h) fun c s1 ⟨H1,I1,q1⟩=>?_)
 cases c with
 | true=>exact ⟨H1,I1,q1⟩
 | false=>exact hb wh pins s1 σ H1 Q I1 q1
theorem pt_not (ha:PT X a tA):PT X (.UnaryOp .Not a pos) (tNot tA):=by
 intro pins s σ H Q I h
 exact isTrue_not (ha pins s σ H (fun c H1=>Q (!c) H1) I h)
def tAndV (ta tb:TE):TE:=fun σ H Q=>ta σ H fun x H1=>∃ c,x = .bl c∧if c = true then tb σ H1 Q else Q (.bl false) H1
def tNotV (ta:TE):TE:=fun σ H Q=>ta σ H fun x H1=>∃ c,x = .bl c∧Q (.bl (!c)) H1
theorem pe_one {op} {t:TE} (h:PE X a t):PE X (.BoolOp op [a] pos) t:=fun pins s σ H Q I hw=>BoolOp_one (h pins s σ H Q I hw)
theorem pe_and (ha:PE X a ta) (hb:PE X (.BoolOp .And (b :: rest) pos) tb):PE X (.BoolOp .And (a :: b :: rest) pos) (tAndV ta tb):=by
 intro pins s σ H Q I h
 refine BoolOp_and (thn (ha pins s σ H _ I h) fun v s1 ⟨x,H1,I1,r1,q1⟩=>?_)
 obtain ⟨c,rfl,q1⟩:=q1
 cases r1
 refine wpAny_truthy_bool ?_
 cases c with
 | true=>exact hb pins s1 σ H1 Q I1 q1
 | false=>exact ⟨.bl false,H1,I1,rfl,q1⟩
theorem pe_not (ha:PE X a ta):PE X (.UnaryOp .Not a pos) (tNotV ta):=by
 intro pins s σ H Q I h
 refine UnaryOp_ (thn (ha pins s σ H _ I h) fun v s1 ⟨x,H1,I1,r1,q1⟩=>?_)
 obtain ⟨c,rfl,q1⟩:=q1
 cases r1
 exact not_of (wpAny_truthy_bool ⟨.bl (!c),H1,I1,rfl,q1⟩)
def tIf (t:TT) (ta tb:TE):TE:=fun σ H Q=>t σ H fun c H1=>if c = true then ta σ H1 Q else tb σ H1 Q
theorem pe_ifExp {c:Expr} (hc:PT X c tA) (ha:PE X a ta) (hb:PE X b tb):PE X (.IfExp c a b pos) (tIf tA ta tb):=by
 intro pins s σ H Q I h
 refine wpAny_IfExp (thn (hc pins s σ H _ I h) fun d s1 ⟨H1,I1,q1⟩=>?_)
 cases d with
 | true=>exact ha pins s1 σ H1 Q I1 q1
 | false=>exact hb pins s1 σ H1 Q I1 q1
end
end L2
namespace L2
open PySem PySem.Spec PyProof.Rows
def SqL (K:PySem.W.Frag) (H:Hp) (a:Addr) (xs:List V):Prop :=
 Rd H a (.lst xs) ∨
  ∃ (o:Obj) (its:Array Value) (n:Nat),K.lookup a = some o∧o.cls = .type "list"∧o.dict = none∧o.data = .seq its n∧its.size ≤ sizeLine∧Vals xs its.toList
def SqT (K:PySem.W.Frag) (H:Hp) (a:Addr) (xs:List V):Prop :=
 Rd H a (.tup xs) ∨
  ∃ (o:Obj) (its:Array Value) (n:Nat),K.lookup a = some o∧o.cls = .type "tuple"∧o.data = .seq its n∧its.size ≤ sizeLine∧Vals xs its.toList
def absV:Value→Option V
 | .none=>some .non
 | .bool b=>some (.bl b)
 | .int i _=>some (.int i)
 | .str x _=>some (.str x)
 | .bytes b _=>some (.byt b)
 | .float b _=>some (.flt b)
 | .ref a=>some (.ref a)
 | .type n=>some (.ty n)
 | _=>none
theorem RelV.abs {x:V} {u:Value} (r:RelV x u):absV u = some x:=by
 cases x with
 | non=>cases r; rfl
 | bl _=>cases r; rfl
 | int _=>obtain ⟨t,rfl⟩:=r; rfl
 | str _=>obtain ⟨t,rfl⟩:=r; rfl
 | byt _=>obtain ⟨t,rfl⟩:=r; rfl
 | flt _=>obtain ⟨t,rfl⟩:=r; rfl
 | ref _=>cases r; rfl
 | ty _=>cases r; rfl
theorem RelV.inj {x y:V} {u:Value} (r:RelV x u) (q:RelV y u):x = y:=Option.some.inj (r.abs.symm.trans q.abs)
theorem Vals.inj:∀ {xs ys:List V} {us:List Value},Vals xs us→Vals ys us→xs = ys
 | _,_,_,.nil,.nil=>rfl
 | _,_,_,.cons r t,.cons r' t'=>by rw [r.inj r',Vals.inj t t']
section
variable {X:Cx} {pins:List (Addr × Obj)} {σ:St} {H:Hp} {s:Shared} {a:Addr} {xs ys:List V}
theorem SqL.of {K:PySem.W.Frag} (h:H a = some (.lst xs)):SqL K H a xs:=.inl (.inl h)
theorem SqT.of {K:PySem.W.Frag} (h:H a = some (.tup xs)):SqT K H a xs:=.inl (.inl h)
theorem Inv.list (I:Inv X pins σ H s) (h:SqL X.K H a xs):∃ its:List Value,Vals xs its∧PlainL s.heap a its.toArray∧xs.length ≤ sizeLine:=by
 rcases h with h | ⟨o,its,n,hk,hc,hd,hs,hz,r⟩
 ·obtain ⟨z,its,n,r,e⟩:=h.ok I.hok
  exact ⟨its,r,⟨_,n,e,rfl,rfl,rfl⟩,z⟩
 ·refine ⟨its.toList,r,⟨o,n,I.kIn a o hk,hc,hd,by simpa using hs⟩,?_⟩
  have e:=r.length
  simp only [Array.length_toList] at e
  omega
theorem Inv.tuple (I:Inv X pins σ H s) (h:SqT X.K H a xs):∃ its:List Value,Vals xs its∧IsTup s.heap a its.toArray∧xs.length ≤ sizeLine:=by
 rcases h with h | ⟨o,its,n,hk,hc,hs,hz,r⟩
 ·obtain ⟨z,its,r,p⟩:=h.ok I.hok
  exact ⟨its,r,p,z.1⟩
 ·refine ⟨its.toList,r,⟨o,I.kIn a o hk,hc,n,by simpa using hs⟩,?_⟩
  have e:=r.length
  simp only [Array.length_toList] at e
  omega
theorem Inv.list_inj (I:Inv X pins σ H s) (h:SqL X.K H a xs) (h':SqL X.K H a ys):xs = ys:=by
 obtain ⟨its,r,⟨o,n,e,_,_,d⟩,_⟩:=I.list h
 obtain ⟨its',r',⟨o',n',e',_,_,d'⟩,_⟩:=I.list h'
 rw [e] at e'; cases e'
 rw [d] at d'
 injection d' with d1 _
 have:its = its':=by simpa using congrArg Array.toList d1
 subst this
 exact r.inj r'
theorem Inv.tuple_inj (I:Inv X pins σ H s) (h:SqT X.K H a xs) (h':SqT X.K H a ys):xs = ys:=by
 obtain ⟨its,r,⟨o,e,_,n,d⟩,_⟩:=I.tuple h
 obtain ⟨its',r',⟨o',e',_,n',d'⟩,_⟩:=I.tuple h'
 rw [e] at e'; cases e'
 rw [d] at d'
 injection d' with d1 _
 have:its = its':=by simpa using congrArg Array.toList d1
 subst this
 exact r.inj r'
end
abbrev Cx.wish (X:Cx) (E:Value→Shared→Prop):Cx:={ X with xe:=E }
abbrev Cx.nox (X:Cx):Cx:=X.wish fun _ _=>False
theorem Cx.Ok.wish {X:Cx} (ok:X.Ok) (E:Value→Shared→Prop):(X.wish E).Ok :=
 ⟨ok.mod,ok.kind,ok.glob,ok.blt,ok.above,ok.inj,ok.has,ok.cab,ok.hd,ok.frames,ok.stk,ok.exf,ok.bs,ok.bsz,ok.noex,ok.exfs,ok.funs,ok.frf⟩
theorem Cx.Ok.unwish {X:Cx} {E:Value→Shared→Prop} (ok:(X.wish E).Ok):X.Ok :=
 ⟨ok.mod,ok.kind,ok.glob,ok.blt,ok.above,ok.inj,ok.has,ok.cab,ok.hd,ok.frames,ok.stk,ok.exf,ok.bs,ok.bsz,ok.noex,ok.exfs,ok.funs,ok.frf⟩
section
variable {X:Cx} {pins:List (Addr × Obj)} {σ:St} {H:Hp} {s:Shared} {E:Value→Shared→Prop}
theorem Inv.wish (I:Inv X pins σ H s) (E:Value→Shared→Prop):Inv (X.wish E) pins σ H s:=⟨I.ok.wish E,I.os,I.bare,I.base,I.loc,I.cell,I.free,I.freeC,I.pin,I.hok,I.len⟩
theorem Inv.unwish (I:Inv (X.wish E) pins σ H s):Inv X pins σ H s:=⟨I.ok.unwish,I.os,I.bare,I.base,I.loc,I.cell,I.free,I.freeC,I.pin,I.hok,I.len⟩
theorem SP.unwish {D:Ends} {f:Flow} {s':Shared} (h:SP (X.wish E) pins D f s'):SP X pins D f s':=by
 cases f with
 | next=>obtain ⟨σ',H',I,q⟩:=h; exact ⟨σ',H',I.unwish,q⟩
 | brk=>obtain ⟨σ',H',I,q⟩:=h; exact ⟨σ',H',I.unwish,q⟩
 | cont=>obtain ⟨σ',H',I,q⟩:=h; exact ⟨σ',H',I.unwish,q⟩
 | ret u=>obtain ⟨v,σ',H',I,r,q⟩:=h; exact ⟨v,σ',H',I.unwish,r,q⟩
theorem PSs.nox {st:List Stmt} {t:TS} (h:PSs X.nox st t):PSs X st t:=fun pins s σ H D I hw =>
 wpAny_mono (h pins s σ H D (I.wish _) hw) (fun _ _ q=>q.unwish) fun _ _ z=>False.elim z
end
section
variable {X:Cx} {st:Stmt} {rest:List Stmt} {t u:TS} {e:Expr} {te:TE} {pos:Pos}
def tNext:TS:=fun D σ H=>D.nx σ H
def tSeq (t u:TS):TS:=fun D σ H=>t { D with nx:=u D } σ H
theorem pss_nil:PSs X [] tNext:=fun _ _ σ H _ I h=>wpAny_execs_nil ⟨σ,H,I,h⟩
theorem pss_cons (h1:PS X st t) (h2:PSs X rest u):PSs X (st :: rest) (tSeq t u):=by
 intro pins s σ H D I h
 refine wpAny_execs_cons (thn (h1 pins s σ H { D with nx:=u D } I h) fun f s1 q=>?_)
 cases f with
 | next =>
  obtain ⟨σ',H',I',q⟩:=q
  exact h2 pins s1 σ' H' D I' q
 | ret v=>exact q
 | brk=>exact q
 | cont=>exact q
theorem pss_one (h1:PS X st t):PSs X [st] t:=by
 intro pins s σ H D I h
 refine wpAny_execs_cons (thn (h1 pins s σ H D I h) fun f s1 q=>?_)
 cases f with
 | next=>exact wpAny_execs_nil q
 | ret v=>exact q
 | brk=>exact q
 | cont=>exact q
theorem Inv.quiet {pins:List (Addr × Obj)} {σ:St} {H:Hp} {s:Shared} (I:Inv X pins σ H s):interactive X.env = false:=by simp [interactive,I.ok.kind]
def tDrop (te:TE):TS:=fun D σ H=>te σ H fun _ H1=>D.nx σ H1
theorem ps_expr (he:PE X e te) (hs:swapsWith e none pos.line X.env = pure false:=by rfl):PS X (.Expr e pos) (tDrop te):=by
 intro pins s σ H D I h
 exact wpAny_Expr_any (thn (he pins s σ H _ I h) fun v s1 ⟨x,H1,I1,r1,q1⟩=>⟨σ,H1,I1,q1⟩) I.quiet hs
def tRet (te:TE):TS:=fun D σ H=>te σ H D.rt
theorem ps_ret (he:PE X e te):PS X (.Return (some e) pos) (tRet te):=by
 intro pins s σ H D I h
 exact wpAny_Return_some (thn (he pins s σ H _ I h) fun v s1 ⟨x,H1,I1,r1,q1⟩=>⟨x,σ,H1,I1,r1,q1⟩)
def tIfS (c:TT) (t u:TS):TS:=fun D σ H=>c σ H fun b H1=>if b = true then t D σ H1 else u D σ H1
theorem ps_if {c:Expr} {a b:List Stmt} {tc:TT} (hc:PT X c tc) (ha:PSs X a t) (hb:PSs X b u):PS X (.If c a b pos) (tIfS tc t u):=by
 intro pins s σ H D I h
 refine wpAny_If (thn (hc pins s σ H _ I h) fun d s1 ⟨H1,I1,q1⟩=>?_)
 cases d with
 | true=>exact ha pins s1 σ H1 D I1 q1
 | false=>exact hb pins s1 σ H1 D I1 q1
def tNever:TS:=fun _ _ _=>False
theorem ps_never:PS X st tNever:=fun _ _ _ _ _ _ h=>h.elim
end
abbrev TG:=V→St→Hp→(St→Hp→Prop)→Prop
abbrev TGs:=List V→St→Hp→(St→Hp→Prop)→Prop
def PG (X:Cx) (target:Expr) (t:TG):Prop :=
 ∀ (pins:List (Addr × Obj)) (s:Shared) (σ:St) (H:Hp) (v:V) (u:Value) (Q:St→Hp→Prop),Inv X pins σ H s→RelV v u→t v σ H Q →
  wpAny (model X.prog X.w) X.A (assign target X.env u) (fun _ s'=>∃ σ' H',Inv X pins σ' H' s'∧Q σ' H') X.xe s
def PGs (X:Cx) (ts:List Expr) (t:TGs):Prop :=
 ∀ (pins:List (Addr × Obj)) (s:Shared) (σ:St) (H:Hp) (vs:List V) (us:List Value) (Q:St→Hp→Prop),Inv X pins σ H s→Vals vs us→t vs σ H Q →
  wpAny (model X.prog X.w) X.A (assignInOrder ((assignEach ts X.env).map (·.2)) us) (fun _ s'=>∃ σ' H',Inv X pins σ' H' s'∧Q σ' H') X.xe s
abbrev TSet:=V→V→V→Hp→(Hp→Prop)→Prop
def PSet (X:Cx) (t:TSet):Prop :=
 ∀ (pins:List (Addr × Obj)) (s:Shared) (σ:St) (H:Hp) (o i v:V) (ov iv u:Value) (Q:Hp→Prop),Inv X pins σ H s→RelV o ov→RelV i iv→RelV v u→t o i v H Q →
  wpAny (model X.prog X.w) X.A (setItem ov iv u) (fun _ s'=>∃ H',Inv X pins σ H' s'∧Q H') X.xe s
section
variable {X:Cx} {pos:Pos}
def gName (i:Nat):TG:=fun v σ H Q=>Q (σ.set i (some v)) H
theorem pg_name {i:Nat} {x:Str} (hN:X.N.Nodup) (hi:X.N[i]? = some x) (hx:Loc X.env.scope x) (hf:X.fn x = true∨X.env.scope.names.lookup x = some .local:=by first | exact .inl rfl | exact .inr rfl | assumption):PG X (.Name x pos) (gName i):=by
 intro pins s σ H v u Q I r h
 exact wpAny_assign_Name (store_ok I hN hi hx r (fun s' I'=>⟨_,H,I',h⟩) hf)
def gNil:TGs:=fun vs σ H Q=>vs = []∧Q σ H
def gCons (t:TG) (u:TGs):TGs:=fun vs σ H Q=>∃ v r,vs = v :: r∧t v σ H fun σ' H'=>u r σ' H' Q
theorem pgs_nil:PGs X [] gNil:=by
 intro pins s σ H vs us Q I r h
 obtain ⟨e,h⟩:=h
 subst e
 cases r
 exact assignInOrder_nil ⟨σ,H,I,h⟩
theorem pgs_cons {e:Expr} {es:List Expr} {t:TG} {u:TGs} (h1:PG X e t) (h2:PGs X es u)
  (hs:(assignEach (e :: es) X.env).map (·.2) = assign e X.env :: (assignEach es X.env).map (·.2):=by rfl):PGs X (e :: es) (gCons t u):=by
 intro pins s σ H vs us Q I r h
 obtain ⟨v,vr,e1,h⟩:=h
 subst e1
 cases r with
 | cons r rr =>
  rw [hs]
  refine assignInOrder_cons (thn (h1 pins s σ H _ _ _ I r h) fun _ s1 ⟨σ1,H1,I1,q1⟩=>?_)
  exact h2 pins s1 σ1 H1 _ _ Q I1 rr q1
def gTup (K:PySem.W.Frag) (n:Nat) (t:TGs):TG:=fun v σ H Q=>∃ a xs,v = .ref a∧SqT K H a xs∧xs.length = n∧t xs σ H Q
theorem pg_tup {es:List Expr} {k:Nat} {t:TGs} {n:Nat} (hc:X.calm = true) (h:PGs X es t)
  (hn:(assignEach es X.env).length = n:=by rfl) (hst:(assignEach es X.env).findIdx? (·.1) = none:=by rfl):PG X (.Tuple es k pos) (gTup X.K n t):=by
 intro pins s σ H v u Q I r hw
 obtain ⟨a,xs,e1,hq,hl,hw⟩:=hw
 subst e1
 cases r
 obtain ⟨its,rv,ht,hz⟩:=I.tuple hq
 refine assign_Tuple_tuple (I.ok.hd hc) ht (by simp [hn,← hl,rv.length]) hst fun h' hx=>?_
 have I1:Inv X pins σ H { s with heap:=h' }:=I.kept (t':=s.toks) fun b o e=>hx b o (Nat.ne_of_lt (Heap.lt_size e)) e
 exact h pins _ σ H xs _ Q I1 (by simpa using rv) hw
def gSub (to ti:TE) (t:TSet):TG:=fun v σ H Q=>to σ H fun o H1=>ti σ H1 fun i H2=>t o i v H2 fun H3=>Q σ H3
theorem pg_sub {o i:Expr} {to ti:TE} {t:TSet} (ho:PE X o to) (hi:PE X i ti) (hs:PSet X t)
  (ha:∀ v,assign (.Subscript o i pos) X.env v = (do
   let ov ← holding [v] (eval o X.env)
   let iv ← holding [v,ov] (eval i X.env)
   standAt pos
   holding [v,ov,iv] (setItem ov iv v)
   release [v,ov,iv] []):=by intro _; rfl):PG X (.Subscript o i pos) (gSub to ti t):=by
 intro pins s σ H v u Q I r h
 rw [ha]
 refine wpAny_bind (wpAny_holding (thn (ho pins s σ H _ I h) fun ov s1 ⟨x,H1,I1,r1,q1⟩=>?_))
 refine wpAny_bind (wpAny_holding (thn (hi pins s1 σ H1 _ I1 q1) fun iv s2 ⟨y,H2,I2,r2,q2⟩=>?_))
 refine wpAny_bind (wpAny_standAt (wpAny_bind (wpAny_holding (thn (hs pins s2 σ H2 x y v ov iv u _ I2 r1 r2 r q2) fun _ s3 ⟨H3,I3,q3⟩=>?_))))
 exact wpAny_release ⟨σ,H3,I3,q3⟩
def tAsg (te:TE) (g:TG):TS:=fun D σ H=>te σ H fun x H1=>g x σ H1 D.nx
theorem ps_asg {tg e:Expr} {te:TE} {g:TG} (he:PE X e te) (hg:PG X tg g) (hs:swapsWithSole [tg] e pos.line X.env = pure false:=by rfl) (hw:swappedStores [tg] e X.env = pure none:=by rfl)
  (h1:(assignEach [tg] X.env).map (·.2) = [assign tg X.env]:=by rfl):PS X (.Assign [tg] e pos) (tAsg te g):=by
 intro pins s σ H D I h
 refine wpAny_Assign_stores (thn (he pins s σ H _ I h) fun v s1 ⟨x,H1,I1,r1,q1⟩=>?_) hs hw
 rw [h1]
 exact thn (hg pins s1 σ H1 x v _ I1 r1 q1) fun _ s2 q=>q
theorem ps_set {i:Nat} {x:Str} {e:Expr} {te:TE} {pos':Pos} (hN:X.N.Nodup) (hi:X.N[i]? = some x) (hx:Loc X.env.scope x) (he:PE X e te) (hs:swapsWith e (some (.Name x pos')) pos.line X.env = pure false:=by rfl) (hf:X.fn x = true∨X.env.scope.names.lookup x = some .local:=by first | exact .inl rfl | exact .inr rfl | assumption) :
  PS X (.Assign [.Name x pos'] e pos) (tAsg te (gName i)):=by
 intro pins s σ H D I h
 refine wpAny_Assign_Name (thn (he pins s σ H _ I h) fun v s1 ⟨y,H1,I1,r1,q1⟩=>?_) hs
 exact store_ok I1 hN hi hx r1 (fun s2 I2=>⟨_,H1,I2,q1⟩) hf
end
section
variable {X:Cx} {pos:Pos}
def tWhile (c:TT) (tb:TS):TS:=fun D σ H=>∃ W:Nat→St→Hp→Prop,(∃ m,W m σ H)∧∀ m σ H,W m σ H →
 c σ H fun b H1=>if b = true then ∃ N:St→Hp→Prop,(∀ σ' H',N σ' H'→∃ m',m' < m∧W m' σ' H')∧tb { D with nx:=N,ct:=N,bk:=D.nx } σ H1 else D.nx σ H1
theorem ps_while {c:Expr} {body:List Stmt} {tc:TT} {tb:TS} (hp:PassesOwn (model X.prog X.w) X.A X.env X.xe) (hc:PT X c tc) (hb:PSs X body tb):PS X (.While c body [] pos) (tWhile tc tb):=by
 intro pins s σ H D I h
 obtain ⟨W,⟨m0,w0⟩,turn⟩:=h
 refine wpAny_While (codeAny_whileLoop (fun n s'=>∃ σ' H',Inv X pins σ' H' s'∧W n σ' H') ?_ m0 ⟨σ,H,I,w0⟩)
 rintro n s1 ⟨σ1,H1,I1,w1⟩
 refine wpAny_passesOwn hp (thn (hc pins s1 σ1 H1 _ I1 (turn n σ1 H1 w1)) fun b s2 ⟨H2,I2,q2⟩=>?_)
 cases b with
 | true =>
  obtain ⟨N,hN,q2⟩:=q2
  rw [if_pos rfl]
  refine wpAny_passesOwn hp (thn (hb pins s2 σ1 H2 _ I2 q2) fun f s3 q3=>?_)
  cases f with
  | next =>
   obtain ⟨σ3,H3,I3,n3⟩:=q3
   obtain ⟨m',hm,w3⟩:=hN σ3 H3 n3
   exact ⟨m',hm,σ3,H3,I3,w3⟩
  | cont =>
   obtain ⟨σ3,H3,I3,n3⟩:=q3
   obtain ⟨m',hm,w3⟩:=hN σ3 H3 n3
   exact ⟨m',hm,σ3,H3,I3,w3⟩
  | brk=>exact q3
  | ret v=>exact q3
 | false =>
  rw [if_neg Bool.false_ne_true]
  exact wpAny_execs_nil ⟨σ1,H2,I2,q2⟩
end
structure It where
 go:Nat→Hp→Prop
 yld:Nat→Hp→V→Hp→Prop
 stop:Nat→Hp→Prop
def FpOk (X:Cx) (pins:List (Addr × Obj)) (H:Hp) (b:Addr):Prop :=
 H b = none∧b ≠ X.env.locals∧b ∉ X.fs∧(b ∈ X.ex∨X.s₀.heap.objs.size ≤ b)∧(∀ x c,X.env.cells.lookup x = some c→c ≠ b)∧∀ p ∈ X.pn ++ pins,p.1 ≠ b
theorem Inv.fpOk {X:Cx} {pins:List (Addr × Obj)} {σ:St} {H H':Hp} {s:Shared} {b:Addr} (I:Inv X pins σ H s) (hb:s.heap.objs.size ≤ b) (hn:H' b = none):FpOk X pins H' b:=by
 refine ⟨hn,Nat.ne_of_gt (Nat.lt_of_lt_of_le I.lt hb),I.nofs hb,.inr (Nat.le_trans I.sz hb),fun x c e z=>?_,fun p hp z=>?_⟩
 ·obtain ⟨v,q⟩:=I.cell x c e
  exact absurd (Nat.lt_of_lt_of_le q.lt (by rw [z]; exact hb)) (Nat.lt_irrefl _)
 ·exact absurd (Nat.lt_of_lt_of_le (Heap.lt_size (I.pin p hp).1) (by rw [z]; exact hb)) (Nat.lt_irrefl _)
structure Turn (P:Program) (w:World) (K:PySem.W.Frag) (tg:Expr) (J:It) (fp:List Addr) (it:Addr) (tn:Nat→Heap→Prop):Prop where
 mem:it ∈ fp
 obj:∀ i h,tn i h→∀ b ∈ fp,∃ o,h.get? b = some o∧∀ v,o.data ≠ .cell v
 keep:∀ i h h',tn i h→(∀ b ∈ fp,∀ o,h.get? b = some o→h'.get? b = some o)→tn i h'
 item:∀ (X:Cx),X.prog = P→X.w = w→X.K = K→X.calm = true→∀ (i:Nat) (pins:List (Addr × Obj)) (s:Shared) (σ:St) (H:Hp) (E:Value→Shared→Prop),Inv X pins σ H s→(∀ b ∈ fp,FpOk X pins H b)→tn i s.heap→J.go i H →
  wpAny (model P w) X.A (pyNext (.ref it)) (fun r s1=>∃ u,r = some u ∧
   wpAny (model P w) X.A (letOwnedTupleGo tg (.ref it) u) (fun _ s2=>∃ x H',Inv X pins σ H' s2∧RelV x u∧J.yld i H x H'∧tn (i + 1) s2.heap∧∀ b ∈ fp,H' b = none) E s1) E s
 done:∀ (X:Cx),X.prog = P→X.w = w→X.K = K→X.calm = true→∀ (i:Nat) (pins:List (Addr × Obj)) (s:Shared) (σ:St) (H:Hp) (E:Value→Shared→Prop),Inv X pins σ H s→(∀ b ∈ fp,FpOk X pins H b)→tn i s.heap→J.stop i H →
  wpAny (model P w) X.A (pyNext (.ref it)) (fun r s1=>r = none∧Inv X pins σ H s1) E s
 self:∀ (A:Around) (i:Nat) (s:Shared) (Q:Value→Shared→Prop) (E:Value→Shared→Prop),tn i s.heap→Q (.ref it) s→wpAny (model P w) A (pyIter (.ref it)) Q E s
abbrev TI:=St→Hp→(It→Hp→Prop)→Prop
def PIE (X:Cx) (pins:List (Addr × Obj)) (σ:St) (tg:Expr) (R:It→Hp→Prop) (itv:Value) (s2:Shared):Prop :=
 ∃ (it:Addr) (fp:List Addr) (tn:Nat→Heap→Prop) (J:It) (H':Hp),itv = .ref it∧Inv X pins σ H' s2∧Turn X.prog X.w X.K tg J fp it tn∧tn 0 s2.heap∧(∀ b ∈ fp,FpOk X pins H' b)∧R J H'
def PI (X:Cx) (tg iter:Expr) (wi:TI):Prop :=
 ∀ (pins:List (Addr × Obj)) (s:Shared) (σ:St) (H:Hp) (R:It→Hp→Prop),Inv X pins σ H s→wi σ H R →
  wpAny (model X.prog X.w) X.A (eval iter X.env) (fun v s1=>wpAny (model X.prog X.w) X.A (pyIter v) (PIE X pins σ tg R) X.xe s1) X.xe s
theorem go_of {M:Model} {A:Around} {E:Value→Shared→Prop} {s:Shared} {tg:Expr} {it:Addr} {u:Value} {o:Obj} {n:String} {vs:Array Value} {Q:Unit→Shared→Prop} (ho:s.heap.get? it = some o) (hc:o.cls = .type n) (hd:o.data = .fields vs)
    (hn:["enumerate","zip","dict_itemiterator","dict_reverseitemiterator","odict_iterator","itertools.zip_longest","itertools.pairwise"].contains n = false) (hQ:Q () s):wpAny M A (letOwnedTupleGo tg (.ref it) u) Q E s:=by
  unfold letOwnedTupleGo
  cases tg <;> first
    | exact wpAny_pure hQ
    | (cases u <;> first
        | exact wpAny_pure hQ
        | (refine wpAny_bind (wpAny_load ho ?_)
           rw [hc,hd]
           show wpAny M A (if (["enumerate","zip","dict_itemiterator","dict_reverseitemiterator","odict_iterator","itertools.zip_longest","itertools.pairwise"].contains n && vs[0]? == some (rawInt _)) = true then _ else _) Q E s
           rw [if_neg (by intro h; rw [hn,Bool.false_and] at h; cases h)]
           exact wpAny_pure hQ))
def Itl (K:PySem.W.Frag) (a:Addr):It :=
 ⟨fun i H=>∃ xs x,SqL K H a xs∧xs[i]? = some x,fun i H x H'=>H' = H∧∀ xs,SqL K H a xs→xs[i]? = some x,fun i H=>∃ xs,SqL K H a xs∧xs.length ≤ i⟩
def Itt (K:PySem.W.Frag) (a:Addr):It :=
 ⟨fun i H=>∃ xs x,SqT K H a xs∧xs[i]? = some x,fun i H x H'=>H' = H∧∀ xs,SqT K H a xs→xs[i]? = some x,fun i H=>∃ xs,SqT K H a xs∧xs.length ≤ i⟩
def Itr (lo:Int) (n:Nat):It:=⟨fun i _=>i < n,fun i H x H'=>H' = H∧x = .int (lo + i),fun i _=>n ≤ i⟩
theorem turn_list {P:Program} {w:World} {K:PySem.W.Frag} {tg:Expr} (a it:Addr):Turn P w K tg (Itl K a) [it] it (fun i h=>h.IsListIter it a i) where
 mem:=by simp
 obj:=fun i h st b hb=>by
  have e:b = it:=by simpa using hb
  subst e
  obtain ⟨o,e,c,d⟩:=st
  exact ⟨o,e,fun v z=>by rw [d] at z; cases z⟩
 keep:=fun i h h' st k=>st.at fun o e=>k it (by simp) o e
 item:=by
  intro X hP hw hK hc i pins s σ H E I hf st hg
  subst hP hw hK
  obtain ⟨xs,x,hq,hx⟩:=hg
  obtain ⟨its,rv,p,hz⟩:=I.list hq
  obtain ⟨u,hu,ru⟩:=rv.get hx
  obtain ⟨f0,f1,f2,f3,f4,f5⟩:=hf it (by simp)
  refine wpAny_pyNext_list_item st p.isList (x:=u) (by simpa using hu) fun h' st' sb=>?_
  have I1:Inv X pins σ H { s with heap:=h' }:=I.turned (t':=s.toks) (fun b o hb e=>(sb.2 b hb).trans e) f0 f1 f3 f4 f5
  obtain ⟨o,e,c,d⟩:=id st'
  exact ⟨u,rfl,go_of (s:={ s with heap:=h' }) e c d (by decide) ⟨x,H,I1,ru,⟨rfl,fun ys hy=>by rw [I.list_inj hy hq]; exact hx⟩,st',fun b hb=>(hf b hb).1⟩⟩
 done:=by
  intro X hP hw hK hc i pins s σ H E I hf st hg
  subst hP hw hK
  obtain ⟨xs,hq,hx⟩:=hg
  obtain ⟨its,rv,p,hz⟩:=I.list hq
  obtain ⟨f0,f1,f2,f3,f4,f5⟩:=hf it (by simp)
  have hl:=rv.length
  exact wpAny_pyNext_list_end (I.ok.hd hc) st p.isList (by simp; omega) fun h' eb=>⟨rfl,I.turned (t':=s.toks) (fun b o hb e=>eb b o hb e) f0 f1 f3 f4 f5⟩
 self:=fun _ _ _ _ _ st h=>wpAny_pyIter_listiter st h
theorem turn_tuple {P:Program} {w:World} {K:PySem.W.Frag} {tg:Expr} (a it:Addr):Turn P w K tg (Itt K a) [it] it (fun i h=>h.IsTupleIter it a i) where
 mem:=by simp
 obj:=fun i h st b hb=>by
  have e:b = it:=by simpa using hb
  subst e
  obtain ⟨o,e,c,d⟩:=st
  exact ⟨o,e,fun v z=>by rw [d] at z; cases z⟩
 keep:=fun i h h' st k=>st.at fun o e=>k it (by simp) o e
 item:=by
  intro X hP hw hK hc i pins s σ H E I hf st hg
  subst hP hw hK
  obtain ⟨xs,x,hq,hx⟩:=hg
  obtain ⟨its,rv,p,hz⟩:=I.tuple hq
  obtain ⟨u,hu,ru⟩:=rv.get hx
  obtain ⟨f0,f1,f2,f3,f4,f5⟩:=hf it (by simp)
  refine wpAny_pyNext_tuple_item st (show s.heap.IsTuple a its.toArray from p) (x:=u) (by simpa using hu) fun h' st' sb=>?_
  have I1:Inv X pins σ H { s with heap:=h' }:=I.turned (t':=s.toks) (fun b o hb e=>(sb.2 b hb).trans e) f0 f1 f3 f4 f5
  obtain ⟨o,e,c,d⟩:=id st'
  exact ⟨u,rfl,go_of (s:={ s with heap:=h' }) e c d (by decide) ⟨x,H,I1,ru,⟨rfl,fun ys hy=>by rw [I.tuple_inj hy hq]; exact hx⟩,st',fun b hb=>(hf b hb).1⟩⟩
 done:=by
  intro X hP hw hK hc i pins s σ H E I hf st hg
  subst hP hw hK
  obtain ⟨xs,hq,hx⟩:=hg
  obtain ⟨its,rv,p,hz⟩:=I.tuple hq
  obtain ⟨f0,f1,f2,f3,f4,f5⟩:=hf it (by simp)
  have hl:=rv.length
  exact wpAny_pyNext_tuple_end (I.ok.hd hc) st (show s.heap.IsTuple a its.toArray from p) (by simp; omega) fun h' eb=>⟨rfl,I.turned (t':=s.toks) (fun b o hb e=>eb b o hb e) f0 f1 f3 f4 f5⟩
 self:=fun _ _ _ _ _ st h=>wpAny_pyIter_tupleiter st h
theorem turn_range {P:Program} {w:World} {K:PySem.W.Frag} {tg:Expr} (it:Addr) (lo:Int) (n:Nat):Turn P w K tg (Itr lo n) [it] it (fun i h=>IsRangeIter h it (lo + (i:Nat) * 1) ((n:Int) - (i:Nat)) 1) where
 mem:=by simp
 obj:=fun i h st b hb=>by
  have e:b = it:=by simpa using hb
  subst e
  exact ⟨_,st,fun v z=>by
   have z':Data.fields _ = Data.cell v:=z
   cases z'⟩
 keep:=fun i h h' st k=>k it (by simp) _ st
 item:=by
  intro X hP hw hK hc i pins s σ H E I hf st hg
  subst hP hw hK
  obtain ⟨f0,f1,f2,f3,f4,f5⟩:=hf it (by simp)
  have W:=Walks.range (prog:=X.prog) (w:=X.w) (I.ok.hd hc) it lo 1 n
  refine W.item i s _ _ hg st fun v h' tk hv st' kk=>?_
  obtain ⟨t,rfl⟩:=hv
  have I1:Inv X pins σ H { s with heap:=h',toks:=tk }:=I.turned (fun b o hb e=>kk b o (by simpa using hb) e) f0 f1 f3 f4 f5
  refine ⟨_,rfl,go_of (s:={ s with heap:=h',toks:=tk }) (n:="range_iterator") st' rfl rfl (by decide) ⟨.int (lo + i),H,I1,⟨t,?_⟩,⟨rfl,rfl⟩,st',fun b hb=>(hf b hb).1⟩⟩
  rw [Int.mul_one]
 done:=by
  intro X hP hw hK hc i pins s σ H E I hf st hg
  subst hP hw hK
  obtain ⟨f0,f1,f2,f3,f4,f5⟩:=hf it (by simp)
  exact wpAny_pyNext_range_end (I.ok.hd hc) st (by have:n ≤ i:=hg; omega) fun h' eb=>⟨rfl,I.turned (t':=s.toks) (fun b o hb e=>eb b o hb e) f0 f1 f3 f4 f5⟩
 self:=fun _ _ _ _ _ st h=>wpAny_pyIter_rangeiter st h
end L2
namespace L2
open PySem PySem.Spec PyProof.Rows
section
variable {X:Cx} {tg:Expr}
def iList (K:PySem.W.Frag) (tl:TE):TI:=fun σ H R=>tl σ H fun x H1=>∃ a,x = .ref a∧(∃ xs,SqL K H1 a xs)∧R (Itl K a) H1
theorem pi_list {l:Expr} {tl:TE} (hl:PE X l tl):PI X tg l (iList X.K tl):=by
 intro pins s σ H R I h
 refine thn (hl pins s σ H _ I h) fun v s1 ⟨x,H1,I1,r1,q1⟩=>?_
 obtain ⟨a,e,⟨xs,hq⟩,q⟩:=q1
 subst e
 cases r1
 obtain ⟨its,rv,p,hz⟩:=I1.list hq
 refine wpAny_pyIter_list p.isList ?_
 refine ⟨s1.heap.objs.size,[s1.heap.objs.size],_,_,H1,rfl,I1.kept (t':=s1.toks) fun b o e=>Heap.get?_push_of_some _ e,turn_list a _,⟨_,Heap.get?_push_size _ rfl,rfl,rfl⟩,fun b hb=>?_,q⟩
 have e:b = s1.heap.objs.size:=by simpa using hb
 subst e
 exact I1.fpOk (Nat.le_refl _) (I1.hok.fresh (Nat.le_refl _))
def tFor (wi:TI) (g:TG) (tb:TS):TS:=fun D σ H=>wi σ H fun J H1=>∃ W:Nat→Nat→St→Hp→Prop,(∃ m,W 0 m σ H1)∧∀ i m σ H,W i m σ H →
 (J.stop i H∧D.nx σ H)∨(J.go i H∧∃ N:St→Hp→Prop,(∀ σ' H',N σ' H'→∃ m',m' < m∧W (i + 1) m' σ' H')∧∀ x H',J.yld i H x H'→g x σ H' fun σ2 H2=>tb { D with nx:=N,ct:=N,bk:=D.nx } σ2 H2)
def pinsAt (fp:List Addr) (h:Heap):List (Addr × Obj):=fp.filterMap fun b=>(h.get? b).map fun o=>(b,o)
theorem mem_pinsAt {fp:List Addr} {h:Heap} {b:Addr} {o:Obj} (hb:b ∈ fp) (e:h.get? b = some o):(b,o) ∈ pinsAt fp h:=List.mem_filterMap.mpr ⟨b,hb,by rw [e]; rfl⟩
theorem of_pinsAt {fp:List Addr} {h:Heap} {p:Addr × Obj} (hp:p ∈ pinsAt fp h):p.1 ∈ fp∧h.get? p.1 = some p.2:=by
 obtain ⟨b,hb,e⟩:=List.mem_filterMap.mp hp
 cases q:h.get? b with
 | none=>rw [q] at e; cases e
 | some o =>
  rw [q] at e
  have e':(b,o) = p:=Option.some.inj e
  subst e'
  exact ⟨hb,q⟩
theorem Inv.pinned {pins:List (Addr × Obj)} {σ:St} {H:Hp} {s:Shared} {fp:List Addr} (I:Inv X pins σ H s) (hf:∀ b ∈ fp,FpOk X pins H b) (ho:∀ b ∈ fp,∃ o,s.heap.get? b = some o∧∀ v,o.data ≠ .cell v):Inv X (pins ++ pinsAt fp s.heap) σ H s :=
 I.pins_of fun p hp=>(List.mem_append.mp hp).elim (fun z=>I.pin p (List.mem_append_right _ z)) fun z=>by
  obtain ⟨hb,e⟩:=of_pinsAt z
  obtain ⟨f0,f1,f2,_⟩:=hf p.1 hb
  obtain ⟨o,e',d⟩:=ho p.1 hb
  rw [e] at e'; cases e'
  exact ⟨e,f0,f1,f2,d⟩
theorem Inv.unpinned {pins pl:List (Addr × Obj)} {σ:St} {H:Hp} {s:Shared} (I:Inv X (pins ++ pl) σ H s):Inv X pins σ H s:=I.pins_of fun p hp=>I.pin p (List.mem_append_right _ (List.mem_append_left _ hp))
theorem ps_for {iter:Expr} {body:List Stmt} {wi:TI} {g:TG} {tb:TS} {pos:Pos} (hp:PassesOwn (model X.prog X.w) X.A X.env X.xe) (hc:X.calm = true) (hi:PI X tg iter wi) (hg:PG X tg g) (hb:PSs X body tb)
  (hs:∀ x,foldedSetIterable iter X.env x = pure x:=by intro _; rfl):PS X (.For tg iter body [] pos) (tFor wi g tb):=by
 intro pins s σ H D I h
 refine wpAny_For (thn (hi pins s σ H _ I h) fun v s1 h1=>thn h1 fun itv s2 h2=>?_) hs
 obtain ⟨it,fp,tn,J,H2,e,I2,T,st2,f2,W,⟨m0,w0⟩,turn⟩:=h2
 subst e
 -- what stays true of the iterator's objects through the loop
 have stat:∀ {H':Hp},(∀ b ∈ fp,H' b = none)→∀ b ∈ fp,FpOk X pins H' b:=fun hn b hb=>⟨hn b hb,(f2 b hb).2⟩
 refine codeAny_forLoop_any (fun n s'=>∃ i σ' H',Inv X pins σ' H' s'∧tn i s'.heap∧(∀ b ∈ fp,H' b = none)∧W i n σ' H') ?_ m0 ⟨0,σ,H2,I2,st2,fun b hb=>(f2 b hb).1,w0⟩
 rintro n s3 ⟨i,σ3,H3,I3,st3,fr3,w3⟩
 rcases turn i n σ3 H3 w3 with ⟨stop,qn⟩ | ⟨go,N,hN,step⟩
 ·refine wpAny_passesOwn hp (thn (T.done X rfl rfl rfl hc i pins s3 σ3 H3 X.xe I3 (stat fr3) st3 stop) fun r s4 ⟨hr,I4⟩=>?_)
  subst hr
  exact wpAny_execs_nil ⟨σ3,H3,I4,qn⟩
 ·refine wpAny_passesOwn hp (thn (T.item X rfl rfl rfl hc i pins s3 σ3 H3 X.xe I3 (stat fr3) st3 go) fun r s4 ⟨u,hr,h4⟩=>?_)
  subst hr
  refine wpAny_passesOwn hp (thn h4 fun _ s5 ⟨x,H5,I5,r5,y5,st5,fr5⟩=>?_)
  have I5':=I5.pinned (stat fr5) (T.obj _ _ st5)
  refine wpAny_passesOwn hp (thn (hg _ s5 σ3 H5 x u _ I5' r5 (step x H5 y5)) fun _ s6 ⟨σ6,H6,I6,q6⟩=>?_)
  refine wpAny_passesOwn hp (thn (hb _ s6 σ6 H6 _ I6 q6) fun f s7 q7=>?_)
  have again:∀ {σ7:St} {H7:Hp},Inv X (pins ++ pinsAt fp s5.heap) σ7 H7 s7→N σ7 H7→∃ m,m < n∧∃ i σ' H',Inv X pins σ' H' s7∧tn i s7.heap∧(∀ b ∈ fp,H' b = none)∧W i m σ' H':=fun {σ7 H7} I7 n7=>by
   obtain ⟨m',hm,w7⟩:=hN σ7 H7 n7
   refine ⟨m',hm,i + 1,σ7,H7,I7.unpinned,T.keep _ _ _ st5 fun b hb o e=>(I7.pin (b,o) (List.mem_append_right _ (List.mem_append_right _ (mem_pinsAt hb e)))).1,fun b hb=>?_,w7⟩
   obtain ⟨o,e,d⟩:=T.obj _ _ st5 b hb
   exact (I7.pin (b,o) (List.mem_append_right _ (List.mem_append_right _ (mem_pinsAt hb e)))).2.1
  cases f with
  | next=>obtain ⟨σ7,H7,I7,n7⟩:=q7; exact again I7 n7
  | cont=>obtain ⟨σ7,H7,I7,n7⟩:=q7; exact again I7 n7
  | brk=>obtain ⟨σ7,H7,I7,q7⟩:=q7; exact ⟨σ7,H7,I7.unpinned,q7⟩
  | ret v=>obtain ⟨x7,σ7,H7,I7,r7,q7⟩:=q7; exact ⟨x7,σ7,H7,I7.unpinned,r7,q7⟩
end
theorem for_list {K:PySem.W.Frag} {a:Addr} {xs:List V} {g:TG} {tb:TS} {D:Ends} {σ:St} {H:Hp} (Pv:Nat→St→Hp→Prop) (h0:Pv 0 σ H) (hl:∀ i σ H,i ≤ xs.length→Pv i σ H→SqL K H a xs)
  (hs:∀ i x σ H,xs[i]? = some x→Pv i σ H→g x σ H fun σ2 H2=>tb { D with nx:=Pv (i + 1),ct:=Pv (i + 1),bk:=D.nx } σ2 H2) (hd:∀ σ H,Pv xs.length σ H→D.nx σ H) :
  ∃ W:Nat→Nat→St→Hp→Prop,(∃ m,W 0 m σ H)∧∀ i m σ H,W i m σ H →
   ((Itl K a).stop i H∧D.nx σ H)∨((Itl K a).go i H∧∃ N:St→Hp→Prop,(∀ σ' H',N σ' H'→∃ m',m' < m∧W (i + 1) m' σ' H')∧∀ x H',(Itl K a).yld i H x H'→g x σ H' fun σ2 H2=>tb { D with nx:=N,ct:=N,bk:=D.nx } σ2 H2):=by
 refine ⟨fun i m σ H=>m = xs.length - i∧i ≤ xs.length∧Pv i σ H,⟨xs.length,by simp,Nat.zero_le _,h0⟩,?_⟩
 rintro i m σ H ⟨rfl,hi,p⟩
 have q:=hl i σ H hi p
 by_cases hlt:i < xs.length
 ·refine .inr ⟨⟨xs,xs[i],q,by simp [hlt]⟩,Pv (i + 1),fun σ' H' p'=>⟨xs.length - (i + 1),by omega,rfl,hlt,p'⟩,fun x H' y=>?_⟩
  obtain ⟨e,y⟩:=y
  subst e
  exact hs i x σ _ (y xs q) p
 ·have e:i = xs.length:=by omega
  subst e
  exact .inl ⟨⟨xs,q,Nat.le_refl _⟩,hd σ H p⟩
end L2
namespace L2
open PySem PySem.Spec PyProof.Rows
abbrev R2:=V→V→Hp→VK→Prop
def OpR (X:Cx) (f:Value→Value→Sem Value) (r:R2):Prop :=
 ∀ (pins:List (Addr × Obj)) (s:Shared) (σ:St) (H:Hp) (x y:V) (v u:Value) (Q:VK),Inv X pins σ H s→RelV x v→RelV y u→r x y H Q →
  wpAny (model X.prog X.w) X.A (f v u) (EP X pins σ Q) X.xe s
def UnR (X:Cx) (f:Value→Sem Value) (r:V→Hp→VK→Prop):Prop :=
 ∀ (pins:List (Addr × Obj)) (s:Shared) (σ:St) (H:Hp) (x:V) (v:Value) (Q:VK),Inv X pins σ H s→RelV x v→r x H Q →
  wpAny (model X.prog X.w) X.A (f v) (EP X pins σ Q) X.xe s
def CallR (X:Cx) (f:Value) (r:List V→Hp→VK→Prop):Prop :=
 ∀ (pins:List (Addr × Obj)) (s:Shared) (σ:St) (H:Hp) (xs:List V) (us:List Value) (Q:VK),Inv X pins σ H s→Vals xs us→r xs H Q →
  wpAny (model X.prog X.w) X.A (call f us) (EP X pins σ Q) X.xe s
def TruR (X:Cx) (r:V→Hp→(Bool→Hp→Prop)→Prop):Prop :=
 ∀ (pins:List (Addr × Obj)) (s:Shared) (σ:St) (H:Hp) (x:V) (v:Value) (Q:Bool→Hp→Prop),Inv X pins σ H s→RelV x v→r x H Q →
  wpAny (model X.prog X.w) X.A (truthy v) (TP X pins σ Q) X.xe s
def tOp (r:R2) (ta tb:TE):TE:=fun σ H Q=>ta σ H fun x H1=>tb σ H1 fun y H2=>r x y H2 Q
def tUn (r:V→Hp→VK→Prop) (ta:TE):TE:=fun σ H Q=>ta σ H fun x H1=>r x H1 Q
def rI (C:Int→Int→Prop) (g:Int→Int→V):R2:=fun x y H Q=>∃ i j,x = .int i∧y = .int j∧C i j∧Q (g i j) H
def rI0 (g:Int→Int→V):R2:=fun x y H Q=>∃ i j,x = .int i∧y = .int j∧Q (g i j) H
def rU (g:Int→V):V→Hp→VK→Prop:=fun x H Q=>∃ i,x = .int i∧Q (g i) H
section
variable {X:Cx} {a b c:Expr} {ta tb tc:TE} {pos:Pos}
theorem binT (ha:PE X a ta) (hb:PE X b tb) {pins:List (Addr × Obj)} {s:Shared} {σ:St} {H:Hp} {R:V→V→Hp→Prop} (I:Inv X pins σ H s)
  (h:ta σ H fun x H1=>tb σ H1 fun y H2=>R x y H2) {Q:Value→Shared→Prop} {f:Value→Value→Sem Value}
  (hf:∀ v u s2 x y H2,Inv X pins σ H2 s2→RelV x v→RelV y u→R x y H2→wpAny (model X.prog X.w) X.A (f v u) Q X.xe s2) :
  wpAny (model X.prog X.w) X.A (eval a X.env) (fun v s₁=>wpAny (model X.prog X.w) X.A (eval b X.env) (fun u s₂=>wpAny (model X.prog X.w) X.A (f v u) Q X.xe s₂) X.xe s₁) X.xe s:=by
 refine thn (ha pins s σ H _ I h) fun v s1 ⟨x,H1,I1,r1,q1⟩=>?_
 refine thn (hb pins s1 σ H1 _ I1 q1) fun u s2 ⟨y,H2,I2,r2,q2⟩=>?_
 exact hf v u s2 x y H2 I2 r1 r2 q2
theorem pe_op {op:Operator} {r:R2} (ho:OpR X (binaryOp op) r) (ha:PE X a ta) (hb:PE X b tb):PE X (.BinOp a op b pos) (tOp r ta tb):=by
 intro pins s σ H Q I h
 exact wpAny_BinOp (binT ha hb I h fun v u s2 x y H2 I2 rx ry q=>ho pins s2 σ H2 x y v u Q I2 rx ry q)
theorem pe_un {op:UnaryOp} {r:V→Hp→VK→Prop} (ho:UnR X (unaryOp op) r) (ha:PE X a ta):PE X (.UnaryOp op a pos) (tUn r ta):=by
 intro pins s σ H Q I h
 exact UnaryOp_ (thn (ha pins s σ H _ I h) fun v s1 ⟨x,H1,I1,r1,q1⟩=>ho pins s1 σ H1 x v Q I1 r1 q1)
theorem opI {f:Value→Value→Sem Value} {C:Int→Int→Prop} {g:Int→Int→Int}
  (rule:∀ (i j:Int) (t u:Tok) (s:Shared) (Q:Value→Shared→Prop) (E:Value→Shared→Prop),C i j→Q (.int (g i j) s.toks) { s with toks:=s.toks + 1 }→wpAny (model X.prog X.w) X.A (f (.int i t) (.int j u)) Q E s) :
  OpR X f (rI C fun i j=>.int (g i j)):=by
 intro pins s σ H x y v u Q I rx ry h
 obtain ⟨i,j,rfl,rfl,hc,q⟩:=h
 obtain ⟨t,rfl⟩:=rx
 obtain ⟨t',rfl⟩:=ry
 exact rule i j t t' s _ _ hc ⟨.int (g i j),H,I.tok _,⟨_,rfl⟩,q⟩
theorem opI0 {f:Value→Value→Sem Value} {g:Int→Int→Int}
  (rule:∀ (i j:Int) (t u:Tok) (s:Shared) (Q:Value→Shared→Prop) (E:Value→Shared→Prop),Q (.int (g i j) s.toks) { s with toks:=s.toks + 1 }→wpAny (model X.prog X.w) X.A (f (.int i t) (.int j u)) Q E s) :
  OpR X f (rI0 fun i j=>.int (g i j)):=by
 intro pins s σ H x y v u Q I rx ry h
 obtain ⟨i,j,rfl,rfl,q⟩:=h
 obtain ⟨t,rfl⟩:=rx
 obtain ⟨t',rfl⟩:=ry
 exact rule i j t t' s _ _ ⟨.int (g i j),H,I.tok _,⟨_,rfl⟩,q⟩
theorem opB0 {f:Value→Value→Sem Value} {g:Int→Int→Bool}
  (rule:∀ (i j:Int) (t u:Tok) (s:Shared) (Q:Value→Shared→Prop) (E:Value→Shared→Prop),Q (.bool (g i j)) s→wpAny (model X.prog X.w) X.A (f (.int i t) (.int j u)) Q E s) :
  OpR X f (rI0 fun i j=>.bl (g i j)):=by
 intro pins s σ H x y v u Q I rx ry h
 obtain ⟨i,j,rfl,rfl,q⟩:=h
 obtain ⟨t,rfl⟩:=rx
 obtain ⟨t',rfl⟩:=ry
 exact rule i j t t' s _ _ ⟨.bl (g i j),H,I,rfl,q⟩
def CDivN (i j:Int):Prop:=j ≠ 0∧j.natAbs < 1073741824
def CPow (i j:Int):Prop:=0 ≤ j∧j ≤ 1000000∧i.natAbs < 2 ^ 64
theorem op_add:OpR X (binaryOp .Add) (rI0 fun i j=>.int (i + j)):=opI0 fun _ _ _ _ _ _ _ q=>add_int q
theorem op_sub:OpR X (binaryOp .Sub) (rI0 fun i j=>.int (i - j)):=opI0 fun _ _ _ _ _ _ _ q=>sub_int q
theorem op_fdivN:OpR X (binaryOp .FloorDiv) (rI CDivN fun i j=>.int (i.fdiv j)):=opI fun _ _ _ _ _ _ _ hc q=>floordiv_int hc.1 q (.inl (PyProof.noPylong_small hc.2))
theorem op_mod:OpR X (binaryOp .Mod) (rI (fun _ j=>0 < j) fun i j=>.int (i % j)):=opI fun i j _ _ _ _ _ hc q=>by
 have h1:(0:Int) < j:=hc
 exact mod_int' (by omega) (by rw [Int.fmod_eq_emod_of_nonneg i (by omega)]; exact q)
theorem op_pow:OpR X (binaryOp .Pow) (rI CPow fun i j=>.int (i ^ j.toNat)):=opI fun _ _ _ _ _ _ _ hc q=>pow_int_small hc.1 hc.2.1 hc.2.2 q
theorem unI {f:Value→Sem Value} {g:Int→Int}
  (rule:∀ (i:Int) (t:Tok) (s:Shared) (Q:Value→Shared→Prop) (E:Value→Shared→Prop),Q (.int (g i) s.toks) { s with toks:=s.toks + 1 }→wpAny (model X.prog X.w) X.A (f (.int i t)) Q E s) :
  UnR X f (rU fun i=>.int (g i)):=by
 intro pins s σ H x v Q I rx h
 obtain ⟨i,rfl,q⟩:=h
 obtain ⟨t,rfl⟩:=rx
 exact rule i t s _ _ ⟨.int (g i),H,I.tok _,⟨_,rfl⟩,q⟩
theorem un_neg:UnR X (unaryOp .USub) (rU fun i=>.int (-i)):=unI fun _ _ _ _ _ q=>neg_int q
end
section
variable {X:Cx} {a b c:Expr} {ta tb tc:TE} {pos:Pos}
theorem op_lt:OpR X (compareOp .Lt) (rI0 fun i j=>.bl (decide (i < j))):=opB0 fun _ _ _ _ _ _ _ q=>lt_int q
theorem op_le:OpR X (compareOp .LtE) (rI0 fun i j=>.bl (decide (i ≤ j))):=opB0 fun _ _ _ _ _ _ _ q=>le_int q
theorem op_gt:OpR X (compareOp .Gt) (rI0 fun i j=>.bl (decide (j < i))):=opB0 fun _ _ _ _ _ _ _ q=>gt_int q
theorem op_ge:OpR X (compareOp .GtE) (rI0 fun i j=>.bl (decide (j ≤ i))):=opB0 fun _ _ _ _ _ _ _ q=>ge_int q
theorem OpR.or {f:Value→Value→Sem Value} {r r':R2} (h:OpR X f r) (h':OpR X f r'):OpR X f (fun x y H Q=>r x y H Q∨r' x y H Q):=by
 intro pins s σ H x y v u Q I rx ry q
 rcases q with q | q
 ·exact h pins s σ H x y v u Q I rx ry q
 ·exact h' pins s σ H x y v u Q I rx ry q
theorem nomark (b:Expr) {op:CmpOp} (h:op ≠ .In:=by decide) (h2:op ≠ .NotIn:=by decide):behindInMarks op b = false:=by
 have e1:(op == CmpOp.In) = false:=by cases op <;> first | rfl | exact absurd rfl h
 have e2:(op == CmpOp.NotIn) = false:=by cases op <;> first | rfl | exact absurd rfl h2
 cases b <;> simp [behindInMarks,e1,e2]
theorem pe_cmpR {op:CmpOp} {r:R2} (ho:OpR X (compareOp op) r) (ha:PE X a ta) (hb:PE X b tb) (hm:behindInMarks op b = false):PE X (.Compare a [op] [b] pos) (tOp r ta tb):=by
 intro pins s σ H Q I h
 exact wpAny_Compare1 (binT ha hb I h fun v u s2 x y H2 I2 rx ry q=>ho pins s2 σ H2 x y v u Q I2 rx ry q) hm
def tTest (t:TE):TT:=fun σ H Q=>t σ H fun x H'=>∃ k,x = .bl k∧Q k H'
theorem pt_cmpR {op:CmpOp} {r:R2} (ho:OpR X (compareOp op) r) (ha:PE X a ta) (hb:PE X b tb) (hm:behindInMarks op b = false):PT X (.Compare a [op] [b] pos) (tTest (tOp r ta tb)):=by
 intro pins s σ H Q I h
 refine wpAny_isTrue_Compare1 (thn (ha pins s σ H _ I h) fun v s1 ⟨x,H1,I1,r1,q1⟩=>thn (hb pins s1 σ H1 _ I1 q1) fun u s2 ⟨y,H2,I2,r2,q2⟩ =>
  thn (ho pins s2 σ H2 x y v u _ I2 r1 r2 q2) fun c s3 ⟨z,H3,I3,r3,k,e,q3⟩=>?_) hm
 subst e
 cases r3
 exact wpAny_truthy_bool ⟨H3,I3,q3⟩
def tChain (r r':R2) (ta tb tc:TE):TE:=fun σ H Q=>ta σ H fun x H1=>tb σ H1 fun y H2=>r x y H2 fun z H3=>∃ k,z = .bl k ∧
 (if k = true then tc σ H3 fun w' H4=>r' y w' H4 Q else Q (.bl false) H3)
theorem pt_chain {op op':CmpOp} {r r':R2} (ho:OpR X (compareOp op) r) (ho':OpR X (compareOp op') r') (ha:PE X a ta) (hb:PE X b tb) (hc:PE X c tc)
  (hm:lastMarks [op,op'] [b,c] = false:=by with_unfolding_all rfl):PT X (.Compare a [op,op'] [b,c] pos) (tTest (tChain r r' ta tb tc)):=by
 intro pins s σ H Q I h
 refine isTrue_chain (thn (ha pins s σ H _ I h) fun v s1 ⟨x,H1,I1,r1,q1⟩=>test_link (thn (hb pins s1 σ H1 _ I1 q1) fun u s2 ⟨y,H2,I2,r2,q2⟩ =>
  thn (ho pins s2 σ H2 x y v u _ I2 r1 r2 q2) fun d s3 ⟨z,H3,I3,r3,k,e,q3⟩=>?_)) hm
 subst e
 cases r3
 refine wpAny_truthy_bool ?_
 cases k with
 | false =>
  obtain ⟨k',e',q'⟩:=q3
  cases e'
  exact ite_ff ⟨H3,I3,q'⟩
 | true =>
  refine ite_tt (test_last (thn (hc pins s3 σ H3 _ I3 q3) fun w' s4 ⟨z',H4,I4,r4,q4⟩=>thn (ho' pins s4 σ H4 y z' u w' _ I4 r2 r4 q4) fun d' s5 ⟨z2,H5,I5,r5,k2,e2,q5⟩=>?_))
  subst e2
  cases r5
  exact wpAny_truthy_bool ⟨H5,I5,q5⟩
def TruV (K:PySem.W.Frag) (x:V) (H:Hp) (k:Bool):Prop :=
 match x with
 | .non=>k = false
 | .bl b=>k = b
 | .int i=>k = (i != 0)
 | .str y=>y.length ≤ sizeLine∧k = ((y.length:Int) != 0)
 | .byt y=>y.size ≤ sizeLine∧k = ((y.size:Int) != 0)
 | .ref p=>(∃ xs,SqL K H p xs∧k = !xs.isEmpty)∨(∃ xs,SqT K H p xs∧k = !xs.isEmpty)∨∃ kvs,H p = some (.dK kvs)∧k = !kvs.isEmpty
 | _=>False
theorem isEmpty_kv {κ:Type} {kvs:List (κ × V)} {vs:List (κ × Value)} (r:KV kvs vs):(!vs.isEmpty) = !kvs.isEmpty:=by
 cases r <;> rfl
theorem isEmpty_of {xs:List V} {its:List Value} (r:Vals xs its):(!its.toArray.isEmpty) = !xs.isEmpty:=by
 cases r <;> simp
theorem line63:(sizeLine:Nat) < 2 ^ 63:=by rw [sizeLine_eq]; decide
theorem tru_ok:TruR X (fun x H Q=>∃ k,TruV X.K x H k∧Q k H):=by
 intro pins s σ H x v Q I rx h
 obtain ⟨k,e,q⟩:=h
 have hl:=line63
 have hs:sizeLine = 16777216:=sizeLine_eq
 cases x with
 | non =>
  cases rx
  have e':k = false:=e
  subst e'
  exact truthy_none ⟨H,I,q⟩
 | bl b =>
  cases rx
  have e':k = b:=e
  subst e'
  exact wpAny_truthy_bool ⟨H,I,q⟩
 | int i =>
  obtain ⟨t,rfl⟩:=rx
  have e':k = (i != 0):=e
  subst e'
  exact PySem.P.truthy_int ⟨H,I,q⟩
 | str y =>
  obtain ⟨t,rfl⟩:=rx
  obtain ⟨hy,e'⟩:y.length ≤ sizeLine∧k = ((y.length:Int) != 0):=e
  subst e'
  exact PySem.P.truthy_str (by omega) ⟨H,I.tok _,q⟩
 | byt y =>
  obtain ⟨t,rfl⟩:=rx
  obtain ⟨hy,e'⟩:y.size ≤ sizeLine∧k = ((y.size:Int) != 0):=e
  subst e'
  exact PySem.W.truthy_bytes (by omega) ⟨H,I.tok _,q⟩
 | ref p =>
  cases rx
  have e':(∃ xs,SqL X.K H p xs∧k = !xs.isEmpty)∨(∃ xs,SqT X.K H p xs∧k = !xs.isEmpty)∨∃ kvs,H p = some (.dK kvs)∧k = !kvs.isEmpty:=e
  rcases e' with ⟨xs,hx,e'⟩ | ⟨xs,hx,e'⟩ | ⟨kvs,hx,e'⟩
  ·subst e'
   obtain ⟨its,r,pl,hz⟩:=I.list hx
   have hlen:=r.length
   exact wpAny_truthy_list pl.isList (by simp only [List.size_toArray]; omega) ⟨H,I.tok _,by rw [isEmpty_of r]; exact q⟩
  ·subst e'
   obtain ⟨its,r,pl,hz⟩:=I.tuple hx
   have hlen:=r.length
   exact truthy_tuple pl (by simp only [List.size_toArray]; omega) ⟨H,I.tok _,by rw [isEmpty_of r]; exact q⟩
  ·subst e'
   obtain ⟨hz,hS,vs,r,m⟩:kvs.length ≤ sizeLine∧(p == sysModules) = false∧∃ vs,KV kvs vs∧s.heap.DictOf (mixKind X.prog X.w) p vs:=I.hok p _ hx
   have hlen:kvs.length = vs.length:=Paired.length r
   exact wpAny_truthy_dict hS m (by omega) ⟨H,I.tok _,by rw [isEmpty_kv r]; exact q⟩
 | _=>exact (show False from e).elim
theorem pt_truth (ha:PE X a ta) (he:∀ whole,isTrue a X.env whole = (do let v ← whole; standAt a.pos; holding [v] (truthy v))) :
  PT X a (fun σ H Q=>ta σ H fun x H'=>∃ k,TruV X.K x H' k∧Q k H'):=by
 intro pins s σ H Q I h
 exact isTrue_plain (thn (ha pins s σ H _ I h) fun v s1 ⟨x,H1,I1,r1,q1⟩=>tru_ok pins s1 σ H1 x v Q I1 r1 q1) (he _)
theorem op_add_str:OpR X (binaryOp .Add) (fun x y H Q=>∃ i j,x = .str i∧y = .str j∧i.length + j.length ≤ sizeLine∧Q (.str (i ++ j)) H):=by
 intro pins s σ H x y v u Q I rx ry h
 obtain ⟨i,j,rfl,rfl,hz,q⟩:=h
 obtain ⟨t,rfl⟩:=rx
 obtain ⟨t',rfl⟩:=ry
 exact add_str (fun t' tk=>⟨.str (i ++ j),H,I.tok _,⟨_,rfl⟩,q⟩) hz
theorem vals1 {x:V} {us:List Value} (r:Vals [x] us):∃ u,us = [u]∧RelV x u:=by
 cases r with
 | cons r1 r2=>cases r2; exact ⟨_,rfl,r1⟩
theorem vals2 {x y:V} {us:List Value} (r:Vals [x,y] us):∃ u w',us = [u,w']∧RelV x u∧RelV y w':=by
 cases r with
 | cons r1 r2 =>
  cases r2 with
  | cons r3 r4=>cases r4; exact ⟨_,_,rfl,r1,r3⟩
theorem call_max2 (hc:X.calm = true):CallR X (.builtin "max") (fun xs H Q=>∃ i j,xs = [.int i,.int j]∧Q (.int (if j > i then j else i)) H):=by
 intro pins s σ H xs us Q I r h
 obtain ⟨i,j,rfl,q⟩:=h
 obtain ⟨u,w',rfl,⟨t,rfl⟩,⟨t',rfl⟩⟩:=vals2 r
 refine max_two_ints (I.ok.hd hc) fun h' tk k=>⟨_,H,I.kept k,?_,q⟩
 by_cases hj:j > i
 ·rw [if_pos hj,if_pos hj]; exact ⟨_,rfl⟩
 ·rw [if_neg hj,if_neg hj]; exact ⟨_,rfl⟩
theorem call_int1:CallR X (.type "int") (fun xs H Q=>(∃ i,xs = [.int i]∧Q (.int i) H)∨∃ k,xs = [.bl k]∧Q (.int (if k then 1 else 0)) H):=by
 intro pins s σ H xs us Q I r h
 rcases h with ⟨i,rfl,q⟩ | ⟨k,rfl,q⟩
 ·obtain ⟨u,rfl,t,rfl⟩:=vals1 r
  exact call_int_int ⟨.int i,H,I,⟨_,rfl⟩,q⟩
 ·obtain ⟨u,rfl,r1⟩:=vals1 r
  cases r1
  exact call_int_bool ⟨.int (if k then 1 else 0),H,I.tok _,⟨_,rfl⟩,q⟩
end
end L2
namespace L2
open PySem PySem.Spec PyProof.Rows
structure ObjM (h:Heap) (x dx C:Addr) (mA:Str→Option Value):Prop where
 obj:h.get? x = some (PySem.W.instObj C dx)
 ns:h.Ns1 dx mA
 ne:dx ≠ x
theorem lookIn_ns {h:Heap} {dx:Addr} {mA:Str→Option Value} (n:h.Ns1 dx mA):∃ od,h.get? dx = some od∧∀ name,PySem.W.lookIn name od = some (mA name):=by
 obtain ⟨o,es,ep,ho,hd,hk,_,hm⟩:=n
 refine ⟨o,ho,fun name=>?_⟩
 have e:=hm name
 unfold nsFind findBy at e
 rw [← Array.find?_toList] at e
 unfold PySem.W.lookIn
 rw [hd]
 dsimp only
 split
 ·rename_i y q
  rw [q] at e
  exact congrArg some e
 ·rename_i q
  rw [q] at e
  have a:es.toList.any (·.refKey) = false:=by
   rw [List.any_eq_false]
   intro y hy
   obtain ⟨z,t,hkey⟩:=hk y (Array.mem_toList_iff.mp hy)
   simp [DictEntry.refKey,hkey]
  have a':¬ es.toList.any (·.refKey) = true:=by rw [a]; exact Bool.false_ne_true
  rw [if_neg a']
  exact congrArg some e
theorem ObjM.look {h:Heap} {x dx C:Addr} {mA:Str→Option Value} (I:ObjM h x dx C mA):∃ od,PySem.W.InstAt h x (PySem.W.instObj C dx) C (some od)∧∀ name,PySem.W.lookIn name od = some (mA name) :=
 let ⟨od,ho,hl⟩:=lookIn_ns I.ns
 ⟨od,⟨I.obj,rfl,rfl,ho⟩,hl⟩
section
variable {prog:Program} {w:World} {A:Around} {E:Value→Shared→Prop} {s:Shared} {K:PySem.W.Frag} {x dx C f:Addr} {mA:Str→Option Value} {name:Str} {v:Value}
end
section
variable {P:Program} {w:World} {H H':Hp} {h h':Heap} {a C dx:Addr} {fs fs':List (Str × V)}
theorem ins_get (hok:HOk P w H h) (e:H a = some (.ins C dx fs)):∃ mA,ObjM h a dx C mA∧(∀ f,RelO (fs.lookup f) (mA f))∧PySem.Within mA (fs.map (·.1))∧fs.length ≤ 1000∧H dx = some (.own a):=by
 obtain ⟨d,z,ne,ob,mA,n,r,q⟩:=(show ObjOk P w H h a (.ins C dx fs) from hok a _ e)
 exact ⟨mA,⟨ob,n,ne⟩,r,q,z,d⟩
end
structure Cls (K:PySem.W.Frag) (C:Addr):Prop where
 pg:PySem.W.plainGet K C Str.empty = true
 hd:PySem.W.hasDictIn K C = true
 po:PySem.W.plainOver K C = true
 sa:PySem.W.findIn K (.ref C) "__setattr__" = some (some (.builtin "object.__setattr__"))
theorem Cls.get {K:PySem.W.Frag} {C:Addr} (c:Cls K C) (f:Str):PySem.W.plainGet K C f = true:=c.pg
section
variable {X:Cx} {pins:List (Addr × Obj)} {σ:St} {H:Hp} {s:Shared} {a C dx:Addr} {fs:List (Str × V)} {f:Str} {v:V} {A:Around} {E:Value→Shared→Prop}
end
section
variable {X:Cx} {o e value:Expr} {f:Str} {pos pos' tpos:Pos} {ta tv:TE}
end
section
variable {X:Cx} {pins:List (Addr × Obj)} {σ:St} {H:Hp} {s:Shared} {A:Around} {E:Value→Shared→Prop} {Q:Value→Shared→Prop} {c:Value} {b:Bool}
inductive TyOf (K:PySem.W.Frag) (H:Hp):V→Value→Prop where
 | non:TyOf K H .non (.type "NoneType")
 | bl (x:Bool):TyOf K H (.bl x) (.type "bool")
 | int (i:Int):TyOf K H (.int i) (.type "int")
 | str (x:Str):TyOf K H (.str x) (.type "str")
 | flt (x:UInt64):TyOf K H (.flt x) (.type "float")
 | lst {a:Addr} {xs:List V} (e:H a = some (.lst xs)):TyOf K H (.ref a) (.type "list")
 | frz {a:Addr} {o:Obj} {xs:List V} (e:H a = some (.frz o (.lst xs))):TyOf K H (.ref a) (.type "list")
 | tup {a:Addr} {xs:List V} (e:H a = some (.tup xs)):TyOf K H (.ref a) (.type "tuple")
 | dK {a:Addr} {kvs:List (Key × V)} (e:Rd H a (.dK kvs)):TyOf K H (.ref a) (.type "dict")
 | dT {a:Addr} {kvs:List (List Key × V)} (e:H a = some (.dT kvs)):TyOf K H (.ref a) (.type "dict")
 | ins {a C dx:Addr} {fs:List (Str × V)} (e:H a = some (.ins C dx fs)) (cl:Cls K C) (ha:PySem.W.findIn K (.ref C) "__class__" = some (some (.builtin "object.__class__")))
   (hn:PySem.W.specialIn K (.builtin "object.__class__") "__get__" = some (some (.builtin "getset_descriptor.__get__"))) (htk:PySem.W.takesIn K (.builtin "object.__class__") = some true)
   (hm:PySem.W.mroIn K C (.type "object") = some true):TyOf K H (.ref a) (.ref C)
theorem isinst_ok {x:V} {u t:Value} (I:Inv X pins σ H s) (rx:RelV x u) (ty:TyOf X.K H x t) (e:PySem.W.kitOne X.K t c = some b) (h:∀ tk,Q (.bool b) { s with toks:=tk }) :
  wpAny (model X.prog X.w) A (call (.builtin "isinstance") [u,c]) Q E s:=by
 cases ty with
 | non=>cases (show u = Value.none from rx); exact PySem.W.kia_one PySem.W.kitx_none I.kIn True.intro e (fun z=>nomatch z) h
 | bl y=>cases (show u = Value.bool y from rx); exact PySem.W.kia_one PySem.W.kitx_bool I.kIn True.intro e (fun z=>nomatch z) h
 | int i=>obtain ⟨t,q⟩:=(show ∃ t,u = Value.int i t from rx); cases q; exact PySem.W.kia_one PySem.W.kitx_int I.kIn True.intro e (fun z=>nomatch z) h
 | str y=>obtain ⟨t,q⟩:=(show ∃ t,u = Value.str y t from rx); cases q; exact PySem.W.kia_one PySem.W.kitx_str I.kIn True.intro e (fun z=>nomatch z) h
 | flt y=>obtain ⟨t,q⟩:=(show ∃ t,u = Value.float y t from rx); cases q; exact PySem.W.kia_one PySem.W.kitx_float I.kIn True.intro e (fun z=>nomatch z) h
 | @lst a xs ea =>
  cases (show u = Value.ref a from rx)
  obtain ⟨_,_,n,_,h1⟩:=(show ObjOk X.prog X.w H s.heap a (.lst xs) from I.hok a _ ea)
  exact PySem.W.kia_one PySem.W.kitx_list I.kIn ⟨_,h1,rfl⟩ e (fun z=>nomatch z) h
 | @frz a ob xs ea =>
  cases (show u = Value.ref a from rx)
  obtain ⟨_,_,_,n,_,h1⟩:=(show ObjOk X.prog X.w H s.heap a (.frz ob (.lst xs)) from I.hok a _ ea)
  exact PySem.W.kia_one PySem.W.kitx_list I.kIn ⟨_,h1,rfl⟩ e (fun z=>nomatch z) h
 | @tup a xs ea =>
  cases (show u = Value.ref a from rx)
  obtain ⟨_,_,_,p⟩:=(show ObjOk X.prog X.w H s.heap a (.tup xs) from I.hok a _ ea)
  obtain ⟨o,h1,h2,_⟩:=p
  exact PySem.W.kia_one PySem.W.kitx_tuple I.kIn ⟨o,h1,h2⟩ e (fun z=>nomatch z) h
 | @dK a kvs ea =>
  cases (show u = Value.ref a from rx)
  obtain ⟨_,_,vs,_,p⟩:=(show ObjOk X.prog X.w H s.heap a (.dK kvs) from ea.ok I.hok)
  obtain ⟨o,es,ep,h1,h2,_⟩:=p
  exact PySem.W.kia_one PySem.W.kitx_dict I.kIn ⟨o,h1,h2.1⟩ e (fun z=>nomatch z) h
 | @dT a kvs ea =>
  cases (show u = Value.ref a from rx)
  obtain ⟨_,_,xs,_,o,es,ep,h1,h2,_⟩:=(show ObjOk X.prog X.w H s.heap a (.dT kvs) from I.hok a _ ea)
  exact PySem.W.kia_one PySem.W.kitx_dict I.kIn ⟨o,h1,h2.1⟩ e (fun z=>nomatch z) h
 | @ins a C dx fs ea cl ha hn htk hm =>
  cases (show u = Value.ref a from rx)
  obtain ⟨mA,O,_⟩:=ins_get I.hok ea
  obtain ⟨od,J,_⟩:=O.look
  exact PySem.W.kia_one (PySem.W.kitx_own (cl.get _) cl.hd ha hn htk hm) I.kIn J e (fun z=>nomatch z) h
end
end L2
namespace L2
open PySem PySem.Spec PyProof.Rows
structure Room (k:Nat) (A:Around):Prop where
 hd:A.handled = none
 dp:A.depth + 3 * k + 5 < recursionLimit
 un:A.units + 16 * k + 200 < cLine
theorem Room.mono {j k:Nat} {A:Around} (r:Room k A) (h:j ≤ k):Room j A:=⟨r.hd,by have:=r.dp; omega,by have:=r.un; omega⟩
theorem Room.deeper {k:Nat} {A:Around} (r:Room (k + 1) A) (env:Env):Room k (A.deeper env) :=
 ⟨r.hd,by have:=r.dp; show A.depth + 1 + 3 * k + 5 < _; omega,by have:=r.un; show A.units + 3 + 16 * k + 200 < _; omega⟩
theorem Room.depth {k:Nat} {A:Around} (r:Room k A):A.depth < recursionLimit:=by have:=r.dp; omega
theorem Room.units {k:Nat} {A:Around} (r:Room k A):A.units + 64 < cLine:=by have:=r.un; omega
def tNil:TA:=fun _ H Q=>Q [] H
def tCons (ta:TE) (tr:TA):TA:=fun σ H Q=>ta σ H fun x H1=>tr σ H1 fun xs H2=>Q (x :: xs) H2
section
variable {X:Cx} {e:Expr} {es:List Expr} {te:TE} {t:TA} {pos:Pos}
theorem pa_nil:PA X [] tNil:=fun _ _ _ _ H Q I h=>Calls.spliced_nil ⟨[],H,I,.nil,h⟩
theorem pa_cons (ha:PE X e te) (hr:PA X es t) (hs:starEach (e :: es) X.env = (false,eval e X.env) :: starEach es X.env:=by rfl):PA X (e :: es) (tCons te t):=by
 intro pos pins s σ H Q I h
 rw [hs]
 show wpAny _ _ (spliced ((false,eval e X.env) :: backTo pos (starEach es X.env))) _ _ s
 refine Calls.spliced_cons (thn (ha pins s σ H _ I h) fun u s1 ⟨x,H1,I1,r1,q1⟩=>?_)
 exact thn (hr pos pins s1 σ H1 _ I1 q1) fun us s2 ⟨xs,H2,I2,r2,q2⟩=>⟨x :: xs,H2,I2,.cons r1 r2,q2⟩
def tTup (t:TA):TE:=fun σ H Q=>t σ H fun xs H1=>xs.length ≤ sizeLine∧∀ p,H1 p = none→Q (.ref p) (upd H1 p (.tup xs))
def tLst (t:TA):TE:=fun σ H Q=>t σ H fun xs H1=>xs.length ≤ sizeLine∧∀ p,H1 p = none→Q (.ref p) (upd H1 p (.lst xs))
theorem pe_tup {x1} (h:PA X es t):PE X (.Tuple es x1 pos) (tTup t):=by
 intro pins s σ H Q I hq
 refine wpAny_Tuple_spliced (thn (h pos pins s σ H _ I hq) fun us s1 ⟨xs,H1,I1,r,z,q⟩=>⟨by rw [← r.length]; exact z,?_⟩)
 have hf:H1 s1.heap.objs.size = none:=I1.hok.fresh (Nat.le_refl _)
 refine ⟨.ref s1.heap.objs.size,upd H1 s1.heap.objs.size (.tup xs),I1.laid (t':=s1.toks) (fun b u e=>Heap.get?_push_of_some _ e) (Nat.le_refl _) ?_,rfl,q _ hf⟩
 exact ⟨⟨z,_,Heap.get?_push_size _ rfl,rfl⟩,us,r,⟨_,Heap.get?_push_size _ rfl,rfl,_,rfl⟩⟩
theorem pe_lst (h:PA X es t):PE X (.List es pos) (tLst t):=by
 intro pins s σ H Q I hq
 refine wpAny_List_spliced (thn (h pos pins s σ H _ I hq) fun us s1 ⟨xs,H1,I1,r,z,q⟩=>⟨by rw [← r.length]; exact z,?_⟩)
 have hf:H1 s1.heap.objs.size = none:=I1.hok.fresh (Nat.le_refl _)
 refine ⟨.ref s1.heap.objs.size,upd H1 s1.heap.objs.size (.lst xs),I1.laid (t':=s1.toks) (fun b u e=>Heap.get?_push_of_some _ e) (Nat.le_refl _) ?_,rfl,q _ hf⟩
 exact ⟨z,us,0,r,Heap.get?_push_size _ rfl⟩
end
abbrev Sp:=List V→Hp→VK→XK→Prop
abbrev CXT:=List Env→Hp→Shared→XK→Value→Shared→Prop
structure Env0 (P:Program) (w:World) (K:PySem.W.Frag) (mg:Str→Option Value) (base:Heap) (A:Around) (outer:List Env) (s:Shared) (H:Hp):Prop where
 frames:A.frames = some outer
 mod:Mod K mg base
 bs:∀ b o,base.get? b = some o→s.heap.get? b = some o∧H b = none
 bsz:base.objs.size ≤ s.heap.objs.size
 funs:s.heap.FunFrames base outer
 frf:∀ b ∈ frs outer,H b = none
 hok:HOk P w H s.heap
 bare:AllBare s.gens
def CE (outer:List Env) (P:Program) (w:World) (H:Hp) (s:Shared) (Q:VK) (u:Value) (s':Shared):Prop :=
 ∃ v H',s'.os = s.os∧AllBare s'.gens∧Un (frs outer) [] H H' s.heap s'.heap∧HOk P w H' s'.heap∧RelV v u∧Q v H'
def CR (CX:CXT) (outer:List Env) (P:Program) (w:World) (H:Hp) (s:Shared) (Q:VK) (E:XK) (r:Result) (s':Shared):Prop :=
 match r with
 | .ok (.ret u)=>CE outer P w H s Q u s'
 | .ok _=>False
 | .error e=>CX outer H s E e s'
structure FnOk (P:Program) (w:World) (K:PySem.W.Frag) (mg:Str→Option Value) (base:Heap) (CX:CXT) (k:Nat) (f:Addr) (fd:FuncData) (ps:List Str) (sp:Sp):Prop where
 len:∀ vs H Q E,sp vs H Q E→vs.length = ps.length
 run:∀ (A:Around) (outer:List Env) (s:Shared) (H:Hp) (args:Args) (us:List Value) (vs:List V) (Q:VK) (E:XK),Room k A→Env0 P w K mg base A outer s H→BindsTo s fd args (ps.zip us)→Vals vs us→sp vs H Q E →
  codeAny (model P w) A (.call (.ref f) args) (CR CX outer P w H s Q E) s
section
variable {X:Cx} {pins:List (Addr × Obj)} {σ:St} {H:Hp} {s s':Shared}
theorem Inv.env0 (I:Inv X pins σ H s):Env0 X.prog X.w X.K X.mg X.base X.A X.stack s H :=
 ⟨I.ok.frames,I.ok.mod,I.bs,Nat.le_trans I.ok.bsz I.sz,I.stack,I.stkFree,I.hok,I.bare⟩
theorem Inv.after {Q:VK} {u:Value} (I:Inv X pins σ H s) (h:CE X.stack X.prog X.w H s Q u s'):EP X pins σ Q u s':=by
 obtain ⟨v,H',os,bare,un,hok,r,q⟩:=h
 obtain ⟨hh,g,d,t,os'⟩:=s'
 obtain rfl:os' = s.os:=os
 exact ⟨v,H',I.call (h':=hh) (g':=g) (d':=d) (t':=t) (ch:=[]) un hok bare (fun b z=>absurd z (by simp)),r,q⟩
end
def tCall (sp:Sp) (dvs:List V) (E:XK) (t:TA):TE:=fun σ H Q=>t σ H fun vs H1=>sp (vs ++ dvs) H1 Q E
def Binds (K:PySem.W.Frag) (fd:FuncData) (ps:List Str) (ds:List Value):Prop :=
 ∀ (s:Shared) (us:List Value),K.In s.heap→(us ++ ds).length = ps.length→BindsTo s fd ⟨us,[]⟩ (ps.zip (us ++ ds))
theorem Binds.all {K:PySem.W.Frag} {fd:FuncData} {ps:List Str} (h:∀ us:List Value,us.length = ps.length→bindArgs fd ⟨us,[]⟩ = pure (ps.zip us)):Binds K fd ps []:=fun s us _ hl=>by
 rw [List.append_nil] at hl ⊢
 exact .of_eq (h us hl)
def Passes (CX:CXT) (X:Cx) (E:XK):Prop:=∀ (pins:List (Addr × Obj)) (σ:St) (H:Hp) (s:Shared) (e:Value) (s':Shared),Inv X pins σ H s→CX X.stack H s E e s'→X.xe e s'
section
variable {X:Cx} {CX:CXT} {k:Nat} {f C:Addr} {fd:FuncData} {ps:List Str} {sp:Sp} {dvs:List V} {ds:List Value} {E:XK} {x m:Str} {p pos apos:Pos} {e o:Expr} {es:List Expr} {ta:TE} {t:TA}
theorem run_fn {pins:List (Addr × Obj)} {σ:St} {H:Hp} {s:Shared} {Q:VK} {us:List Value} {vs:List V} (F:FnOk X.prog X.w X.K X.mg X.base CX k f fd ps sp) (hr:Room k X.A) (hb:Binds X.K fd ps ds) (hd:Vals dvs ds) (hx:Passes CX X E)
  (I:Inv X pins σ H s) (r:Vals vs us) (h:sp (vs ++ dvs) H Q E):wpAny (model X.prog X.w) X.A (call (.ref f) us) (EP X pins σ Q) X.xe s:=by
 have r2:Vals (vs ++ dvs) (us ++ ds):=r.append hd
 have hl:(us ++ ds).length = ps.length:=by rw [← r2.length]; exact F.len _ _ _ _ h
 refine wpAny_call (codeAny_mono (F.run X.A X.stack s H ⟨us,[]⟩ (us ++ ds) (vs ++ dvs) Q E hr I.env0 (hb s us I.kIn hl) r2 h) fun r s' hq=>?_)
 cases r with
 | error e=>exact hx pins σ H s e s' I hq
 | ok fl =>
  cases fl with
  | ret u=>exact I.after hq
  | next=>exact False.elim hq
  | brk=>exact False.elim hq
  | cont=>exact False.elim hq
theorem pe_call (F:FnOk X.prog X.w X.K X.mg X.base CX k f fd ps sp) (hr:Room k X.A) (hg:Gl X x) (hm:X.mg x = some (.ref f)) (hk:PySem.W.keepIn X.K (.ref f) = true) (hb:Binds X.K fd ps ds) (hd:Vals dvs ds) (hx:Passes CX X E)
  (ha:PA X (e :: es) t) (hdb:(x == ("__debug__":Str)) = false:=by decide) (he:starEach (e :: es) X.env = (false,eval e X.env) :: starEach es X.env:=by rfl) (hpl:(backTo pos (starEach es X.env)).any (·.1) = false:=by rfl) :
  PE X (.Call (.Name x p) (e :: es) [] pos) (tCall sp dvs E t):=by
 intro pins s σ H Q I h
 refine wpAny_Call_Name_kw (ld_glob I hg hm ?_ hdb)
 refine PySem.W.callWith_K (h₀:=X.base) I.ok.mod.kin hk (thn (ha pos pins s σ H _ I h) fun us s1 ⟨vs,H1,I1,r,q⟩=>⟨I1.kIn,?_⟩) he hpl
 exact run_fn F hr hb hd hx I1 r q
end
section
variable {X:Cx} {CX:CXT} {k:Nat} {f C:Addr} {fd:FuncData} {ps ks:List Str} {sp:Sp} {E:XK} {x m:Str} {p pos apos kpos:Pos} {e o:Expr} {es:List Expr} {kws:List Keyword} {te ta:TE} {t tk:TA} {nm:Option Str}
variable {g:List Value→List Value→List Value} {gV:List V→List V→List V}
end
structure FnScope (N P:List Str) (sc:Scope):Prop where
 kind:sc.kind = .function
 co:sc.isCoroutine = false
 gen:sc.isGenerator = false
 nd:N.Nodup
 pre:N.take P.length = P
 par:∀ x ∈ P,sc.names.lookup x = some .local∨sc.names.lookup x = some .cell
 nofree:∀ y ∈ sc.names,y.2 ≠ .free
theorem bindL_out {kindOf:Str→Option NameKind} {x:Str}:∀ {binds:List (Str × Value)} {m:Str→Option Value},(∀ v,(x,v) ∉ binds)→bindL kindOf binds m x = m x
 | [],_,_=>rfl
 | (n,v) :: r,m,h=>by
  unfold bindL
  rw [bindL_out fun w hw=>h w (List.mem_cons_of_mem _ hw)]
  split
  ·have:x ≠ n:=by rintro rfl; exact h v List.mem_cons_self
   simp [this]
  ·rfl
theorem bindC_out {kindOf:Str→Option NameKind} {x:Str}:∀ {binds:List (Str × Value)} {m:Str→Option Value},(∀ v,(x,v) ∉ binds)→bindC kindOf binds m x = m x
 | [],_,_=>rfl
 | (n,v) :: r,m,h=>by
  unfold bindC
  rw [bindC_out fun w hw=>h w (List.mem_cons_of_mem _ hw)]
  split
  ·rfl
  ·have:x ≠ n:=by rintro rfl; exact h v List.mem_cons_self
   simp [this]
theorem bindL_get {kindOf:Str→Option NameKind} {x:Str} {v:Value}:∀ {P:List Str} {vs:List Value} {i:Nat} {m:Str→Option Value},P.Nodup→P[i]? = some x→vs[i]? = some v→kindOf x = some .local →
  bindL kindOf (P.zip vs) m x = some v
 | [],_,_,_,_,h,_,_=>by simp at h
 | _ :: _,[],_,_,_,_,h,_=>by simp at h
 | p :: P,w :: vs,0,m,nd,h1,h2,hk=>by
  simp at h1 h2; subst h1; subst h2
  show bindL kindOf ((p,w) :: P.zip vs) m p = _
  unfold bindL
  rw [bindL_out fun v hv=>(List.nodup_cons.mp nd).1 (List.of_mem_zip hv).1,if_pos hk]
  simp
 | p :: P,w :: vs,i + 1,m,nd,h1,h2,hk=>by
  show bindL kindOf ((p,w) :: P.zip vs) m x = _
  unfold bindL
  exact bindL_get (i:=i) (List.nodup_cons.mp nd).2 (by simpa using h1) (by simpa using h2) hk
theorem bindC_get {kindOf:Str→Option NameKind} {x:Str} {v:Value}:∀ {P:List Str} {vs:List Value} {i:Nat} {m:Str→Option Value},P.Nodup→P[i]? = some x→vs[i]? = some v→kindOf x ≠ some .local →
  bindC kindOf (P.zip vs) m x = some v
 | [],_,_,_,_,h,_,_=>by simp at h
 | _ :: _,[],_,_,_,_,h,_=>by simp at h
 | p :: P,w :: vs,0,m,nd,h1,h2,hk=>by
  simp at h1 h2; subst h1; subst h2
  show bindC kindOf ((p,w) :: P.zip vs) m p = _
  unfold bindC
  rw [bindC_out fun v hv=>(List.nodup_cons.mp nd).1 (List.of_mem_zip hv).1,if_neg hk]
  simp
 | p :: P,w :: vs,i + 1,m,nd,h1,h2,hk=>by
  show bindC kindOf ((p,w) :: P.zip vs) m x = _
  unfold bindC
  exact bindC_get (i:=i) (List.nodup_cons.mp nd).2 (by simpa using h1) (by simpa using h2) hk
def start (N:List Str) (vs:List V):St:=vs.map some ++ List.replicate (N.length - vs.length) none
def cxOf (CX:CXT) (P:Program) (w:World) (K:PySem.W.Frag) (mg:Str→Option Value) (base:Heap) (N:List Str) (qual:Str) (scope:Scope) (f:Addr) (cd:Value) (A:Around) (outer:List Env) (s:Shared) (H:Hp) (E:XK):Cx where
 prog:=P
 w:=w
 K:=K
 mg:=mg
 base:=base
 A:=A.deeper (envOfC qual scope s.heap.objs.size f cd)
 N:=N
 s₀:=s
 H₀:=H
 env:=envOfC qual scope s.heap.objs.size f cd
 outer:=outer
 stack:=envOfC qual scope s.heap.objs.size f cd :: outer
 ex:=[]
 calm:=true
 fn:=fun _=>true
 pn:=[]
 xe:=fun e s'=>wpAny (model P w) (A.deeper (envOfC qual scope s.heap.objs.size f cd)) (leaving (envOfC qual scope s.heap.objs.size f cd) e) (fun _ s''=>CX outer H s E e s'') (fun e' s''=>CX outer H s E e' s'') s'
theorem cell_has {sc:Scope} {n:Nat} {x:Str} (h:sc.names.lookup x = some .cell):∃ c,(cellsFrom n sc.names []).lookup x = some c:=by
 have q:=PySem.W.cellsFrom_some sc.names n [] (.inl h)
 exact Option.isSome_iff_exists.mp q
theorem inv_start {CX:CXT} {P:Program} {w:World} {K:PySem.W.Frag} {mg:Str→Option Value} {base:Heap} {N ps:List Str} {qual:Str} {scope:Scope} {f:Addr} {cd:Value} {A:Around} {outer:List Env} {s s1:Shared} {H:Hp} {E:XK} {us:List Value} {vs:List V}
  (S:FnScope N ps scope) (hd:A.handled = none) (e0:Env0 P w K mg base A outer s H) (hl:vs.length = ps.length) (r:Vals vs us)
  (x:InCallC s s.heap.objs.size (bindL (envOfC qual scope s.heap.objs.size f cd).kindOf (ps.zip us) fun _=>none) (cellsFrom (s.heap.objs.size + 1) scope.names []) (bindC (envOfC qual scope s.heap.objs.size f cd).kindOf (ps.zip us) fun _=>none) s1) :
  Inv (cxOf CX P w K mg base N qual scope f cd A outer s H E) [] (start N vs) H s1:=by
 have hpl:ps.length ≤ N.length:=by have:=congrArg List.length S.pre; rw [List.length_take] at this; omega
 obtain ⟨h1,tk,rfl,hk⟩:=x.done
 have noA:∀ b:Addr,b ∉ (cxOf CX P w K mg base N qual scope f cd A outer s H E).ex:=fun b z=>absurd (show b ∈ ([]:List Addr) from z) (by simp)
 refine ⟨⟨e0.mod,S.kind,rfl,rfl,Nat.le_refl _,fun y z c h1 h2=>?_,fun y hy=>?_,fun y c _ h=>?_,fun _=>hd,Around.frames_deeper e0.frames,.inr ⟨rfl,rfl⟩,fun b z=>absurd z (noA b),e0.bs,e0.bsz,fun b _ _=>noA b,fun b z=>absurd z (noA b),e0.funs,e0.frf⟩,
  rfl,e0.bare,Un.kept hk,⟨_,x.toInCall.ns,fun i y v h1 h2 h3=>?_⟩,fun y c h=>⟨_,x.cell y c h⟩,e0.hok.fresh (Nat.le_refl _),fun y c h=>?_,fun p hp=>absurd (show p ∈ ([]:List (Addr × Obj)) from hp) (by simp),e0.hok.kept hk,?_⟩
 ·exact name_of_addr x.apart (PySem.mem_of_lookup h1) (PySem.mem_of_lookup h2)
 ·have hy:scope.names.lookup y = some .cell∨scope.names.lookup y = some .free:=hy
  rcases hy with hy | hy
  ·exact cell_has hy
  ·exact absurd rfl (S.nofree _ (PySem.mem_of_lookup hy))
 ·exact Nat.le_of_lt (x.above y c (PySem.mem_of_lookup h))
 ·have hi:i < vs.length:=by
   unfold start at h2
   by_cases hi:i < vs.length
   ·exact hi
   ·rw [List.getElem?_append_right (by simpa using hi)] at h2
    rw [List.getElem?_replicate] at h2
    split at h2 <;> cases h2
  have ha:vs[i]? = some v:=by
   unfold start at h2
   rw [List.getElem?_append_left (by simpa using hi),List.getElem?_map] at h2
   cases e:vs[i]? with
   | none=>rw [e] at h2; cases h2
   | some a=>rw [e] at h2; cases h2; rfl
  obtain ⟨u,hu,rv⟩:=r.get ha
  have hp:ps[i]? = some y:=by
   rw [← S.pre,List.getElem?_take_of_lt (by omega)]; exact h1
  have ndP:ps.Nodup:=by rw [← S.pre]; exact S.nd.sublist (List.take_sublist _ _)
  refine ⟨u,rv,?_⟩
  rcases S.par y (List.mem_of_getElem? hp) with k | k
  ·exact .inl ⟨k,bindL_get ndP hp hu k⟩
  ·obtain ⟨c,e⟩:=cell_has (n:=s.heap.objs.size + 1) k
   refine .inr ⟨.inl k,c,e,?_⟩
   have q:=x.cell y c e
   rw [bindC_get ndP hp hu (by show scope.names.lookup y ≠ _; rw [k]; decide)] at q
   exact q
 ·exact e0.hok.fresh (Nat.le_of_lt (x.above y c (PySem.mem_of_lookup h)))
 ·unfold start
  show _ = N.length
  rw [List.length_append,List.length_map,List.length_replicate]
  omega
theorem fn_of {CX:CXT} {P:Program} {w:World} {K:PySem.W.Frag} {mg:Str→Option Value} {base:Heap} {k:Nat} {f:Addr} {name qual:Str} {params:Arguments} {body:List Stmt} {scope:Scope} {dV kV doc pm cdv ct oc:Value} {an od:Option Addr}
  {osl:Array (Option Value)} {N ps:List Str} {sp:Sp} (lk:K.lookup f = some ⟨oc,od,.func (PySem.W.fnOf name qual params body scope dV kV doc pm an cdv ct),osl⟩) (hcd:PySem.W.codeIn K cdv qual = true) (S:FnScope N ps scope)
  (len:∀ vs H Q E,sp vs H Q E→vs.length = ps.length)
  (hbody:∀ (A:Around) (outer:List Env) (s:Shared) (H:Hp) (vs:List V) (Q:VK) (E:XK),Room k (A.deeper (envOfC qual scope s.heap.objs.size f cdv))→sp vs H Q E →
   ∃ t,PSs (cxOf CX P w K mg base N qual scope f cdv A outer s H E) body t∧t { nx:=fun _ H'=>Q .non H',rt:=Q } (start N vs) H) :
  FnOk P w K mg base CX (k + 1) f (PySem.W.fnOf name qual params body scope dV kV doc pm an cdv ct) ps sp:=by
 refine ⟨len,fun A outer s H args us vs Q E hr e0 hb r hsp=>?_⟩
 have hl:=len _ _ _ _ hsp
 have KX:K.In s.heap:=e0.mod.kin.keeps fun b o e=>(e0.bs b o e).1
 have lim:s.heap.NoLimit:=e0.mod.nolimit.keeps fun b o e=>(e0.bs b o e).1
 have hkind:∀ y ∈ ps.zip us,scope.names.lookup y.1 = some .local∨(scope.names.lookup y.1 = some .cell∧((cellsFrom (s.heap.objs.size + 1) scope.names []).lookup y.1).isSome = true):=fun ⟨n,v⟩ hy=>by
  rcases S.par n (List.of_mem_zip hy).1 with q | q
  ·exact .inl q
  ·exact .inr ⟨q,PySem.W.cellsFrom_some _ _ _ (.inl q)⟩
 refine codeAny_call_function hr.depth (KX _ _ lk) rfl S.co S.gen rfl (PySem.W.codeRec_of KX hcd) (hb _ _ _ _ ?_)
 refine wpAny_newFunctionEnv_cells S.kind hkind fun env he s1 x=>?_
 subst he
 refine ⟨lim.keeps x.toInCall.keep,codeAny_func ?_⟩
 obtain ⟨t,ht,hq⟩:=hbody A outer s H vs Q E (hr.deeper _) hsp
 have I:Inv (cxOf CX P w K mg base N qual scope f cdv A outer s H E) [] (start N vs) H s1:=inv_start S hr.hd e0 hl r x
 refine wpAny_mono (ht [] s1 (start N vs) H _ I hq) (fun fl s' hs=>?_) fun e s' hs=>hs
 have fin:∀ {σ':St} {H':Hp} {v:V} {u:Value},Inv (cxOf CX P w K mg base N qual scope f cdv A outer s H E) [] σ' H' s'→RelV v u→Q v H'→CE outer P w H s Q u s' :=
  fun {σ' H' v u} J rv q=>⟨v,H',J.os,J.bare,J.base,J.hok,rv,q⟩
 cases fl with
 | ret u =>
  obtain ⟨v,σ',H',J,rv,q⟩:=hs
  exact fin J rv q
 | next =>
  obtain ⟨σ',H',J,q⟩:=hs
  exact fin (v:=V.non) (u:=Value.none) J rfl q
 | brk =>
  obtain ⟨_,_,_,q⟩:=hs
  exact False.elim q
 | cont =>
  obtain ⟨_,_,_,q⟩:=hs
  exact False.elim q
end L2
namespace L2
open PySem PySem.Spec PyProof.Rows
section
variable {X:Cx} {x:Str} {p pos:Pos} {e:Expr} {es:List Expr} {t:TA} {id T:String} {r:List V→Hp→VK→Prop}
def tCB (r:List V→Hp→VK→Prop) (t:TA):TE:=fun σ H Q=>t σ H fun vs H1=>r vs H1 Q
theorem pe_callB (hc:CallR X (.builtin id) r) (hg:Gl X x) (hm:X.mg x = none) (hv:bootBuiltins x = some (.builtin id)) (ha:PA X (e :: es) t) (hn:x ≠ "__name__":=by decide) (hdb:(x == ("__debug__":Str)) = false:=by decide)
  (he:starEach (e :: es) X.env = (false,eval e X.env) :: starEach es X.env:=by rfl) (hpl:(backTo pos (starEach es X.env)).any (·.1) = false:=by rfl):PE X (.Call (.Name x p) (e :: es) [] pos) (tCB r t):=by
 intro pins s σ H Q I h
 refine wpAny_Call_Name_kw (ld_blt I hg hm hv ?_ hn hdb)
 exact PyProof.Rows.callWith_builtin1 (thn (ha pos pins s σ H _ I h) fun us s1 ⟨vs,H1,I1,r1,q1⟩=>hc pins s1 σ H1 vs us Q I1 r1 q1) he hpl
theorem pe_callTy (hc:CallR X (.type T) r) (hg:Gl X x) (hm:X.mg x = none) (hv:bootBuiltins x = some (.type T)) (ha:PA X (e :: es) t) (hn:x ≠ "__name__":=by decide) (hdb:(x == ("__debug__":Str)) = false:=by decide)
  (he:starEach (e :: es) X.env = (false,eval e X.env) :: starEach es X.env:=by rfl) (hpl:(backTo pos (starEach es X.env)).any (·.1) = false:=by rfl):PE X (.Call (.Name x p) (e :: es) [] pos) (tCB r t):=by
 intro pins s σ H Q I h
 refine wpAny_Call_Name_kw (ld_blt I hg hm hv ?_ hn hdb)
 exact PyProof.Rows.callWith_type1 (thn (ha pos pins s σ H _ I h) fun us s1 ⟨vs,H1,I1,r1,q1⟩=>hc pins s1 σ H1 vs us Q I1 r1 q1) he hpl
end
end L2
namespace HT
open PySem PyProof.Rows
def lexLt:List Int→List Int→Bool
 | [],[]=>false
 | [],_ :: _=>true
 | _ :: _,[]=>false
 | x :: xs,y :: ys=>if x = y then lexLt xs ys else decide (x < y)
theorem lexLt_cons (x y:Int) (xs ys:List Int):lexLt (x :: xs) (y :: ys) = if x = y then lexLt xs ys else decide (x < y):=rfl
section
open PySem.SeqAt
open PySem.AutoSeq1 (wpAny_loadPart')
open PySem.MeetsSeq PySem.MeetsSeq2 PySem.MeetsSeq3
end
section
variable {prog:Program} {w:World} {A:Around} {E:Value→Shared→Prop} {s:Shared}
theorem cat_tup {t b:Addr} {vs ws:List Value} {Q:Value→Shared→Prop} (ht:IsTup s.heap t vs.toArray) (hb:IsTup s.heap b ws.toArray) (hv:vs ≠ [])
  (h1:ws = []→Q (.ref t) s) (h2:ws ≠ []→Q (.ref s.heap.objs.size) { s with heap:=s.heap.push { cls:=.type "tuple",data:=.seq (vs ++ ws).toArray } })
  (hsz:vs.length + ws.length ≤ sizeLine):wpAny (model prog w) A (binaryOp .Add (.ref t) (.ref b)) Q E s:=by
 obtain ⟨⟨cls,dd,data,sl⟩,ho,hc,n,hd⟩:=id ht
 obtain ⟨⟨cls2,dd2,data2,sl2⟩,ho2,hc2,n2,hd2⟩:=id hb
 simp only at hc hd hc2 hd2
 subst hc hd hc2 hd2
 have e:vs.toArray ++ ws.toArray = (vs ++ ws).toArray:=by simp
 by_cases hw:ws = []
 ·exact concat_meets ⟨_,ho,rfl⟩ ⟨_,ho2,rfl⟩ noFill_tuple_add seq_tuple_add PySem.F.slot_tuple_add PySem.F.entry_tuple_add (PySem.F.args_tuple_add_2 _ _)
   (tuple_addW1 t b vs.toArray ws.toArray n n2 dd dd2 sl sl2 (by simpa using hv) (by simp [hw])) ⟨ho,ho2,h1 hw⟩
 ·refine concat_meets ⟨_,ho,rfl⟩ ⟨_,ho2,rfl⟩ noFill_tuple_add seq_tuple_add PySem.F.slot_tuple_add PySem.F.entry_tuple_add (PySem.F.args_tuple_add_2 _ _)
   (tuple_addW2 t b vs.toArray ws.toArray n n2 dd dd2 sl sl2 (by simpa using hv) (by simpa using hw) (by rw [List.size_toArray,List.size_toArray]; exact hsz)) ⟨ho,ho2,?_⟩
  rw [e]
  exact h2 hw
def sIx (n d:Nat):Option Int→Nat
 | none=>d
 | some v=>if v < 0 then (v + (n:Int)).toNat else min v.toNat n
theorem sIx_le (n d:Nat) (hd:d ≤ n) (o:Option Int):sIx n d o ≤ n:=by
 cases o with
 | none=>exact hd
 | some v =>
  show (if v < 0 then (v + (n:Int)).toNat else min v.toNat n) ≤ n
  by_cases hv:v < 0
  ·rw [if_pos hv]; omega
  ·rw [if_neg hv]; exact Nat.min_le_right _ _
theorem clip_eq (v:Int) (n d:Nat):(if v < 0 then max (v + (n:Int)) 0 else min v (n:Int)) = ((sIx n d (some v):Nat):Int):=by
 show (if v < 0 then max (v + (n:Int)) 0 else min v (n:Int)) = (((if v < 0 then (v + (n:Int)).toNat else min v.toNat n):Nat):Int)
 by_cases hv:v < 0
 ·simp only [if_pos hv]; omega
 ·simp only [if_neg hv]; omega
theorem adjust_gen (lo hi:Option Int) (n:Nat):Builtin.Slice.sliceAdjust lo hi 1 (n:Int) = (((sIx n 0 lo:Nat):Int),((sIx n n hi:Nat):Int)):=by
 have h1:¬ ((1:Int) < 0):=by omega
 unfold Builtin.Slice.sliceAdjust
 simp only [h1,if_false]
 refine Prod.ext ?_ ?_
 ·cases lo with
  | none=>rfl
  | some v=>exact clip_eq v n 0
 ·cases hi with
  | none=>rfl
  | some v=>exact clip_eq v n n
theorem places_gen (i j:Nat):Builtin.Slice.slicePlaces (i:Int) (j:Int) 1 = j - i:=by
 unfold Builtin.Slice.slicePlaces
 have h1:(1:Int) > 0:=by omega
 simp only [h1,if_true,Int.ediv_one]
 split <;> omega
theorem slicePart_ {v:Value} {o:Option Int} {Q:Option Int→Shared→Prop} (p:IsPart v o) (h:Q o s):wpAny (model prog w) A (Builtin.Slice.slicePartIndex v) Q E s:=by
 cases p with
 | none=>exact slicePart_none h
 | int i t=>exact slicePart_int h
theorem sliceApplied_gen {sl:Addr} {vl vu:Value} {lo hi:Option Int} {n:Nat} {Q:Int × Int × Nat→Shared→Prop} (hs:s.heap.IsSliceOf sl vl vu .none) (pl:IsPart vl lo) (pu:IsPart vu hi)
  (h:Q (((sIx n 0 lo:Nat):Int),1,sIx n n hi - sIx n 0 lo) s):wpAny (model prog w) A (Builtin.Slice.sliceApplied (.ref sl) (pure (n:Int))) Q E s:=by
 obtain ⟨os,hos,hcs,hds⟩:=id hs
 unfold Builtin.Slice.sliceApplied Builtin.Slice.sliceFields
 refine wpAny_bind (wpAny_bind (wpAny_field hos hds (x:=vl) rfl (wpAny_bind (wpAny_field hos hds (x:=vu) rfl (wpAny_bind (wpAny_field hos hds (x:=.none) rfl (wpAny_pure ?_)))))))
 refine wpAny_bind (slicePart_none ?_)
 show wpAny _ _ (if ((1:Int) == 0) = true then _ else _) _ _ s
 rw [if_neg (by decide)]
 refine wpAny_bind (slicePart_ pl (wpAny_bind (slicePart_ pu (wpAny_bind (wpAny_pure ?_)))))
 show wpAny _ _ (match Builtin.Slice.sliceAdjust lo hi 1 (n:Int) with | (lo,hi)=>pure (lo,(1:Int),Builtin.Slice.slicePlaces lo hi 1)) _ _ s
 rw [adjust_gen lo hi n]
 show wpAny _ _ (pure (((sIx n 0 lo:Nat):Int),(1:Int),Builtin.Slice.slicePlaces ((sIx n 0 lo:Nat):Int) ((sIx n n hi:Nat):Int) 1)) _ _ s
 rw [places_gen]
 exact wpAny_pure h
theorem pick_gen (xs:Array Value) (i k:Nat):((List.range k).filterMap fun (m:Nat)=>xs[((i:Int) + (m:Int) * 1).toNat]?).toArray = ((xs.toList.drop i).take k).toArray:=by
 have e:(fun (m:Nat)=>xs[((i:Int) + (m:Int) * 1).toNat]?) = fun m=>xs[i + m]?:=by
  funext m
  have:((i:Int) + (m:Int) * 1).toNat = i + m:=by omega
  rw [this]
 rw [e]
 have:=pick_run xs i k
 rw [List.filterMap_map] at this
 have e2:((fun x=>xs[x]?) ∘ fun x=>i + x) = fun m=>xs[i + m]?:=rfl
 rw [e2] at this
 rw [this]
theorem getItem_tuple_cut {t sl:Addr} {items:Array Value} {vl vu:Value} {lo hi:Option Int} {Q:Value→Shared→Prop} (ht:IsTup s.heap t items) (hs:s.heap.IsSliceOf sl vl vu .none) (pl:IsPart vl lo) (pu:IsPart vu hi)
  (hw:¬ (sIx items.size 0 lo = 0∧sIx items.size items.size hi = items.size))
  (h:Q (.ref s.heap.objs.size) { s with heap:=s.heap.push { cls:=.type "tuple",data:=.seq ((items.toList.drop (sIx items.size 0 lo)).take (sIx items.size items.size hi - sIx items.size 0 lo)).toArray } })
  (hsz:items.size ≤ sizeLine):wpAny (model prog w) A (getItem (.ref t) (.ref sl)) Q E s:=by
 have htake:sizeOk (.seq ((items.toList.drop (sIx items.size 0 lo)).take (sIx items.size items.size hi - sIx items.size 0 lo)).toArray):=by
  show ((items.toList.drop (sIx items.size 0 lo)).take (sIx items.size items.size hi - sIx items.size 0 lo)).toArray.size ≤ sizeLine
  rw [List.size_toArray,List.length_take,List.length_drop,Array.length_toList]
  omega
 have hj:sIx items.size items.size hi ≤ items.size:=sIx_le _ _ (Nat.le_refl _) hi
 obtain ⟨os,hos,hcs,hds⟩:=id hs
 have hTs:s.TypeIs (.ref sl) "slice":=⟨os,hos,hcs⟩
 unfold getItem
 try with_reducible refine wpAny_holding ?_
 first | refine wpAny_bind (wpAny_pure ?_) | skip
 refine wpAny_bind (wpAny_sequenceKey ht.typeIs (by decide) ?_)
 refine wpAny_bind (wpAny_callSpecial?_slot (name:=Str.ofString "__getitem__") ht.typeIs PyProof.Rows.slot_tuple_getitem
  (wpAny_call_entry PyProof.Rows.slot_tuple_getitem ht.typeIs entry_tuple_getitem ?_ (args_tuple_getitem _ _)))
 show wpAny _ _ (Builtin.Tuple.tupleItemsOf (.ref t) >>= _) _ _ s
 refine wpAny_bind (tupleItemsOf_ ht ?_)
 refine wpAny_bind (wpAny_typeOf hTs ?_)
 rw [if_pos (by decide)]
 refine wpAny_bind (sliceApplied_gen hs pl pu ?_)
 have hno:¬ ((((sIx items.size 0 lo:Nat):Int) == 0 && (1:Int) == 1 && (sIx items.size items.size hi - sIx items.size 0 lo) == items.size) = true):=by
  intro q
  rw [Bool.and_eq_true,Bool.and_eq_true] at q
  have q1:((sIx items.size 0 lo:Nat):Int) = 0:=eq_of_beq q.1.1
  have q2:sIx items.size items.size hi - sIx items.size 0 lo = items.size:=eq_of_beq q.2
  exact hw ⟨by omega,by omega⟩
 show wpAny _ _ (if (((sIx items.size 0 lo:Nat):Int) == 0 && (1:Int) == 1 && (sIx items.size items.size hi - sIx items.size 0 lo) == items.size) = true then _ else _) _ _ s
 rw [if_neg hno,pick_gen]
 first
  | exact wpAny_bind (m:=Builtin.Tuple.tupleExact _) (wpAny_newObj_type (wpAny_pure ⟨_,rfl,wpAny_pure h⟩) htake)
  | exact wpAny_bind (m:=Builtin.Tuple.tupleExact _) (wpAny_newObj_type (wpAny_bind (wpAny_pure (wpAny_pure ⟨_,rfl,wpAny_pure h⟩))) htake)
  | exact wpAny_bind (wpAny_bind (m:=Builtin.Tuple.tupleExact _) (wpAny_newObj_type (wpAny_pure (wpAny_pure ⟨_,rfl,wpAny_pure h⟩)) htake))
  | exact wpAny_bind (wpAny_bind (m:=Builtin.Tuple.tupleExact _) (wpAny_newObj_type (wpAny_pure ⟨_,rfl,wpAny_pure h⟩) htake))
end
end HT
namespace L2
open PySem PySem.Spec PyProof.Rows
abbrev TO:=St→Hp→(Option Int→Hp→Prop)→Prop
def PO (X:Cx) (e:Option Expr) (t:TO):Prop :=
 ∀ (pins:List (Addr × Obj)) (s:Shared) (σ:St) (H:Hp) (Q:Option Int→Hp→Prop),Inv X pins σ H s→t σ H Q →
  wpAny (model X.prog X.w) X.A (evalPart e X.env) (fun u s'=>∃ o H',Inv X pins σ H' s'∧IsPart u o∧Q o H') X.xe s
def tNoPart:TO:=fun _ H Q=>Q none H
def tPart (t:TE):TO:=fun σ H Q=>t σ H fun x H1=>∃ i,x = .int i∧Q (some i) H1
theorem intsAre_of {ns:List Int}:∀ {us:List Value},Vals (ns.map V.int) us→IntsAre us ns:=by
 induction ns with
 | nil=>intro us r; rw [List.map_nil] at r; cases r; exact .nil
 | cons n ns ih =>
  intro us r
  rw [List.map_cons] at r
  cases r with
  | cons r1 r2 =>
   obtain ⟨t,e⟩:=r1
   subst e
   exact .cons n t (ih r2)
section
variable {X:Cx} {e:Expr} {te:TE} {lo hi:Option Expr} {tl th:TO} {pos p2:Pos}
theorem po_none:PO X none tNoPart:=by
 intro pins s σ H Q I h
 rw [evalPart_none]
 exact wpAny_pure ⟨none,H,I,.none,h⟩
theorem po_some (h:PE X e te):PO X (some e) (tPart te):=by
 intro pins s σ H Q I hw
 rw [evalPart_some]
 refine thn (h pins s σ H _ I hw) fun u s1 ⟨x,H1,I1,r1,q1⟩=>?_
 obtain ⟨i,rfl,q⟩:=q1
 obtain ⟨t,rfl⟩:=r1
 exact ⟨some i,H1,I1,.int i t,q⟩
def SlR (X:Cx) (r:V→Option Int→Option Int→Hp→VK→Prop):Prop :=
 ∀ (pins:List (Addr × Obj)) (s:Shared) (σ:St) (H:Hp) (x:V) (v vl vu:Value) (lo hi:Option Int) (sl:Addr) (Q:VK),Inv X pins σ H s→RelV x v→s.heap.IsSliceOf sl vl vu .none→IsPart vl lo→IsPart vu hi→r x lo hi H Q →
  ∃ T id,typeLookup (.type T) "__getitem__" = pure (some (.builtin id))∧s.TypeIs v T∧wpAny (model X.prog X.w) X.A (getItem v (.ref sl)) (EP X pins σ Q) X.xe s
theorem SlR.or {r r':V→Option Int→Option Int→Hp→VK→Prop} (h:SlR X r) (h':SlR X r'):SlR X (fun x lo hi H Q=>r x lo hi H Q∨r' x lo hi H Q):=by
 intro pins s σ H x v vl vu lo hi sl Q I rx hs pl pu q
 rcases q with q | q
 ·exact h pins s σ H x v vl vu lo hi sl Q I rx hs pl pu q
 ·exact h' pins s σ H x v vl vu lo hi sl Q I rx hs pl pu q
def tSl (r:V→Option Int→Option Int→Hp→VK→Prop) (te:TE) (tl th:TO):TE:=fun σ H Q=>te σ H fun x H1=>tl σ H1 fun l H2=>th σ H2 fun u H3=>r x l u H3 Q
theorem pe_slice {r:V→Option Int→Option Int→Hp→VK→Prop} (hr:SlR X r) (he:PE X e te) (hl:PO X lo tl) (hu:PO X hi th):PE X (.Subscript e (.Slice lo hi none p2) pos) (tSl r te tl th):=by
 intro pins s σ H Q I h
 refine Subscript_ (thn (he pins s σ H _ I h) fun v s1 ⟨x,H1,I1,r1,q1⟩=>?_)
 refine wpAny_Slice (thn (hl pins s1 σ H1 _ I1 q1) fun vl s2 ⟨l,H2,I2,pl,q2⟩=>thn (hu pins s2 σ H2 _ I2 q2) fun vu s3 ⟨u,H3,I3,pu,q3⟩=>?_)
 rw [evalPart_none]
 refine wpAny_pure ?_
 have I4:Inv X pins σ H3 { s3 with heap:=s3.heap.push { cls:=.type "slice",data:=.fields #[vl,vu,.none] } }:=I3.kept (t':=s3.toks) fun b ob q=>Heap.get?_push_of_some _ q
 obtain ⟨T,id,hT,ht,hg⟩:=hr pins { s3 with heap:=s3.heap.push { cls:=.type "slice",data:=.fields #[vl,vu,.none] } } σ H3 x v vl vu l u s3.heap.objs.size Q I4 r1 (Heap.IsSliceOf.new ..) pl pu q3
 show wpAny (model X.prog X.w) X.A (subscriptTail e (.Slice lo hi none p2) v (.ref s3.heap.objs.size)) (EP X pins σ Q) X.xe { s3 with heap:=s3.heap.push { cls:=.type "slice",data:=.fields #[vl,vu,.none] } }
 exact tail_any (ops:=[.ref s3.heap.objs.size,v]) ht hT hg (by with_unfolding_all rfl)
def cutV (xs:List V) (lo hi:Option Int):List V:=(xs.drop (HT.sIx xs.length 0 lo)).take (HT.sIx xs.length xs.length hi - HT.sIx xs.length 0 lo)
theorem cutV_length (xs:List V) (lo hi:Option Int):(cutV xs lo hi).length ≤ xs.length:=by
 unfold cutV
 rw [List.length_take,List.length_drop]
 omega
def rSlT (K:PySem.W.Frag):V→Option Int→Option Int→Hp→VK→Prop:=fun x lo hi H Q=>∃ a xs,x = .ref a∧SqT K H a xs ∧
 ¬ (HT.sIx xs.length 0 lo = 0∧HT.sIx xs.length xs.length hi = xs.length)∧∀ p,H p = none→Q (.ref p) (upd H p (.tup (cutV xs lo hi)))
theorem sl_tup:SlR X (rSlT X.K):=by
 intro pins s σ H x v vl vu lo hi sl Q I rx hs pl pu h
 obtain ⟨a,xs,rfl,hx,hw,q⟩:=h
 cases rx
 obtain ⟨its,r,ht,hz⟩:=I.tuple hx
 have hlen:its.toArray.size = xs.length:=by rw [List.size_toArray]; exact r.length.symm
 refine ⟨"tuple",_,PyProof.Rows.slot_tuple_getitem.lookup,ht.typeIs,?_⟩
 refine HT.getItem_tuple_cut ht hs pl pu (by rw [hlen]; exact hw) ?_ (by rw [hlen]; exact hz)
 rw [hlen]
 refine ⟨.ref s.heap.objs.size,_,I.laid (t':=s.toks) (o:=.tup (cutV xs lo hi)) (fun b ob q=>Heap.get?_push_of_some _ q) (Nat.le_refl _) ?_,rfl,q _ (I.hok.fresh (Nat.le_refl _))⟩
 exact ⟨⟨Nat.le_trans (cutV_length xs lo hi) hz,_,Heap.get?_push_size _ rfl,rfl⟩,_,(r.drop (HT.sIx xs.length 0 lo)).take (HT.sIx xs.length xs.length hi - HT.sIx xs.length 0 lo),IsTup.new _ _⟩
def rCatT (K:PySem.W.Frag):R2:=fun x y H Q=>∃ a b xs ys,x = .ref a∧y = .ref b∧SqT K H a xs∧SqT K H b ys∧xs ≠ []∧xs.length + ys.length ≤ sizeLine ∧
 (ys = []→Q (.ref a) H)∧(ys ≠ []→∀ p,H p = none→Q (.ref p) (upd H p (.tup (xs ++ ys))))
theorem Vals.nil_iff {xs:List V} {us:List Value} (r:Vals xs us):us = [] ↔ xs = []:=by
 cases r with
 | nil=>simp
 | cons _ _=>simp
theorem op_catT:OpR X (binaryOp .Add) (rCatT X.K):=by
 intro pins s σ H x y v u Q I rx ry h
 obtain ⟨a,b,xs,ys,rfl,rfl,ha,hb,hx,hz,q1,q2⟩:=h
 cases rx
 cases ry
 obtain ⟨its,r1,p1,_⟩:=I.tuple ha
 obtain ⟨its2,r2,p2,_⟩:=I.tuple hb
 refine HT.cat_tup p1 p2 (fun z=>hx (r1.nil_iff.mp z)) (fun z=>⟨.ref a,H,I,rfl,q1 (r2.nil_iff.mp z)⟩) (fun z=>?_) (by rw [← r1.length,← r2.length]; exact hz)
 refine ⟨.ref s.heap.objs.size,_,I.laid (t':=s.toks) (o:=.tup (xs ++ ys)) (fun b ob q=>Heap.get?_push_of_some _ q) (Nat.le_refl _) ?_,rfl,q2 (fun w=>z (r2.nil_iff.mpr w)) _ (I.hok.fresh (Nat.le_refl _))⟩
 exact ⟨⟨by rw [List.length_append]; exact hz,_,Heap.get?_push_size _ rfl,rfl⟩,_,r1.append r2,IsTup.new _ _⟩
end
end L2
namespace L2
open PySem PySem.Spec PyProof.Rows
def ixN (n:Nat) (i:Int):Option Nat:=if 0 ≤ i then (if i < n then some i.toNat else none) else if -(n:Int) ≤ i then some (i + n).toNat else none
def atI {α:Type} (xs:List α) (i:Int):Option α:=(ixN xs.length i).bind fun j=>xs[j]?
theorem ixN_seq {n:Nat} {i:Int} {j:Nat} (h:ixN n i = some j):seqIndex? i n = some j∧j < n∧-(n:Int) ≤ i∧i < n:=by
 unfold ixN at h
 by_cases h0:0 ≤ i
 ·rw [if_pos h0] at h
  by_cases h1:i < n
  ·rw [if_pos h1] at h
   have e:i.toNat = j:=Option.some.inj h
   exact ⟨by rw [seqIndex_of h0 h1,e],by omega,by omega,h1⟩
  ·rw [if_neg h1] at h; cases h
 ·rw [if_neg h0] at h
  by_cases h1:-(n:Int) ≤ i
  ·rw [if_pos h1] at h
   have e:(i + n).toNat = j:=Option.some.inj h
   exact ⟨by rw [seqIndex_neg (by omega) h1,e],by omega,h1,by omega⟩
  ·rw [if_neg h1] at h; cases h
theorem atI_get {α:Type} {xs:List α} {i:Int} {v:α} (h:atI xs i = some v):∃ j,seqIndex? i xs.length = some j∧xs[j]? = some v∧j < xs.length∧-(xs.length:Int) ≤ i∧i < xs.length:=by
 unfold atI at h
 cases e:ixN xs.length i with
 | none=>rw [e] at h; cases h
 | some j =>
  rw [e] at h
  obtain ⟨h1,h2,h3,h4⟩:=ixN_seq e
  exact ⟨j,h1,h,h2,h3,h4⟩
theorem atI_nat {α:Type} {xs:List α} {j:Nat} {v:α} (h:xs[j]? = some v):atI xs (j:Int) = some v:=by
 have hj:j < xs.length:=(List.getElem?_eq_some_iff.mp h).1
 have e:ixN xs.length (j:Int) = some j:=by
  unfold ixN
  rw [if_pos (by omega),if_pos (by omega)]; simp
 unfold atI; rw [e]; exact h
def PlainIx (b:Expr):Prop:=∀ o i,subscripted b false o i = operate [o,i] (getItem o i)
def IxR (X:Cx) (r:R2):Prop :=
 ∀ (value slice:Expr) (pins:List (Addr × Obj)) (s:Shared) (σ:St) (H:Hp) (x y:V) (v u:Value) (Q:VK),Inv X pins σ H s→RelV x v→RelV y u→r x y H Q →
  subscripted slice false v u = operate [v,u] (getItem v u)→wpAny (model X.prog X.w) X.A (subscriptTail value slice v u) (EP X pins σ Q) X.xe s
def MtR (X:Cx) (id:String) (r:V→List V→Hp→VK→Prop):Prop :=
 ∀ (pins:List (Addr × Obj)) (s:Shared) (σ:St) (H:Hp) (x:V) (xs:List V) (v:Value) (us:List Value) (Q:VK),Inv X pins σ H s→RelV x v→Vals xs us→r x xs H Q →
  wpAny (model X.prog X.w) X.A (call (.builtin id) (v :: us)) (EP X pins σ Q) X.xe s
section
variable {X:Cx} {a b:Expr} {ta tb:TE} {pos:Pos}
theorem IxR.or {r r':R2} (h:IxR X r) (h':IxR X r'):IxR X (fun x y H Q=>r x y H Q∨r' x y H Q):=by
 intro value slice pins s σ H x y v u Q I rx ry q hs
 rcases q with q | q
 ·exact h value slice pins s σ H x y v u Q I rx ry q hs
 ·exact h' value slice pins s σ H x y v u Q I rx ry q hs
theorem pe_ix {r:R2} (hr:IxR X r) (ha:PE X a ta) (hb:PE X b tb) (hs:PlainIx b):PE X (.Subscript a b pos) (tOp r ta tb):=by
 intro pins s σ H Q I h
 exact Subscript_ (binT ha hb I h fun v u s2 x y H2 I2 rx ry q=>hr a b pins s2 σ H2 x y v u Q I2 rx ry q (hs _ _))
def rIxL (K:PySem.W.Frag):R2:=fun x y H Q=>∃ p xs i v,x = .ref p∧y = .int i∧SqL K H p xs∧atI xs i = some v∧Q v H
def rIxT (K:PySem.W.Frag):R2:=fun x y H Q=>∃ p xs i v,x = .ref p∧y = .int i∧SqT K H p xs∧atI xs i = some v∧Q v H
def rIxS:R2:=fun x y H Q=>∃ z i c,x = .str z∧y = .int i∧z.length ≤ sizeLine∧atI z.cps.toList i = some c∧Q (.str ⟨#[c]⟩) H
theorem ix_list:IxR X (rIxL X.K):=by
 intro value slice pins s σ H x y v u Q I rx ry h hs
 obtain ⟨p,xs,i,z,rfl,rfl,hq,he,q⟩:=h
 cases rx
 obtain ⟨t,rfl⟩:=ry
 obtain ⟨its,r,pl,hz⟩:=I.list hq
 obtain ⟨j,h1,h2,h3,h4,h5⟩:=atI_get he
 obtain ⟨w,ew,rw'⟩:=r.get h2
 have hl:=r.length
 have hn:=line63
 have fin:EP X pins σ Q w s:=⟨z,H,I,rw',q⟩
 by_cases h0:0 ≤ i
 ·have hj:i.toNat = j:=by
   rw [seqIndex_of h0 h5] at h1
   exact Option.some.inj h1
  exact item_listR pl.isList h0 (by omega) (by rw [hj]; simpa using ew) fin hs
 ·have hj:(i + (its.toArray.size:Int)).toNat = j:=by
   rw [seqIndex_neg (by omega) h4] at h1
   rw [List.size_toArray,← hl]
   exact Option.some.inj h1
  exact subscriptTail_builtinR (x:=w) pl.isList.typeIs slot_list_getitem.lookup
   (wpAny_getItem_list_neg (Q:=fun r s'=>r = w∧EP X pins σ Q r s') pl.isList (by omega) (by rw [List.size_toArray] <;> omega) (by omega) (by rw [hj]; simpa using ew) ⟨rfl,fin⟩) hs
theorem ix_tup:IxR X (rIxT X.K):=by
 intro value slice pins s σ H x y v u Q I rx ry h hs
 obtain ⟨p,xs,i,z,rfl,rfl,hq,he,q⟩:=h
 cases rx
 obtain ⟨t,rfl⟩:=ry
 obtain ⟨its,r,pl,hz⟩:=I.tuple hq
 obtain ⟨j,h1,h2,h3,h4,h5⟩:=atI_get he
 obtain ⟨w,ew,rw'⟩:=r.get h2
 have hl:=r.length
 have hn:=line63
 have fin:EP X pins σ Q w s:=⟨z,H,I,rw',q⟩
 exact subscriptTail_builtinR (x:=w) pl.typeIs slot_tuple_getitem.lookup
  (getItem_tuple (j:=j) (Q:=fun r s'=>r = w∧EP X pins σ Q r s') pl (by omega) (by omega) (by rw [List.size_toArray,← hl]; exact h1) (by simpa using ew) ⟨rfl,fin⟩) hs
theorem ix_str:IxR X rIxS:=by
 intro value slice pins s σ H x y v u Q I rx ry h hs
 obtain ⟨z,i,c,rfl,rfl,hz,he,q⟩:=h
 obtain ⟨t,rfl⟩:=rx
 obtain ⟨t',rfl⟩:=ry
 obtain ⟨j,h1,h2,h3,h4,h5⟩:=atI_get he
 have hl:z.cps.toList.length = z.length:=by simp [Str.length]
 rw [hl] at h1 h4 h5
 have hn:=line63
 exact tail_any (typeIs_str s z t) slot_str_getitem.lookup (getItem_str (c:=c) (by
  have e1:decide (i < -(2 ^ 63:Int)) = false:=decide_eq_false (by omega)
  have e2:decide (i ≥ 2 ^ 63) = false:=decide_eq_false (by omega)
  rw [e1,e2,Bool.or_false]) (by rw [h1]; simpa using h2) ⟨.str ⟨#[c]⟩,H,I.tok _,⟨_,rfl⟩,q⟩) hs
def rIx (K:PySem.W.Frag):R2:=fun x y H Q=>rIxL K x y H Q∨rIxT K x y H Q∨rIxS x y H Q
theorem ix_seq:IxR X (rIx X.K):=ix_list.or (ix_tup.or ix_str)
theorem mapSeq_set (its:List Value) (n j:Nat) (u:Value):Obj.mapSeq (·.setIfInBounds j u) { cls:=.type "list",data:=.seq its.toArray n } = { cls:=.type "list",data:=.seq (its.set j u).toArray n }:=by
 simp [Obj.mapSeq]
theorem Inv.lst {pins:List (Addr × Obj)} {σ:St} {H:Hp} {s:Shared} {p:Addr} {xs:List V} (I:Inv X pins σ H s) (h:H p = some (.lst xs)) :
  ∃ (its:List Value) (n:Nat),Vals xs its∧s.heap.get? p = some { cls:=.type "list",data:=.seq its.toArray n }∧xs.length ≤ sizeLine:=by
 obtain ⟨z,its,n,r,e⟩:=I.hok p _ h
 exact ⟨its,n,r,e,z⟩
theorem Inv.lstUpd {pins:List (Addr × Obj)} {σ:St} {H:Hp} {s:Shared} {p:Addr} {xs ys:List V} {its its':List Value} {n n':Nat} {f:Obj→Obj} (I:Inv X pins σ H s) (h:H p = some (.lst xs))
  (ho:s.heap.get? p = some { cls:=.type "list",data:=.seq its.toArray n }) (hf:f { cls:=.type "list",data:=.seq its.toArray n } = { cls:=.type "list",data:=.seq its'.toArray n' }) (r:Vals ys its') (hz:ys.length ≤ sizeLine) (t:Nat) :
  Inv X pins σ (upd H p (.lst ys)) { s with heap:=s.heap.update p f,toks:=t }:=by
 have e:(s.heap.update p f).get? p = some { cls:=.type "list",data:=.seq its'.toArray n' }:=by
  rw [Heap.get?_update_self f ho (by rw [hf] <;> rfl),hf]
 refine I.write (x:=p) (e:=p) (by rw [h]; trivial) (.inl rfl) (fun b u hb q=>(Heap.get?_update_other _ _ (Ne.symm hb)).trans q) ⟨_,e⟩ ?_
 exact ⟨hz,its',n',r,e⟩
def rSetL:V→V→V→Hp→(Hp→Prop)→Prop:=fun o i v H Q=>∃ p xs k j,o = .ref p∧i = .int k∧H p = some (.lst xs)∧ixN xs.length k = some j∧Q (upd H p (.lst (xs.set j v)))
theorem set_list:PSet X rSetL:=by
 intro pins s σ H o i v ov iv u Q I ro ri rv h
 obtain ⟨p,xs,k,j,rfl,rfl,hp,hj,q⟩:=h
 cases ro
 obtain ⟨t,rfl⟩:=ri
 obtain ⟨its,n,r,ho,hz⟩:=I.lst hp
 obtain ⟨h1,h2,h3,h4⟩:=ixN_seq hj
 have hl:=r.length
 have hn:=line63
 have I':Inv X pins σ (upd H p (.lst (xs.set j v))) { s with heap:=s.heap.update p (Obj.mapSeq (·.setIfInBounds j u)) } :=
  I.lstUpd hp ho (mapSeq_set its n j u) (r.set rv j) (by rw [List.length_set]; exact hz) s.toks
 by_cases h0:0 ≤ k
 ·have hk:k.toNat = j:=by
   rw [seqIndex_of h0 h4] at h1
   exact Option.some.inj h1
  exact PySem.W.ki_setAt ho h0 (by omega) (by rw [List.size_toArray,← hl]; exact h4) (by rw [hk]; exact ⟨_,I',q⟩)
 ·have hk:(k + (its.toArray.size:Int)).toNat = j:=by
   rw [seqIndex_neg (by omega) h3] at h1
   rw [List.size_toArray,← hl]
   exact Option.some.inj h1
  exact PySem.W.ki_setBack ho (by omega) (by rw [List.size_toArray,← hl]; exact h3) (by omega) (by rw [hk]; exact ⟨_,I',q⟩)
theorem slice_bounds (lo hi:Option Int) (n:Nat):(sliceBounds lo hi none n).1 = ((HT.sIx n 0 lo:Nat):Int)∧(sliceBounds lo hi none n).2.1 = ((HT.sIx n n hi:Nat):Int)∧(sliceBounds lo hi none n).2.2 = 1:=by
 refine ⟨?_,?_,rfl⟩
 ·cases lo with
  | none=>simp [sliceBounds,HT.sIx]
  | some i =>
   simp only [sliceBounds,HT.sIx,Option.getD_none,show (1:Int) > 0 by decide,if_true]
   by_cases h:i < 0
   ·simp only [h,if_true] <;> omega
   ·simp only [h,if_false] <;> omega
 ·cases hi with
  | none=>simp [sliceBounds,HT.sIx]
  | some i =>
   simp only [sliceBounds,HT.sIx,Option.getD_none,show (1:Int) > 0 by decide,if_true]
   by_cases h:i < 0
   ·simp only [h,if_true] <;> omega
   ·simp only [h,if_false] <;> omega
theorem slicePick_cut (its:List Value) (lo hi:Option Int):slicePick its.toArray lo hi none = ((its.drop (HT.sIx its.length 0 lo)).take (HT.sIx its.length its.length hi - HT.sIx its.length 0 lo)).toArray:=by
 obtain ⟨h1,h2,h3⟩:=slice_bounds lo hi its.toArray.size
 unfold slicePick
 rw [h1,h2,h3]
 simp only [sliceRange_one,pick_run,List.size_toArray] <;> rfl
def rSlL (K:PySem.W.Frag):V→Option Int→Option Int→Hp→VK→Prop:=fun x lo hi H Q=>∃ a xs,x = .ref a∧SqL K H a xs∧∀ p,H p = none→Q (.ref p) (upd H p (.lst (cutV xs lo hi)))
theorem sl_list:SlR X (rSlL X.K):=by
 intro pins s σ H x v vl vu lo hi sl Q I rx hs pl pu h
 obtain ⟨a,xs,rfl,hx,q⟩:=h
 cases rx
 obtain ⟨its,r,ht,hz⟩:=I.list hx
 have hlen:=r.length
 refine ⟨"list",_,slot_list_getitem.lookup,ht.isList.typeIs,?_⟩
 refine wpAny_getItem_list_slice ht.isList hs pl pu .none (by simp) ?_ (by rw [List.size_toArray] <;> omega)
 rw [slicePick_cut,← hlen]
 refine ⟨.ref s.heap.objs.size,_,I.laid (t':=s.toks) (o:=.lst (cutV xs lo hi)) (fun b ob q=>Heap.get?_push_of_some _ q) (Nat.le_refl _) ?_,rfl,q _ (I.hok.fresh (Nat.le_refl _))⟩
 exact ⟨Nat.le_trans (cutV_length xs lo hi) hz,_,0,(r.drop (HT.sIx xs.length 0 lo)).take (HT.sIx xs.length xs.length hi - HT.sIx xs.length 0 lo),Heap.get?_push_size _ rfl⟩
theorem call_len_seq:CallR X (.builtin "len") (fun xs H Q=>∃ p ys,xs = [.ref p]∧(SqL X.K H p ys∨SqT X.K H p ys)∧Q (.int ys.length) H):=by
 intro pins s σ H xs us Q I r h
 obtain ⟨p,ys,rfl,hq,q⟩:=h
 obtain ⟨u,rfl,rx⟩:=vals1 r
 cases rx
 have hn:=line63
 rcases hq with hq | hq
 ·obtain ⟨its,r',pl,hz⟩:=I.list hq
  have hlen:=r'.length
  exact Calls.call_len_list pl.isList (by simp only [List.size_toArray] <;> omega) ⟨.int ys.length,H,I.tok _,⟨s.toks + 1,by rw [List.size_toArray,hlen]⟩,q⟩
 ·obtain ⟨its,r',pl,hz⟩:=I.tuple hq
  have hlen:=r'.length
  exact len_tuple pl (by simp only [List.size_toArray] <;> omega) ⟨.int ys.length,H,I.tok _,⟨s.toks + 1,by rw [List.size_toArray,hlen]⟩,q⟩
theorem call_len_str:CallR X (.builtin "len") (fun xs H Q=>∃ z,xs = [.str z]∧z.length ≤ sizeLine∧Q (.int z.length) H):=by
 intro pins s σ H xs us Q I r h
 obtain ⟨z,rfl,hz,q⟩:=h
 obtain ⟨u,rfl,t,rfl⟩:=vals1 r
 have hn:=line63
 exact len_str (by omega) ⟨.int z.length,H,I.tok _,⟨_,rfl⟩,q⟩
theorem CallR.or {f:Value} {r r':List V→Hp→VK→Prop} (h:CallR X f r) (h':CallR X f r'):CallR X f (fun xs H Q=>r xs H Q∨r' xs H Q):=by
 intro pins s σ H xs us Q I rs q
 rcases q with q | q
 ·exact h pins s σ H xs us Q I rs q
 ·exact h' pins s σ H xs us Q I rs q
theorem call_list_of:CallR X (.type "list") (fun xs H Q=>∃ p ys,xs = [.ref p]∧(SqL X.K H p ys∨SqT X.K H p ys)∧∀ l,H l = none→Q (.ref l) (upd H l (.lst ys))):=by
 intro pins s σ H xs us Q I r h
 obtain ⟨p,ys,rfl,hq,q⟩:=h
 obtain ⟨u,rfl,rx⟩:=vals1 r
 cases rx
 have fin:∀ (its:List Value),Vals ys its→ys.length ≤ sizeLine→∀ (h':Heap) (c':Nat),(∀ b o',s.heap.get? b = some o'→h'.get? b = some o') →
   h'.get? s.heap.objs.size = some { cls:=.type "list",dict:=none,data:=.seq its.toArray c',slots:=#[] }→EP X pins σ Q (.ref s.heap.objs.size) { s with heap:=h' }:=fun its r' hz h' c' kp e =>
  ⟨.ref s.heap.objs.size,_,I.laid (t':=s.toks) kp (Nat.le_refl _) (show ObjOk X.prog X.w _ h' _ (.lst ys) from ⟨hz,its,c',r',e⟩),rfl,q _ (I.hok.fresh (Nat.le_refl _))⟩
 rcases hq with hq | hq
 ·obtain ⟨its,r',pl,hz⟩:=I.list hq
  have hlen:=r'.length
  obtain ⟨o,ho,hc,n,hd⟩:=pl.isList
  exact call_list_seq p (.inl rfl) ho hc hd (fun h' c' kp e=>fin its r' hz h' c' kp e) (by simp only [List.size_toArray] <;> omega)
 ·obtain ⟨its,r',pl,hz⟩:=I.tuple hq
  have hlen:=r'.length
  obtain ⟨o,ho,hc,n,hd⟩:=pl
  exact call_list_seq p (.inr rfl) ho hc hd (fun h' c' kp e=>fin its r' hz h' c' kp e) (by simp only [List.size_toArray] <;> omega)
theorem call_tuple_of:CallR X (.type "tuple") (fun xs H Q=>∃ p ys,xs = [.ref p]∧((SqL X.K H p ys∧∀ l,H l = none→Q (.ref l) (upd H l (.tup ys)))∨(SqT X.K H p ys∧Q (.ref p) H))):=by
 intro pins s σ H xs us Q I r h
 obtain ⟨p,ys,rfl,h⟩:=h
 obtain ⟨u,rfl,rx⟩:=vals1 r
 cases rx
 rcases h with ⟨hq,q⟩ | ⟨hq,q⟩
 ·obtain ⟨its,r',pl,hz⟩:=I.list hq
  have hlen:=r'.length
  refine call_tuple_list pl.isList (fun h' kp=>?_) (by simp only [List.size_toArray] <;> omega)
  have I1:Inv X pins σ H { s with heap:=h' }:=I.kept (t':=s.toks) kp
  have I2:Inv X pins σ (upd H h'.objs.size (.tup ys)) { s with heap:=h'.push { cls:=.type "tuple",data:=.seq its.toArray } } :=
   I1.laid (t':=s.toks) (fun b o e=>Heap.get?_push_of_some _ e) (Nat.le_refl _) (show ObjOk X.prog X.w _ _ _ (.tup ys) from ⟨⟨hz,_,Heap.get?_push_size _ rfl,rfl⟩,its,r',IsTup.new _ _⟩)
  exact ⟨.ref h'.objs.size,_,I2,rfl,q _ (I1.hok.fresh (Nat.le_refl _))⟩
 ·obtain ⟨its,r',pl,hz⟩:=I.tuple hq
  exact call_tuple_same pl ⟨.ref p,H,I,rfl,q⟩
def tyV (K:PySem.W.Frag) (T:String) (x:V) (H:Hp):Prop:=match x with
 | .str _=>T = "str"
 | .int _=>T = "int"
 | .ref p=>(T = "list"∧∃ xs,SqL K H p xs)∨(T = "tuple"∧∃ o,K.lookup p = some o∧o.cls = .type "tuple"∧o.dict = none) ∨
   (T = "dict"∧((∃ kvs,H p = some (.dK kvs))∨∃ kvs,H p = some (.dT kvs)))∨(T = "set"∧∃ S n,H p = some (.set S n))
 | _=>False
theorem tyV_is {pins:List (Addr × Obj)} {σ:St} {H:Hp} {s:Shared} {T:String} {x:V} {v:Value} (I:Inv X pins σ H s) (r:RelV x v) (ty:tyV X.K T x H) :
  s.TypeIs v T∧∀ a,v = .ref a→∃ ob,s.heap.get? a = some ob∧ob.dict = none:=by
 cases x with
 | str z =>
  obtain ⟨t,rfl⟩:=r
  cases (show T = "str" from ty)
  exact ⟨typeIs_str s z t,fun _ e=>nomatch e⟩
 | int i =>
  obtain ⟨t,rfl⟩:=r
  cases (show T = "int" from ty)
  exact ⟨typeIs_int s i t,fun _ e=>nomatch e⟩
 | ref p =>
  cases r
  rcases ty with ⟨rfl,xs,hq⟩ | ⟨rfl,o,hk,hc,hd⟩ | ⟨rfl,hk⟩ | ⟨rfl,S,n,hk⟩
  ·obtain ⟨its,_,pl,_⟩:=I.list hq
   refine ⟨pl.isList.typeIs,fun a e=>?_⟩
   cases e
   obtain ⟨o,n,e,c,hd,_⟩:=pl
   exact ⟨o,e,hd⟩
  ·refine ⟨⟨o,I.kIn p o hk,hc⟩,fun a e=>?_⟩
   cases e
   exact ⟨o,I.kIn _ o hk,hd⟩
  ·have z:∃ o,s.heap.get? p = some o∧o.ExactDict:=by
    rcases hk with ⟨kvs,hk⟩ | ⟨kvs,hk⟩
    ·obtain ⟨_,_,_,_,o,_,_,e,ex,_⟩:=I.hok p _ hk
     exact ⟨o,e,ex⟩
    ·obtain ⟨_,_,_,_,o,_,_,e,ex,_⟩:=I.hok p _ hk
     exact ⟨o,e,ex⟩
   obtain ⟨o,e,ex⟩:=z
   refine ⟨⟨o,e,ex.1⟩,fun a e2=>?_⟩
   cases e2
   exact ⟨o,e,ex.2.1⟩
  ·obtain ⟨o,_,_,_,e,ex,_⟩:=I.hok p _ hk
   refine ⟨⟨o,e,ex.1⟩,fun a e2=>?_⟩
   cases e2
   exact ⟨o,e,ex.2.1⟩
 | _=>exact False.elim ty
def tBM (K:PySem.W.Frag) (T:String) (r:V→List V→Hp→VK→Prop) (to:TE) (t:TA):TE:=fun σ H Q=>to σ H fun x H1=>tyV K T x H1∧t σ H1 fun xs H2=>r x xs H2 Q
variable {o e:Expr} {es:List Expr} {to:TE} {t:TA} {name:Str} {apos cpos:Pos} {T id:String} {r:V→List V→Hp→VK→Prop}
theorem pe_bm (pa:PlainAttrs T) (slot:Slot T name id) (hty:typeOf (.builtin id) = pure (.type "method_descriptor")) (hm:MtR X id r) (ho:PE X o to) (ha:PA X (e :: es) t)
  (hbase:attributeBase o name X.env (eval o X.env) = eval o X.env:=by rfl)
  (hfew:((backTo cpos (starEach (e :: es) X.env)).all (fun x=>!x.1) && (backToKw cpos (keywordEach [] X.env)).all (fun x=>x.1.isSome)
   && decide ((e :: es).length + ([]:List Keyword).length + (if ([]:List Keyword).isEmpty then 0 else 1) < 30)) = true:=by rfl)
  (hline:(apos.endLine == cpos.line) = true:=by rfl) (hs:starEach (e :: es) X.env = (false,eval e X.env) :: starEach es X.env:=by rfl) (hplain:(backTo cpos (starEach es X.env)).any (·.1) = false:=by rfl) :
  PE X (.Call (.Attribute o name apos) (e :: es) [] cpos) (tBM X.K T r to t):=by
 intro pins s σ H Q I h
 refine wpAny_Call_method_late hbase hfew hline rfl (thn (ho pins s σ H _ I h) fun v s1 ⟨x,H1,I1,r1,ty,q1⟩=>?_)
 obtain ⟨h1,h2⟩:=tyV_is I1 r1 ty
 refine ⟨T,id,pa,slot,hty,h1,h2,?_⟩
 have hA:=ha cpos pins s1 σ H1 _ I1 q1
 rw [hs] at hA ⊢
 refine Calls.callWith_builtin (by show (false || (backTo cpos (starEach es X.env)).any (·.1)) = false; rw [hplain] <;> rfl) (Calls.evalArgs_plain ?_)
 exact thn hA fun us s2 ⟨vs,H2,I2,r2,q2⟩=>hm pins s2 σ H2 x vs v us Q I2 r1 r2 q2
end
end L2
namespace L2
open PySem PySem.Spec PyProof.Rows
def MtM (X:Cx) (id:String) (r:V→List V→Hp→VK→Prop):Prop :=
 ∀ (pins:List (Addr × Obj)) (s:Shared) (σ:St) (H:Hp) (x:V) (xs:List V) (v:Value) (us:List Value) (Q:VK),Inv X pins σ H s→RelV x v→Vals xs us→r x xs H Q →
  wpAny (model X.prog X.w) X.A (call (.builtin id) (v :: us)) (EP X pins σ Q) X.xe s
theorem Vals.one:∀ {x:V} {us:List Value},Vals [x] us→∃ u,us = [u]∧RelV x u
 | _,_,.cons r .nil=>⟨_,rfl,r⟩
theorem Vals.rep {xs:List V} {us:List Value} (h:Vals xs us):∀ k:Nat,Vals (List.replicate k xs).flatten (List.replicate k us).flatten
 | 0=>.nil
 | k + 1=>by
  rw [List.replicate_succ,List.replicate_succ,List.flatten_cons,List.flatten_cons]
  exact Vals.append h (Vals.rep h k)
theorem foldl_rep (its:List Value):∀ (k:Nat) (acc:List Value),
  List.foldl (fun x1 x2=>x1 ++ x2) acc.toArray (List.replicate k its.toArray) = (acc ++ (List.replicate k its).flatten).toArray
 | 0,acc=>by simp
 | k + 1,acc=>by
  have e:acc.toArray ++ its.toArray = (acc ++ its).toArray:=by simp
  have e2:(acc ++ its) ++ (List.replicate k its).flatten = acc ++ (List.replicate (k + 1) its).flatten:=by
   rw [List.replicate_succ,List.flatten_cons,List.append_assoc]
  rw [← e2,← foldl_rep its k (acc ++ its),← e,List.replicate_succ,List.foldl_cons]
section
variable {X:Cx} {pins:List (Addr × Obj)} {σ:St} {H:Hp} {s:Shared} {l b:Addr} {xs ys zs:List V}
theorem Inv.lset {its its':List Value} {n:Nat} {f:Array Value→Array Value} {t':Nat} (I:Inv X pins σ H s) (hH:H l = some (.lst xs))
  (e:s.heap.get? l = some { cls:=.type "list",data:=.seq its.toArray n }) (hf:f its.toArray = its'.toArray) (hv:Vals ys its') (hz:ys.length ≤ sizeLine) :
  Inv X pins σ (upd H l (.lst ys)) { s with heap:=s.heap.update l (Obj.mapSeq f),toks:=t' }:=by
 have q:=PySem.IsL.update e f
 rw [hf] at q
 refine I.write (x:=l) (e:=l) (by rw [hH]; exact trivial) (.inl rfl) (fun b' u hb hu=>(Heap.get?_update_other s.heap (Obj.mapSeq f) (Ne.symm hb)).trans hu) ⟨_,q⟩ ?_
 exact ⟨hz,its',_,hv,q⟩
theorem Inv.lnew {its:List Value} {t':Nat} (I:Inv X pins σ H s) (hv:Vals ys its) (hz:ys.length ≤ sizeLine) :
  Inv X pins σ (upd H s.heap.objs.size (.lst ys)) { s with heap:=s.heap.push { cls:=.type "list",data:=.seq its.toArray },toks:=t' } :=
 I.laid (fun _ _ q=>Heap.get?_push_of_some _ q) (Nat.le_refl _) ⟨hz,its,0,hv,Heap.get?_push_size _ rfl⟩
theorem Inv.fresh (I:Inv X pins σ H s):H s.heap.objs.size = none:=I.hok.fresh (Nat.le_refl _)
theorem Inv.lstM (I:Inv X pins σ H s) (hH:H l = some (.lst xs)):xs.length ≤ sizeLine∧∃ (its:List Value) (n:Nat),Vals xs its∧xs.length = its.length∧s.heap.get? l = some { cls:=.type "list",data:=.seq its.toArray n }:=by
 obtain ⟨z,its,n,r,e⟩:=I.hok l _ hH
 exact ⟨z,its,n,r,r.length,e⟩
theorem notLongL {n:Nat} (h:n ≤ sizeLine):Builtin.List.listTooLong n = false:=by
 unfold Builtin.List.listTooLong
 exact decide_eq_false (by omega)
end
section
variable {X:Cx}
def rAppend:V→List V→Hp→VK→Prop:=fun x vs H Q=>∃ l xs y,x = .ref l∧vs = [y]∧H l = some (.lst xs)∧xs.length < sizeLine∧Q .non (upd H l (.lst (xs ++ [y])))
theorem mt_append:MtM X "list.append" rAppend:=by
 intro pins s σ H x vs v us Q I rx rv h
 obtain ⟨l,xs,y,rfl,rfl,hH,hz,q⟩:=h
 cases rx
 obtain ⟨u,rfl,ru⟩:=rv.one
 obtain ⟨z,its,n,r,hl,e⟩:=I.lstM hH
 refine call_meets F.slot_list_append ⟨_,e,rfl⟩ F.entry_list_append (F.args_list_append_2 _ _) (PySem.list_append l its.toArray n u (by rw [List.size_toArray]; omega)) ⟨e,?_⟩
 refine ⟨.non,_,I.lset (its':=its ++ [u]) hH e (by simp) (r.append (.cons ru .nil)) ?_,rfl,q⟩
 rw [List.length_append,List.length_singleton]
 omega
def rExtend:V→List V→Hp→VK→Prop:=fun x vs H Q=>∃ l b xs zs,x = .ref l∧vs = [.ref b]∧H l = some (.lst xs)∧H b = some (.lst zs)∧xs.length + zs.length ≤ sizeLine∧Q .non (upd H l (.lst (xs ++ zs)))
theorem mt_extend:MtM X "list.extend" rExtend:=by
 intro pins s σ H x vs v us Q I rx rv h
 obtain ⟨l,b,xs,zs,rfl,rfl,hH,hB,hz,q⟩:=h
 cases rx
 obtain ⟨u,rfl,ru⟩:=rv.one
 cases ru
 obtain ⟨z,its,n,r,hl,e⟩:=I.lstM hH
 obtain ⟨z2,its2,n2,r2,hl2,e2⟩:=I.lstM hB
 have hsz:its.toArray.size + its2.toArray.size ≤ sizeLine:=by rw [List.size_toArray,List.size_toArray]; omega
 have hlong:¬ (!its.toArray.isEmpty && Builtin.List.listTooLong (its.toArray.size + its2.toArray.size)) = true:=by
  rw [notLongL hsz,Bool.and_false]
  exact Bool.false_ne_true
 refine call_meets F.slot_list_extend ⟨_,e,rfl⟩ F.entry_list_extend (F.args_list_extend_2 _ _)
  (AutoSeq1.list_extend_list_list_0 l its.toArray n b its2.toArray n2 hlong (by rw [List.size_toArray]; omega) (by omega)) ⟨e,e2,?_⟩
 refine ⟨.non,_,I.lset (its':=its ++ its2) hH e (by simp) (r.append r2) ?_,rfl,q⟩
 rw [List.length_append]
 omega
def rCat:R2:=fun x y H Q=>∃ l b xs zs,x = .ref l∧y = .ref b∧H l = some (.lst xs)∧H b = some (.lst zs)∧xs.length + zs.length ≤ sizeLine∧∀ p,H p = none→Q (.ref p) (upd H p (.lst (xs ++ zs)))
theorem op_cat:OpR X (binaryOp .Add) rCat:=by
 intro pins s σ H x y v u Q I rx ry h
 obtain ⟨l,b,xs,zs,rfl,rfl,hH,hB,hz,q⟩:=h
 cases rx
 cases ry
 obtain ⟨z,its,n,r,hl,e⟩:=I.lstM hH
 obtain ⟨z2,its2,n2,r2,hl2,e2⟩:=I.lstM hB
 refine PySem.P.add_list e e2 ?_ (by rw [List.size_toArray,List.size_toArray]; omega)
 have ea:its.toArray ++ its2.toArray = (its ++ its2).toArray:=by simp
 rw [ea]
 exact ⟨.ref _,_,I.lnew (t':=s.toks) (r.append r2) (by rw [List.length_append]; omega),rfl,q _ I.fresh⟩
def rRep:R2:=fun x y H Q=>∃ l k xs,x = .ref l∧y = .int k∧H l = some (.lst xs)∧-(2 ^ 63) ≤ k∧k < 2 ^ 63∧xs.length * k.toNat ≤ sizeLine ∧
 ∀ p,H p = none→Q (.ref p) (upd H p (.lst (List.replicate k.toNat xs).flatten))
theorem len_rep {α:Type} (xs:List α) (k:Nat):(List.replicate k xs).flatten.length = k * xs.length:=by
 induction k with
 | zero=>simp
 | succ k ih=>rw [List.replicate_succ,List.flatten_cons,List.length_append,ih,Nat.succ_mul,Nat.add_comm]
theorem op_rep:OpR X (binaryOp .Mult) rRep:=by
 intro pins s σ H x y v u Q I rx ry h
 obtain ⟨l,k,xs,rfl,rfl,hH,h1,h2,hz,q⟩:=h
 cases rx
 obtain ⟨t,rfl⟩:=ry
 obtain ⟨z,its,n,r,hl,e⟩:=I.lstM hH
 have hlen:its.toArray.size * k.toNat ≤ sizeLine:=by rw [List.size_toArray,← hl]; exact hz
 have hcap:¬ its.toArray.size * k.toNat > (2 ^ 63 - 1) / 8:=by
  have:(sizeLine:Nat) ≤ (2 ^ 63 - 1) / 8:=by decide
  omega
 have hfit:¬ (!Builtin.List.listFitsIndex k) = true:=by
  rw [fitsIndex_both h1 h2]
  exact Bool.false_ne_true
 have hlong:¬ Builtin.List.listTooLong (its.toArray.size * k.toNat) = true:=by
  rw [notLongL hlen]
  exact Bool.false_ne_true
 have hnew:List.foldl (fun x1 x2=>x1 ++ x2) #[] (List.replicate (if its.toArray.isEmpty = true then 0 else k.toNat) its.toArray) = (List.replicate k.toNat its).flatten.toArray:=by
  have f0:∀ m:Nat,List.foldl (fun x1 x2=>x1 ++ x2) #[] (List.replicate m its.toArray) = (List.replicate m its).flatten.toArray:=fun m=>by
   have:=foldl_rep its m []
   rw [List.nil_append] at this
   exact this
  rw [f0]
  cases its with
  | nil=>simp
  | cons a r'=>rw [if_neg (by simp)]
 refine wpAny_binaryOp_repeat_ref (T:="list") (U:="int") (by decide) ⟨_,e,rfl⟩ (fun s'=>typeIs_int s' k t) noFill_list_mul F.fills_int_mul F.slot_int_rmul repeat_list F.slot_int_index.lookup
  (call_meets F.slot_int_rmul (typeIs_int s k t) F.entry_int_rmul (F.args_int_rmul_2 _ _) (int___rmul___int_list k t l its.toArray n)
   ⟨e,rfl,⟨_,e,rfl⟩,call_meets F.slot_list_mul ⟨_,e,rfl⟩ F.entry_list_mul (F.args_list_mul_2 _ _) (AutoListH.list___mul___list_int_3 l its.toArray n k t hfit hcap hlong) ⟨e,?_⟩⟩)
 rw [hnew]
 exact ⟨.ref _,_,I.lnew (t':=s.toks) (r.rep k.toNat) (by rw [len_rep,Nat.mul_comm]; exact hz),rfl,q _ I.fresh⟩
end
section
variable {prog:Program} {w:World} {A:Around} {E:Value→Shared→Prop} {s:Shared}
set_option maxRecDepth 100000 in
end
section
variable {X:Cx}
end
end L2
namespace L2
open PySem PySem.Spec PyProof.Rows
section
variable {κ:Type} [DecidableEq κ]
def valV (kvs:List (κ × V)) (k:κ):Option V:=(kvs.find? fun kv=>decide (kv.1 = k)).map (·.2)
def putK (kvs:List (κ × V)) (k:κ) (v:V):List (κ × V) :=
 if (kvs.any fun kv=>decide (kv.1 = k)) = true then kvs.map (fun kv=>if kv.1 = k then (kv.1,v) else kv) else kvs ++ [(k,v)]
theorem valV_pos {p:κ × V} {r:List (κ × V)} {k:κ} (e:p.1 = k):valV (p :: r) k = some p.2:=by simp [valV,List.find?_cons,e]
theorem valV_neg {p:κ × V} {r:List (κ × V)} {k:κ} (e:¬ p.1 = k):valV (p :: r) k = valV r k:=by simp [valV,List.find?_cons,e]
theorem length_putK (kvs:List (κ × V)) (k:κ) (v:V):(putK kvs k v).length ≤ kvs.length + 1:=by
 unfold putK
 split
 ·rw [List.length_map]; omega
 ·rw [List.length_append,List.length_cons,List.length_nil]; omega
theorem KV.val {kvs:List (κ × V)} {vs:List (κ × Value)} (r:KV kvs vs) (k:κ):RelO (valV kvs k) (valueAt vs k):=by
 unfold KV at r
 induction r with
 | nil=>exact True.intro
 | @cons p q ps qs h t ih =>
  obtain ⟨h1,h2⟩:=h
  by_cases e:p.1 = k
  ·have e':q.1 = k:=h1.symm.trans e
   have b:valueAt (q :: qs) k = some q.2:=by simp [valueAt,List.find?_cons,e']
   rw [valV_pos e,b]; exact h2
  ·have e':¬ q.1 = k:=fun z=>e (h1.trans z)
   have b:valueAt (q :: qs) k = valueAt qs k:=by simp [valueAt,List.find?_cons,e']
   rw [valV_neg e,b]; exact ih
theorem KV.any {kvs:List (κ × V)} {vs:List (κ × Value)} (r:KV kvs vs) (k:κ):(kvs.any fun kv=>decide (kv.1 = k)) = vs.any fun kv=>decide (kv.1 = k):=by
 unfold KV at r
 induction r with
 | nil=>rfl
 | cons h t ih=>rw [List.any_cons,List.any_cons,ih,h.1]
theorem KV.repl {kvs:List (κ × V)} {vs:List (κ × Value)} (r:KV kvs vs) (k:κ) {y:V} {u:Value} (ry:RelV y u) :
  KV (kvs.map fun kv=>if kv.1 = k then (kv.1,y) else kv) (vs.map fun kv=>if kv.1 = k then (kv.1,u) else kv):=by
 unfold KV at r ⊢
 induction r with
 | nil=>exact .nil
 | @cons p q ps qs h t ih =>
  rw [List.map_cons,List.map_cons]
  refine .cons ?_ ih
  obtain ⟨h1,h2⟩:=h
  by_cases e:p.1 = k
  ·rw [if_pos e,if_pos (h1.symm.trans e)]; exact ⟨h1,ry⟩
  ·rw [if_neg e,if_neg (fun z=>e (h1.trans z))]; exact ⟨h1,h2⟩
theorem KV.put {kvs:List (κ × V)} {vs:List (κ × Value)} (r:KV kvs vs) (k:κ) {y:V} {u:Value} (ry:RelV y u):KV (putK kvs k y) (stored vs k u):=by
 unfold putK stored
 rw [r.any k]
 by_cases e:(vs.any fun kv=>decide (kv.1 = k)) = true
 ·rw [if_pos e,if_pos e]; exact r.repl k ry
 ·rw [if_neg e,if_neg e]; exact Paired.snoc r ⟨rfl,ry⟩
theorem KV.length {kvs:List (κ × V)} {vs:List (κ × Value)} (r:KV kvs vs):kvs.length = vs.length:=Paired.length r
end
theorem kV_is {P:Program} {w:World} {k:Key} {u:Value} (r:RelV (kV k) u):(mixKind P w).is k u = true:=by
 cases k with
 | inl i=>obtain ⟨t,e⟩:=(show ∃ t,u = Value.int i t from r); subst e; exact mixKind_int P w i t
 | inr x=>obtain ⟨t,e⟩:=(show ∃ t,u = Value.str x t from r); subst e; exact mixKind_str P w x t
theorem items_are {P:Program} {w:World}:∀ {ks:List Key} {us:List Value},Vals (ks.map kV) us→ItemsAre (mixKind P w) ks us
 | [],_,r=>by rw [List.map_nil] at r; cases r; exact .nil
 | k :: ks,_,r=>by
  rw [List.map_cons] at r
  cases r with
  | cons h t=>exact .cons (kV_is h) (items_are t)
abbrev KT (H:Hp):List (List Key × V)→List (List Key × Addr × Value)→Prop:=Paired fun p q=>p.1 = q.1∧H q.2.1 = some (.tup (p.1.map kV))∧RelV p.2 q.2.2
section
variable {P:Program} {w:World} {H:Hp} {h:Heap} {a:Addr}
theorem rd_of {u:HO} (ok:HOk P w H h) (e:Rd H a u):ObjOk P w H h a u:=e.ok ok
theorem dk_rd {kvs:List (Key × V)} (ok:HOk P w H h) (e:Rd H a (.dK kvs)):kvs.length ≤ sizeLine∧(a == sysModules) = false∧∃ vs,KV kvs vs∧h.DictOf (mixKind P w) a vs :=
 show ObjOk P w H h a (.dK kvs) from rd_of ok e
theorem dk_of {kvs:List (Key × V)} (ok:HOk P w H h) (e:H a = some (.dK kvs)):kvs.length ≤ sizeLine∧(a == sysModules) = false∧∃ vs,KV kvs vs∧h.DictOf (mixKind P w) a vs:=dk_rd ok (.inl e)
theorem key_of {ks:List Key} (ok:HOk P w H h) (e:H a = some (.tup (ks.map kV))):(tupleKind (mixKind P w)).is h ks a:=by
 obtain ⟨_,its,r,o,h1,h2,n,h3⟩:=(show ObjOk P w H h a (.tup (ks.map kV)) from ok a _ e)
 exact ⟨o,its.toArray,n,h1,h2,h3,by simpa using items_are r⟩
theorem dt_rd {kvs:List (List Key × V)} (ok:HOk P w H h) (e:Rd H a (.dT kvs)):kvs.length ≤ sizeLine∧(a == sysModules) = false ∧
  ∃ xs,KT H kvs xs∧h.DictOfH (tupleKind (mixKind P w)) a xs:=by
 obtain ⟨z,y,xs,r,o,es,ep,h1,h2,h3,h4,h5⟩:=(show ObjOk P w H h a (.dT kvs) from rd_of ok e)
 refine ⟨z,y,xs,r,o,es,ep,h1,h2,h3,h4,fun x hx=>?_,h5⟩
 have all:∀ {l:List (List Key × V)} {m:List (List Key × Addr × Value)},KT H l m→∀ x ∈ m,(tupleKind (mixKind P w)).is h x.1 x.2.1:=by
  intro l m q
  induction q with
  | nil=>intro x hx; exact nomatch hx
  | @cons p q ps qs hq t ih =>
   intro x hx
   rcases List.mem_cons.mp hx with e | hx
   ·subst e
    exact key_of ok (by rw [← hq.1]; exact hq.2.1)
   ·exact ih x hx
 exact all r x hx
end
section
variable {X:Cx} {pins:List (Addr × Obj)} {σ:St} {H:Hp} {s:Shared} {a:Addr} {y v:V} {u r:Value} {o:Option V} {A:Around} {E:Value→Shared→Prop}
theorem Inv.big (I:Inv X pins σ H s):sysModules < s.heap.objs.size:=by
 have h:mainGlobals < s.heap.objs.size:=(I.mod.glob.keeps I.bk).lt
 exact Nat.lt_trans (by decide) h
theorem d_write {h':Heap} {t':Nat} {ob:HO} (I:Inv X pins σ H s) (mu:Mut (H a)) (hs:Heap.SameBut a s.heap h') (he:∃ q,h'.get? a = some q) (new:ObjOk X.prog X.w (upd H a ob) h' a ob) :
  Inv X pins σ (upd H a ob) { s with heap:=h',toks:=t' } :=
 I.write (x:=a) (e:=a) mu (.inl rfl) (fun b q hb z=>(hs.2 b hb).trans z) he new
theorem dk_new {P:Program} {w:World} {H':Hp} {h':Heap} {kvs:List (Key × V)} {vs:List (Key × Value)} (z:kvs.length ≤ sizeLine) (hd:(a == sysModules) = false) (rel:KV kvs vs) (dd:h'.DictOf (mixKind P w) a vs) :
  ObjOk P w H' h' a (.dK kvs):=⟨z,hd,vs,rel,dd⟩
end
section
variable {X:Cx} {pins:List (Addr × Obj)} {σ:St} {H:Hp} {s:Shared} {a:Addr} {kvs:List (Key × V)} {k:Key} {u:Value} {A:Around} {E:Value→Shared→Prop}
end
section
variable {X:Cx} {o i e value:Expr} {pos pos' tpos:Pos} {td ty tv:TE}
end
theorem dk_empty {P:Program} {w:World} {H:Hp} (h:Heap) (hb:sysModules < h.objs.size):ObjOk P w H (h.push { cls:=.type "dict",data:=.dict #[] }) h.objs.size (.dK []) :=
 ⟨Nat.zero_le _,beq_eq_false_iff_ne.mpr (Ne.symm (Nat.ne_of_lt hb)),[],.nil,Heap.DictOf.new h⟩
def tDNewK:TE:=fun _ H Q=>∀ p,H p = none→Q (.ref p) (upd H p (.dK []))
section
variable {X:Cx} {pos:Pos}
theorem pe_dnewK:PE X (.Dict [] [] pos) tDNewK:=fun pins s σ H Q I h =>
 wpAny_Dict_empty ⟨.ref s.heap.objs.size,_,I.laid (a:=s.heap.objs.size) (o:=.dK []) (t':=s.toks) (fun _ _ q=>Heap.get?_push_of_some _ q) (Nat.le_refl _) (dk_empty s.heap I.big),rfl,h _ (I.hok.fresh (Nat.le_refl _))⟩
end
def tPairs:List (TE × TE)→St→Hp→(List (V × V)→Hp→Prop)→Prop
 | [],_,H,Q=>Q [] H
 | (tk,tv) :: r,σ,H,Q=>tk σ H fun x H1=>tv σ H1 fun y H2=>tPairs r σ H2 fun ps H3=>Q ((x,y) :: ps) H3
abbrev VV:List (V × V)→List (Value × Value)→Prop:=Paired fun p q=>RelV p.1 q.1∧RelV p.2 q.2
def PPs (X:Cx) (pos:Pos) (keys:List (Option Expr)) (values:List Expr) (trs:List (TE × TE)):Prop :=
 ∀ (pins:List (Addr × Obj)) (s:Shared) (σ:St) (H:Hp) (Q:List (V × V)→Hp→Prop),Inv X pins σ H s→tPairs trs σ H Q →
  wpAny (model X.prog X.w) X.A (evalPairs (pairTrees keys values X.env pos)) (fun vs s'=>∃ ps H',Inv X pins σ H' s'∧VV ps vs∧Q ps H') X.xe s
theorem pps_nil {X:Cx} {pos:Pos}:PPs X pos [] [] []:=fun pins s σ H Q I h=>pairTrees_nil_walk ⟨[],H,I,.nil,h⟩
theorem pps_cons {X:Cx} {pos:Pos} {k v:Expr} {ks:List (Option Expr)} {vs:List Expr} {tk tv:TE} {trs:List (TE × TE)} (hk:PE X k tk) (hv:PE X v tv) (hr:PPs X pos ks vs trs) :
  PPs X pos (some k :: ks) (v :: vs) ((tk,tv) :: trs):=fun pins s σ H Q I h =>
 pairTrees_cons_walk (thn (hk pins s σ H _ I h) fun u s1 ⟨x,H1,I1,rx,q1⟩=>thn (hv pins s1 σ H1 _ I1 q1) fun w2 s2 ⟨y,H2,I2,ry,q2⟩ =>
  thn (hr pins s2 σ H2 _ I2 q2) fun ws s3 ⟨ps,H3,I3,rel,q3⟩=>⟨(x,y) :: ps,H3,I3,.cons ⟨rx,ry⟩ rel,q3⟩)
def mergeK (kvs more:List (Key × V)):List (Key × V):=more.foldl (fun acc kv=>putK acc kv.1 kv.2) kvs
theorem KV.merge:∀ {more:List (Key × V)} {rs:List (Key × Value)} {kvs:List (Key × V)} {vs:List (Key × Value)},KV more rs→KV kvs vs→KV (mergeK kvs more) (merged vs rs):=by
 intro more rs kvs vs r
 unfold KV at r
 induction r generalizing kvs vs with
 | nil=>intro q; exact q
 | @cons p q ps qs h t ih =>
  intro r0
  have e:KV (putK kvs p.1 p.2) (stored vs q.1 q.2):=by
   have:=r0.put p.1 h.2
   rw [← h.1]; exact this
  exact ih e
theorem length_mergeK:∀ (more kvs:List (Key × V)),(mergeK kvs more).length ≤ kvs.length + more.length
 | [],kvs=>by show kvs.length ≤ kvs.length + 0; omega
 | p :: r,kvs=>by
  have h1:=length_mergeK r (putK kvs p.1 p.2)
  have h2:=length_putK kvs p.1 p.2
  show (mergeK (putK kvs p.1 p.2) r).length ≤ _
  rw [List.length_cons]; omega
theorem carries_of {P:Program} {w:World}:∀ {kvs:List (Key × V)} {ws:List (Value × Value)},VV (kvs.map fun kv=>(kV kv.1,kv.2)) ws→∃ rs,Carries (mixKind P w) ws rs∧KV kvs rs
 | [],_,r=>by rw [List.map_nil] at r; cases r; exact ⟨[],True.intro,.nil⟩
 | p :: kvs,_,r=>by
  rw [List.map_cons] at r
  cases r with
  | @cons a b as bs h t =>
   obtain ⟨rs,c,q⟩:=carries_of (P:=P) (w:=w) t
   obtain ⟨b1,b2⟩:=b
   exact ⟨(p.1,b2) :: rs,⟨kV_is h.1,rfl,c⟩,.cons ⟨rfl,h.2⟩ q⟩
def tDisp (trs:List (TE × TE)):TE:=fun σ H Q=>∀ p,H p = none→tPairs trs σ (upd H p (.dK [])) fun ps H2=>H2 p = some (.dK [])∧∃ kvs:List (Key × V),ps = kvs.map (fun kv=>(kV kv.1,kv.2))∧kvs.length ≤ 15∧Q (.ref p) (upd H2 p (.dK (mergeK [] kvs)))
theorem pe_disp {X:Cx} {pos:Pos} {keys:List (Option Expr)} {values:List Expr} {trs:List (TE × TE)} (h:PPs X pos keys values trs) (hall:keys.all (·.isSome) = true) (hl:keys.length = values.length) (h0:keys ≠ [])
  (h15:keys.length ≤ 15):PE X (.Dict keys values pos) (tDisp trs):=by
 intro pins s σ H Q I q
 have hn:=I.hok.fresh (Nat.le_refl s.heap.objs.size)
 have I1:=I.laid (a:=s.heap.objs.size) (o:=.dK []) (h':=s.heap.push { cls:=.type "dict",data:=.dict #[] }) (t':=s.toks) (fun _ _ q=>Heap.get?_push_of_some _ q) (Nat.le_refl _) (dk_empty s.heap I.big)
 refine wpAny_Dict_walk (knd:=mixKind X.prog X.w) hall hl h0 h15 (thn (h pins _ σ _ _ I1 (q _ hn)) fun ws s2 ⟨ps,H2,I2,rel,e,kvs,ep,lk,q2⟩=>?_)
 subst ep
 obtain ⟨rs,c,rk⟩:=carries_of (P:=X.prog) (w:=X.w) rel
 obtain ⟨z,hd,vs0,r0,dd⟩:=dk_of I2.hok e
 cases r0
 refine ⟨rs,c,dd,fun h' dd' hs=>⟨.ref s.heap.objs.size,_,?_,rfl,q2⟩⟩
 have hz:(mergeK [] kvs).length ≤ sizeLine:=by
  have h1:=length_mergeK kvs []
  rw [List.length_nil] at h1
  rw [sizeLine_eq]; omega
 have he:∃ q,h'.get? s.heap.objs.size = some q:=let ⟨q,_,_,hq,_⟩:=dd'; ⟨q,hq⟩
 exact d_write I2 (by rw [e]; exact True.intro) hs he (dk_new hz hd (rk.merge .nil) dd')
structure M1 (X:Cx) (o:Expr) (m:Str) (apos:Pos) (e:Expr) (cpos:Pos):Prop where
 base:attributeBase o m X.env (eval o X.env) = eval o X.env
 few:((backTo cpos (starEach [e] X.env)).all (fun x=>!x.1) && (backToKw cpos (keywordEach [] X.env)).all (fun x=>x.1.isSome)
  && decide (([e]:List Expr).length + ([]:List Keyword).length + (if ([]:List Keyword).isEmpty then 0 else 1) < 30)) = true
 line:(apos.endLine == cpos.line) = true
 trees:backTo cpos (starEach [e] X.env) = [(false,eval e X.env)]
structure M2 (X:Cx) (o:Expr) (m:Str) (apos:Pos) (e f:Expr) (cpos:Pos):Prop where
 base:attributeBase o m X.env (eval o X.env) = eval o X.env
 few:((backTo cpos (starEach [e,f] X.env)).all (fun x=>!x.1) && (backToKw cpos (keywordEach [] X.env)).all (fun x=>x.1.isSome)
  && decide (([e,f]:List Expr).length + ([]:List Keyword).length + (if ([]:List Keyword).isEmpty then 0 else 1) < 30)) = true
 line:(apos.endLine == cpos.line) = true
 trees:backTo cpos (starEach [e,f] X.env) = [(false,eval e X.env),(false,eval f X.env)]
def IsD (H:Hp) (a:Addr):Prop:=(∃ kvs,Rd H a (.dK kvs))∨∃ kvs,Rd H a (.dT kvs)
theorem isD_at {X:Cx} {pins:List (Addr × Obj)} {σ:St} {H:Hp} {s:Shared} {a:Addr} (I:Inv X pins σ H s) (d:IsD H a) :
  s.TypeIs (.ref a) "dict"∧(∀ b,Value.ref a = .ref b→∃ ob,s.heap.get? b = some ob∧ob.dict = none)∧(a == sysModules) = false:=by
 rcases d with ⟨kvs,e⟩ | ⟨kvs,e⟩
 ·obtain ⟨_,hd,vs,_,dd⟩:=dk_rd I.hok e
  refine ⟨dd.typeIs,fun b q=>?_,hd⟩
  cases q
  obtain ⟨ob,_,_,h1,h2,_⟩:=dd
  exact ⟨ob,h1,h2.2.1⟩
 ·obtain ⟨_,hd,xs,_,dd⟩:=dt_rd I.hok e
  refine ⟨dd.typeIs,fun b q=>?_,hd⟩
  cases q
  obtain ⟨ob,_,_,h1,h2,_⟩:=dd
  exact ⟨ob,h1,h2.2.1⟩
section
variable {X:Cx} {pins:List (Addr × Obj)} {σ:St} {H:Hp} {s:Shared} {a:Addr} {y d:V} {u r:Value} {o:Option V} {A:Around} {E:Value→Shared→Prop}
end
section
variable {X:Cx} {o e f:Expr} {apos cpos:Pos} {td ty tx:TE}
end
section
variable {X:Cx} {pins:List (Addr × Obj)} {σ:St} {H:Hp} {s:Shared} {a:Addr} {kvs:List (Key × V)} {A:Around} {E:Value→Shared→Prop}
end
section
variable {X:Cx} {pins:List (Addr × Obj)} {σ:St} {H:Hp} {s:Shared} {a:Addr} {y:V} {u:Value} {A:Around} {E:Value→Shared→Prop}
end
end L2
namespace Att
open PySem PySem.W PySem.Calls PyProof.Rows
theorem ints_of_wellAll {P:Params} {h:Heap}:∀ (ns:List Int) (vs:List Value),WellAll P h vs (ns.map WData.int)→IntsAre vs ns:=by
 intro ns
 induction ns with
 | nil =>
  intro vs w
  rw [List.map_nil] at w
  cases w
  exact .nil
 | cons n ns ih =>
  intro vs w
  rw [List.map_cons] at w
  cases w with
  | cons a b =>
   cases a
   exact .cons _ _ (ih _ b)
theorem script_of {l:OpenLaw} {n:Nat} (hn:l.most = some n) {P:Params} {h:Heap} {args:List WData} {vals:List Value}
  (hpre:l.row.toRowW.claim.pre args = true) (hwl:WellAll P h vals args) :
  ∃ a vs ns,vals = [Value.ref a]∧args = [WData.list (ns.map WData.int)]∧h.get? a = some { cls:=.type "list",data:=.seq vs.toArray }∧IntsAre vs ns∧ns.length ≤ n:=by
 have hsh:WShape.hasAll [] args [.list .int] = true:=(pre_splitW hpre).1
 have hc:l.pre.holds [] { args:=args } = true:=(pre_splitW hpre).2
 obtain ⟨d,r,rfl,h1,h2⟩:=hasAllW_cons hsh
 obtain rfl:=hasAllW_nil h2
 obtain ⟨xs,rfl,h3⟩:=hasW_list h1
 obtain ⟨ns,rfl⟩:=items_int h3
 have hlen:ns.length ≤ n:=by
  unfold OpenLaw.pre at hc
  have h4:(WTm.not (.lt (.lit (.int (n:Int))) (.len (.arg 0)))).holds [] { args:=[.list (ns.map .int)] } = true:=by
   have h4:=(holds_andW hc).1
   rw [hn] at h4
   exact h4
  have h5:=condW_of h4 (w_not (w_lt w_lit (w_len_list (w_arg rfl))))
  rw [List.length_map] at h5
  refine Nat.le_of_not_lt fun q=>?_
  have q':(n:Int) < ((ns.length:Nat):Int):=by omega
  first
   | (rw [decide_eq_true q'] at h5; exact absurd h5 (by decide))
   | (simp at h5; omega)
 cases hwl with
 | cons w1 w2 =>
  cases w2
  cases w1 with
  | list ho hall=>exact ⟨_,_,ns,rfl,rfl,ho,ints_of_wellAll ns _ hall,hlen⟩
theorem post_true (l:OpenLaw) (args:List WData):l.row.toRowW.claim.post args (.bool true) args = true :=
 postW_of (r:=l.row.toRowW) (X:=(true == true))
  (show WShape.has [] (.bool true) .bool = true by first | rfl | decide | simp [WShape.has,WShape.arms,WShape.armsAll])
  (show (WTm.eq .res (.lit (.bool true))).value [] { args:=args,res:=some (.bool true),after:=args } = some (.bool (true == true)) from w_eq_bool (w_res rfl) w_lit) rfl
theorem attach_call {l:OpenLaw} {n:Nat} {q:Program} {loose:List Str} {XP:(Str→Option Value)→Heap→Prop} {YP:World→Heap→Prop} {d:DefRec}
  (hn:l.most = some n) (hdf:d.params.defaults = [])
  (call:∀ (w:World) (s₀ s₁:Shared) (mg mb:Str→Option Value) (fa:Addr) (o:Obj) (pm cd doc:Value) (a:Addr) (vs:List Value) (ns:List Int),
   Ground q loose [] XP w s₀ mg mb s₁.heap→YP w s₁.heap →
   s₁.heap.get? fa = some o→o.data = .func (docDef d.name d.params d.body d.scope pm cd doc)→s₁.heap.CodeRec cd d.name→mg d.name = some (.ref fa) →
   s₁.heap.get? a = some { cls:=.type "list",data:=.seq vs.toArray }→IntsAre vs ns→ns.length ≤ n→s₁.gens = #[] →
   codeAny (model l.prog w) callerA (.call (.ref fa) ⟨[.ref a],[]⟩) (fun r s'=>r = .ok (.ret (.bool true))∧OldK s₁.heap s'.heap∧s'.os = s₁.os∧AllBare s'.gens) s₁) :
  WalkO q loose XP YP l.row.toRowW d [] (fun f vs=>PySem.call f vs):=by
 intro w s₀ s₁ mg mb G Y fa o pm cd doc dV kV ho hd hcd hD hmg hg args vals as hpre hlay hrd hwl hlo
 obtain rfl:dV = .none:=Dflts.none hD hdf
 obtain rfl:kV = .none:=Dflts.noKw hD
 obtain ⟨a,vs,ns,rfl,rfl,hobj,hints,hlen⟩:=script_of hn hpre hwl
 refine enter_call (codeAny_mono (call w s₀ s₁ mg mb fa o pm cd doc a vs ns G Y ho (fd_plain hd) hcd hmg hobj hints hlen hg) fun r s' hq=>?_)
 obtain ⟨rfl,h2,h3,h4⟩:=hq
 exact ⟨.inl ⟨.bool true,.bool true,[],rfl,fun _=>rfl,.bool true,post_true l _,fun _=>⟨List.Pairwise.nil,fun _ hm=>(nomatch hm)⟩⟩,h2,h3,h4⟩
section
variable {prog:Program} {w:World} {A:Around} {E:Value→Shared→Prop} {s:Shared} {K:Frag}
end
end Att
namespace L2
open PySem PySem.Spec PyProof.Rows
theorem vals_ints:∀ {vs:List Value} {ns:List Int},IntsAre vs ns→Vals (ns.map V.int) vs
 | _,_,.nil=>.nil
 | _,_,.cons n t h=>.cons ⟨t,rfl⟩ (vals_ints h)
def Only (H:Hp):Prop:=∀ b,H b = none∨∃ o xs,H b = some (.frz o (.lst xs))
theorem law_call {P:Program} {w:World} {K:PySem.W.Frag} {mg mb:Str→Option Value} {CX:CXT} {k:Nat} {fa a:Addr} {fd:FuncData} {x:Str} {sp:Sp} {s₁:Shared} {vs:List Value} {ns:List Int}
  (KX:K.In s₁.heap) (hns:s₁.heap.Ns mainGlobals mg) (hb:s₁.heap.Ns builtinsNs mb) (hbb:∀ x:Str,x ≠ "__name__"→mb x = bootBuiltins x) (hlim:s₁.heap.NoLimit) (hg:s₁.gens = #[])
  (ha:s₁.heap.get? a = some { cls:=.type "list",data:=.seq vs.toArray }) (hi:IntsAre vs ns) (hl:ns.length ≤ sizeLine) (hr:Room k callerA)
  (F:∀ base:Heap,K.In base→base.Ns mainGlobals mg→FnOk P w K mg base CX k fa fd [x] sp) (hbind:∀ (s:Shared) (u:Value),BindsTo s fd ⟨[u],[]⟩ [(x,u)])
  (hsp:∀ H:Hp,Only H→SqL K H a (ns.map V.int)→sp [.ref a] H (fun v _=>v = .bl true) fun _ _ _=>False)
  (hCX:∀ H e s',CX [] H s₁ (fun _ _ _=>False) e s'→False) :
  codeAny (model P w) callerA (.call (.ref fa) ⟨[.ref a],[]⟩) (fun r s'=>r = .ok (.ret (.bool true))∧OldK s₁.heap s'.heap∧s'.os = s₁.os∧AllBare s'.gens) s₁:=by
 have rv:=vals_ints hi
 have lenV:=hi.length
 -- from an abstract heap in which nothing but the script may be tracked
 have core:∀ H:Hp,Only H→SqL K H a (ns.map V.int)→HOk P w H s₁.heap→(∀ b,H b ≠ none→b = a)→(H a ≠ none→K.lookup a = none) →
   codeAny (model P w) callerA (.call (.ref fa) ⟨[.ref a],[]⟩) (fun r s'=>r = .ok (.ret (.bool true))∧OldK s₁.heap s'.heap∧s'.os = s₁.os∧AllBare s'.gens) s₁:=by
  intro H hO hS hok hA hK
  have base_of:∀ {b:Addr} {o:Obj},s₁.heap.get? b = some o→H b = none→(hidT s₁.heap H).get? b = some o:=fun e n=>hidT_get e n
  have noA:∀ {b:Addr} {o:Obj} {es:Array DictEntry} {ep:Nat},s₁.heap.get? b = some o→o.data = .dict es ep→H b = none:=fun {b o es ep} e d=>by
   cases q:H b with
   | none=>rfl
   | some u =>
    have e':b = a:=hA b (by rw [q]; simp)
    subst e'
    rw [ha] at e; cases e
    have d':Data.seq vs.toArray _ = Data.dict es ep:=d
    cases d'
  have nsK:∀ {b:Addr} {m:Str→Option Value},s₁.heap.Ns b m→(hidT s₁.heap H).Ns b m:=fun {b m} ⟨o,es,ep,e,d,r⟩=>⟨o,es,ep,base_of e (noA e d),d,r⟩
  have hKb:K.In (hidT s₁.heap H):=fun b o e=>base_of (KX b o e) (by
   cases q:H b with
   | none=>rfl
   | some u =>
    have e':b = a:=hA b (by rw [q]; simp)
    subst e'
    rw [hK (by rw [q]; simp)] at e; cases e)
  have hM:Mod K mg (hidT s₁.heap H):=⟨hKb,nsK hns,⟨mb,nsK hb,hbb⟩,let ⟨mc,h1,h2⟩:=hlim; ⟨mc,nsK h1,h2⟩⟩
  have e0:Env0 P w K mg (hidT s₁.heap H) callerA [] s₁ H:=⟨rfl,hM,fun b o e=>of_hidT e,Nat.le_of_eq (hidT_size _ _),trivial,fun b hb=>absurd (show b ∈ ([]:List Addr) from hb) (by simp),hok,.of_eq hg⟩
  refine codeAny_mono ((F _ hKb (nsK hns)).run callerA [] s₁ H ⟨[.ref a],[]⟩ [.ref a] [.ref a] _ _ hr e0 (hbind s₁ (.ref a)) (.cons rfl .nil) (hsp H hO hS)) fun r s' h=>?_
  cases r with
  | error e=>exact (hCX H e s' h).elim
  | ok fl =>
   cases fl with
   | next=>exact False.elim h
   | brk=>exact False.elim h
   | cont=>exact False.elim h
   | ret u =>
    obtain ⟨v,H',os,bare,un,hok',r',q⟩:=h
    have q':v = .bl true:=q
    subst q'
    obtain rfl:u = Value.bool true:=r'
    refine ⟨rfl,OldK.of_keep fun b o e=>?_,os,bare⟩
    cases q:H b with
    | none=>exact un.keep b o e q (by intro z; exact absurd (show b ∈ ([]:List Addr) from z) (by simp)) (by simp)
    | some u =>
     rcases hO b with z | ⟨ob,xs,z⟩
     ·rw [q] at z; cases z
     ·have z2:=un.frzs b ob _ z
      obtain ⟨e1,_⟩:=hok b _ z
      obtain ⟨e2,_⟩:=hok' b _ z2
      rw [e] at e1; cases e1
      exact e2
 cases hk:K.lookup a with
 | some o =>
  -- the script is one of the module's own objects
  have e:=KX a o hk
  rw [ha] at e
  cases e
  refine core (fun _=>none) (fun _=>.inl rfl) (.inr ⟨_,vs.toArray,_,hk,rfl,rfl,rfl,by rw [List.size_toArray,lenV]; exact hl,by simpa using rv⟩) (fun b u z=>by have z':(none:Option HO) = some u:=z; cases z') (fun b z=>absurd rfl z) fun z=>absurd rfl z
 | none =>
  refine core (fun b=>if b = a then some (.frz { cls:=.type "list",data:=.seq vs.toArray } (.lst (ns.map V.int))) else none) (fun b=>?_) (.inl (.inr ⟨{ cls:=.type "list",data:=.seq vs.toArray },if_pos rfl⟩)) (fun b u z=>?_) (fun b z=>?_) fun _=>hk
  ·by_cases hb:b = a
   ·exact .inr ⟨_,_,if_pos hb⟩
   ·exact .inl (if_neg hb)
  ·by_cases hb:b = a
   ·have z':=(if_pos hb).symm.trans z
    cases z'
    subst hb
    exact ⟨ha,by rw [List.length_map]; exact hl,vs,_,rv,ha⟩
   ·have z':=(if_neg hb).symm.trans z
    cases z'
  ·by_cases hb:b = a
   ·exact hb
   ·exact absurd (if_neg hb) z
end L2
namespace L2
open PySem PySem.Spec PyProof.Rows
abbrev KOf {K:PySem.W.Frag} {h:Heap} (_:K.In h):PySem.W.Frag:=K
theorem walk_of {l:PySem.W.OpenLaw} {n k:Nat} {q:Program} {loose:List Str} {XP:(Str→Option Value)→Heap→Prop} {YP:World→Heap→Prop} {d:DefRec} {K:Params→PySem.W.Frag} {CX:World→CXT} {sp:World→Sp} {x:Str}
  (hn:l.most = some n) (hn2:n ≤ sizeLine) (hdf:d.params.defaults = []) (hr:Room k callerA)
  (hY:∀ (w:World) (h:Heap),YP w h→(K w.params).In h)
  (F:∀ (w:World) (mg:Str→Option Value) (fa:Addr) (h:Heap),(K w.params).In h→h.Ns mainGlobals mg→mg d.name = some (.ref fa) →
   ∃ fd:FuncData,(∀ (s:Shared) (u:Value),BindsTo s fd ⟨[u],[]⟩ [(x,u)]) ∧
    ∀ base:Heap,(K w.params).In base→base.Ns mainGlobals mg→FnOk l.prog w (K w.params) mg base (CX w) k fa fd [x] (sp w))
  (hsp:∀ (w:World) (H:Hp) (a:Addr) (ns:List Int),ns.length ≤ n→Only H→SqL (K w.params) H a (ns.map V.int)→sp w [.ref a] H (fun v _=>v = .bl true) fun _ _ _=>False)
  (hCX:∀ (w:World) (H:Hp) (s:Shared) (e:Value) (s':Shared),CX w [] H s (fun _ _ _=>False) e s'→False) :
  PySem.W.WalkO q loose XP YP l.row.toRowW d [] (fun f vs=>PySem.call f vs):=by
 refine Att.attach_call hn hdf fun w s₀ s₁ mg mb fa o pm cd doc a vs ns G Y ho hd hcd hmg hobj hints hlen hg=>?_
 have KX:=hY w _ Y
 obtain ⟨fd,hb,hF⟩:=F w mg fa _ KX G.T.g hmg
 exact law_call KX G.T.g G.T.b G.T.builtins G.T.nolimit hg hobj hints (Nat.le_trans hlen hn2) hr hF hb (fun H hO hS=>hsp w H a ns hlen hO hS) fun H e s'=>hCX w H s₁ e s'
end L2
namespace L2
open PySem PySem.Spec PyProof.Rows
def defArgs (s:Stmt):Arguments:=match s with
 | .FunctionDef _ a _ _ _ _ _ _ _ _=>a
 | _=>{ posonlyargs:=[],args:=[],vararg:=none,kwonlyargs:=[],kw_defaults:=[],kwarg:=none,defaults:=[] }
def defBody (s:Stmt):List Stmt:=match s with
 | .FunctionDef _ _ b _ _ _ _ _ _ _=>b
 | _=>[]
def defScope (s:Stmt):Scope:=match s with
 | .FunctionDef _ _ _ _ _ _ sc _ _ _=>sc
 | _=>{ kind:=.function,names:=[],isGenerator:=false,isCoroutine:=false }
abbrev CX0:CXT:=fun _ _ _ _ _ _=>False
abbrev E0:XK:=fun _ _ _=>False
theorem pass0 {X:Cx}:Passes CX0 X E0:=fun _ _ _ _ _ _ _ h=>h.elim
structure Fun (K:PySem.W.Frag) (x qual:Str) (st:Stmt) (f:Addr) (fd:FuncData):Prop where
 ex:∃ (oc:Value) (od:Option Addr) (kV doc pm:Value) (an:Option Addr) (cdv ct:Value) (osl:Array (Option Value)),
  fd = PySem.W.fnOf x qual (defArgs st) (defBody st) (defScope st) .none kV doc pm an cdv ct∧K.lookup f = some ⟨oc,od,.func fd,osl⟩∧PySem.W.codeIn K cdv qual = true
 kp:PySem.W.keepIn K (.ref f) = true
section
variable {P:Program} {w:World} {K:PySem.W.Frag} {mg:Str→Option Value} {base:Heap}
theorem Fun.ok {x qual:Str} {st:Stmt} {f:Addr} {fd:FuncData} {N ps:List Str} {k:Nat} {sp:Sp} (F:Fun K x qual st f fd) (S:FnScope N ps (defScope st)) (len:∀ vs H Q E,sp vs H Q E→vs.length = ps.length)
  (hbody:∀ (cdv:Value) (A:Around) (outer:List Env) (s:Shared) (H:Hp) (vs:List V) (Q:VK) (E:XK),Room k (A.deeper (envOfC qual (defScope st) s.heap.objs.size f cdv))→sp vs H Q E →
   ∃ t,PSs (cxOf CX0 P w K mg base N qual (defScope st) f cdv A outer s H E).nox (defBody st) t∧t { nx:=fun _ H'=>Q .non H',rt:=Q } (start N vs) H):FnOk P w K mg base CX0 (k + 1) f fd ps sp:=by
 obtain ⟨oc,od,kV,doc,pm,an,cdv,ct,osl,rfl,lk,hcd⟩:=F.ex
 refine fn_of lk hcd S len fun A outer s H vs Q E hr hsp=>?_
 obtain ⟨t,h,q⟩:=hbody cdv A outer s H vs Q E hr hsp
 exact ⟨t,h.nox,q⟩
theorem Fun.binds {x qual:Str} {st:Stmt} {f:Addr} {fd:FuncData} {ps:List Str} (F:Fun K x qual st f fd)
  (h:∀ (kV doc pm:Value) (an:Option Addr) (cdv ct:Value) (us:List Value),us.length = ps.length→bindArgs (PySem.W.fnOf x qual (defArgs st) (defBody st) (defScope st) .none kV doc pm an cdv ct) ⟨us,[]⟩ = pure (ps.zip us)):Binds K fd ps []:=by
 obtain ⟨oc,od,kV,doc,pm,an,cdv,ct,osl,rfl,lk,hcd⟩:=F.ex
 exact .all (h kV doc pm an cdv ct)
theorem fun_mk {x qual:Str} {st:Stmt} {f:Addr} {oc:Value} {od an:Option Addr} {osl:Array (Option Value)} {kV doc pm cdv ct:Value} (l:K.lookup f = some ⟨oc,od,.func (PySem.W.fnOf x qual (defArgs st) (defBody st) (defScope st) .none kV doc pm an cdv ct),osl⟩)
  (c:PySem.W.codeIn K cdv qual = true) (k:PySem.W.keepIn K (.ref f) = true):Fun K x qual st f (PySem.W.fnOf x qual (defArgs st) (defBody st) (defScope st) .none kV doc pm an cdv ct):=⟨⟨oc,od,kV,doc,pm,an,cdv,ct,osl,rfl,l,c⟩,k⟩
end
theorem small1000 {n:Nat} (h:n ≤ 1000):n < sizeLine:=Nat.lt_of_le_of_lt h (by decide)
section
variable {X:Cx}
theorem pv (i:Nat) {x:Str} {pos:Pos} (hN:X.N[i]? = some x:=by rfl) (hv:Vis X.env.scope x:=by first | exact Or.inl rfl | exact Or.inr (Or.inl rfl) | exact Or.inr (Or.inr rfl)) (hd:(x == ("__debug__":Str)) = false:=by decide)
  (hcd:(x == ("__classdict__":Str)) = false:=by decide):PE X (.Name x pos) (tVar i):=pe_var hN hv hd hcd
end
theorem iteF {A B:Prop} (h:B):if false = true then A else B:=by
 rw [if_neg Bool.false_ne_true]
 exact h
theorem iteT {A B:Prop} (h:A):if true = true then A else B:=by
 rw [if_pos rfl]
 exact h
theorem ite2 {c A B:Prop} [Decidable c] (h1:c→A) (h2:¬ c→B):if c then A else B:=by
 by_cases h:c
 ·rw [if_pos h]
  exact h1 h
 ·rw [if_neg h]
  exact h2 h
def Same (H H':Hp):Prop:=∀ b o,H b = some o→H' b = some o
theorem Same.refl (H:Hp):Same H H:=fun _ _ h=>h
theorem Same.trans {H H1 H2:Hp} (a:Same H H1) (b:Same H1 H2):Same H H2:=fun c o h=>b c o (a c o h)
theorem Same.seq {K:PySem.W.Frag} {H H':Hp} {a:Addr} {xs:List V} (e:Same H H') (h:SqL K H a xs):SqL K H' a xs:=by
 rcases h with (h | ⟨o,h⟩) | h
 ·exact .inl (.inl (e _ _ h))
 ·exact .inl (.inr ⟨o,e _ _ h⟩)
 ·exact .inr h
end L2
namespace L2
open PySem PySem.Spec PyProof.Rows
section
variable {κ:Type} [DecidableEq κ]
end
end L2
set_option Elab.async false
set_option linter.all false
set_option maxRecDepth 100000
namespace L2
open PySem PySem.Spec PyProof.Rows
section
variable {X:Cx}
def CDivX (i j:Int):Prop:=0 < j∧j.natAbs.log2 < 9000
theorem op_fdivX:OpR X (binaryOp .FloorDiv) (rI CDivX fun i j=>.int (i / j)):=opI fun i j _ _ _ _ _ hc q=>by
 have h1:(0:Int) < j:=hc.1
 exact floordiv_int (by omega) (by rw [Int.fdiv_eq_ediv_of_nonneg i (by omega)]; exact q) (.inl (PyProof.noPylong_of_log2 hc.2))
theorem op_mulX:OpR X (binaryOp .Mult) (rI IntMulOk fun i j=>.int (i * j)):=opI fun _ _ _ _ _ _ _ hc q=>mul_int q hc
theorem bits_of {k:Int} {n:Nat} (h:k.natAbs < 2 ^ n):Builtin.Int.intBits k ≤ n:=by
 unfold Builtin.Int.intBits
 split
 ·exact Nat.zero_le _
 ·rename_i h0
  have hk:k.natAbs ≠ 0:=by
   intro z
   apply h0
   rw [Int.natAbs_eq_zero.mp z]
   rfl
  have:=(Nat.log2_lt hk).mpr h
  omega
theorem mulOk {i j:Int} (n m:Nat) (hi:i.natAbs < 2 ^ n) (hj:j.natAbs < 2 ^ m) (hn:n ≤ 2 ^ 20:=by decide) (hm:m ≤ 2 ^ 20:=by decide):IntMulOk i j :=
 .of_bits (Nat.le_trans (bits_of hi) hn) (Nat.le_trans (bits_of hj) hm)
theorem mulOkL {i j:Int} (h1:-(2 ^ 64) < i) (h2:i < 2 ^ 64):IntMulOk i j:=.of_left (intBits_le_64 h1 h2)
theorem log2_small {n:Int} {k:Nat} (h0:0 < n) (h:n < 2 ^ k):n.natAbs.log2 < k:=by
 refine (Nat.log2_lt (by omega)).mpr ?_
 have e:((2 ^ k:Nat):Int) = (2:Int) ^ k:=by simp
 omega
end
def kD:Key→PyData
 | .inl i=>.int i
 | .inr x=>.str x
def DOf (H:Hp) (a:Addr) (ks:List PyData) (vs:List V):Prop:=∃ (ob:Obj) (m:List (Key × V)),H a = some (.frz ob (.dK m))∧ks = m.map (fun p=>kD p.1)∧vs = m.map (·.2)
mutual
def Has (H:Hp):PyData→V→Prop
 | .none,v=>v = .non
 | .bool b,v=>v = .bl b
 | .int i,v=>v = .int i
 | .str x,v=>v = .str x
 | .list ds,v=>∃ a vs,v = .ref a∧H a = some (.lst vs)∧HasL H ds vs
 | .tuple ds,v=>∃ a vs,v = .ref a∧H a = some (.tup vs)∧HasL H ds vs
 | .dict kvs,v=>∃ a vs,v = .ref a∧DOf H a (kvs.map (·.1)) vs∧HasV H kvs vs
def HasL (H:Hp):List PyData→List V→Prop
 | [],vs=>vs = []
 | d :: ds,vs=>∃ v r,vs = v :: r∧Has H d v∧HasL H ds r
def HasV (H:Hp):List (PyData × PyData)→List V→Prop
 | [],vs=>vs = []
 | p :: ps,vs=>∃ v r,vs = v :: r∧HasP H p v∧HasV H ps r
def HasP (H:Hp):PyData × PyData→V→Prop
 | (_,d),v=>Has H d v
end
mutual
theorem Has.mono {H H':Hp} (s:Same H H'):∀ (d:PyData) (v:V),Has H d v→Has H' d v
 | .none,_,h=>by simp only [Has] at h ⊢; exact h
 | .bool _,_,h=>by simp only [Has] at h ⊢; exact h
 | .int _,_,h=>by simp only [Has] at h ⊢; exact h
 | .str _,_,h=>by simp only [Has] at h ⊢; exact h
 | .list ds,v,h=>by
  simp only [Has] at h ⊢
  obtain ⟨a,vs,e,q,l⟩:=h
  exact ⟨a,vs,e,s _ _ q,HasL.mono s ds vs l⟩
 | .tuple ds,v,h=>by
  simp only [Has] at h ⊢
  obtain ⟨a,vs,e,q,l⟩:=h
  exact ⟨a,vs,e,s _ _ q,HasL.mono s ds vs l⟩
 | .dict kvs,v,h=>by
  simp only [Has] at h ⊢
  obtain ⟨a,vs,e,q,l⟩:=h
  obtain ⟨ob,m,e1,e2⟩:=q
  exact ⟨a,vs,e,⟨ob,m,s _ _ e1,e2⟩,HasV.mono s kvs vs l⟩
theorem HasL.mono {H H':Hp} (s:Same H H'):∀ (ds:List PyData) (vs:List V),HasL H ds vs→HasL H' ds vs
 | [],_,h=>by simp only [HasL] at h ⊢; exact h
 | d :: ds,vs,h=>by
  simp only [HasL] at h ⊢
  obtain ⟨v,r,e,q,l⟩:=h
  exact ⟨v,r,e,Has.mono s d v q,HasL.mono s ds r l⟩
theorem HasV.mono {H H':Hp} (s:Same H H'):∀ (ds:List (PyData × PyData)) (vs:List V),HasV H ds vs→HasV H' ds vs
 | [],_,h=>by simp only [HasV] at h ⊢; exact h
 | d :: ds,vs,h=>by
  simp only [HasV] at h ⊢
  obtain ⟨v,r,e,q,l⟩:=h
  exact ⟨v,r,e,HasP.mono s d v q,HasV.mono s ds r l⟩
theorem HasP.mono {H H':Hp} (s:Same H H'):∀ (p:PyData × PyData) (v:V),HasP H p v→HasP H' p v
 | (_,d),v,h=>by
  simp only [HasP] at h ⊢
  exact Has.mono s d v h
end
section
variable {H:Hp} {v:V}
theorem has_none:Has H .none v ↔ v = .non:=by simp only [Has]
theorem has_bool {b:Bool}:Has H (.bool b) v ↔ v = .bl b:=by simp only [Has]
theorem has_int {i:Int}:Has H (.int i) v ↔ v = .int i:=by simp only [Has]
theorem has_str {x:Str}:Has H (.str x) v ↔ v = .str x:=by simp only [Has]
theorem has_list {ds:List PyData}:Has H (.list ds) v ↔ ∃ a vs,v = .ref a∧H a = some (.lst vs)∧HasL H ds vs:=by simp only [Has]
theorem has_tuple {ds:List PyData}:Has H (.tuple ds) v ↔ ∃ a vs,v = .ref a∧H a = some (.tup vs)∧HasL H ds vs:=by simp only [Has]
theorem has_dict {kvs:List (PyData × PyData)}:Has H (.dict kvs) v ↔ ∃ a vs,v = .ref a∧DOf H a (kvs.map (·.1)) vs∧HasV H kvs vs:=by simp only [Has]
theorem hasV_nil {vs:List V}:HasV H [] vs ↔ vs = []:=by simp only [HasV]
theorem hasV_cons {p:PyData × PyData} {ds:List (PyData × PyData)} {vs:List V}:HasV H (p :: ds) vs ↔ ∃ v r,vs = v :: r∧Has H p.2 v∧HasV H ds r:=by
 obtain ⟨k,d⟩:=p
 simp only [HasV,HasP]
theorem hasL_nil {vs:List V}:HasL H [] vs ↔ vs = []:=by simp only [HasL]
theorem hasL_cons {d:PyData} {ds:List PyData} {vs:List V}:HasL H (d :: ds) vs ↔ ∃ v r,vs = v :: r∧Has H d v∧HasL H ds r:=by simp only [HasL]
theorem HasL.length:∀ {ds:List PyData} {vs:List V},HasL H ds vs→vs.length = ds.length
 | [],_,h=>by rw [hasL_nil.mp h]; rfl
 | d :: ds,vs,h=>by
  obtain ⟨v,r,e,_,l⟩:=hasL_cons.mp h
  rw [e,List.length_cons,List.length_cons,HasL.length l]
theorem HasL.get:∀ {ds:List PyData} {vs:List V} {i:Nat} {d:PyData},HasL H ds vs→ds[i]? = some d→∃ v,vs[i]? = some v∧Has H d v
 | [],_,_,_,_,e=>by simp at e
 | c :: ds,vs,0,d,h,e=>by
  obtain ⟨v,r,rfl,q,_⟩:=hasL_cons.mp h
  simp at e
  subst e
  exact ⟨v,rfl,q⟩
 | c :: ds,vs,i + 1,d,h,e=>by
  obtain ⟨v,r,rfl,_,l⟩:=hasL_cons.mp h
  obtain ⟨u,e1,e2⟩:=HasL.get (i:=i) (d:=d) l (by simpa using e)
  exact ⟨u,by simpa using e1,e2⟩
theorem HasL.append:∀ {ds es:List PyData} {vs us:List V},HasL H ds vs→HasL H es us→HasL H (ds ++ es) (vs ++ us)
 | [],es,vs,us,h,h'=>by rw [hasL_nil.mp h]; exact h'
 | d :: ds,es,vs,us,h,h'=>by
  obtain ⟨v,r,rfl,q,l⟩:=hasL_cons.mp h
  exact hasL_cons.mpr ⟨v,r ++ us,rfl,q,HasL.append l h'⟩
theorem hasL_ints:∀ (ns:List Int),HasL H (ns.map .int) (ns.map V.int)
 | []=>hasL_nil.mpr rfl
 | n :: ns=>hasL_cons.mpr ⟨_,_,rfl,has_int.mpr rfl,hasL_ints ns⟩
end
def tyD:PyData→String
 | .none=>"NoneType" | .bool _=>"bool" | .int _=>"int" | .str _=>"str" | .list _=>"list" | .tuple _=>"tuple" | .dict _=>"dict"
theorem Has.ty {K:PySem.W.Frag} {H:Hp} {d:PyData} {v:V} (h:Has H d v):TyOf K H v (.type (tyD d)):=by
 cases d with
 | none=>rw [has_none.mp h]; exact .non
 | bool b=>rw [has_bool.mp h]; exact .bl b
 | int i=>rw [has_int.mp h]; exact .int i
 | str x=>rw [has_str.mp h]; exact .str x
 | list ds=>obtain ⟨a,vs,rfl,e,_⟩:=has_list.mp h; exact .lst e
 | tuple ds=>obtain ⟨a,vs,rfl,e,_⟩:=has_tuple.mp h; exact .tup e
 | dict kvs =>
  obtain ⟨a,vs,rfl,e,_⟩:=has_dict.mp h
  obtain ⟨ob,m,e,_⟩:=e
  exact .dK (.inr ⟨ob,e⟩)
def tysD:List String:=["NoneType","bool","int","str","list","tuple","dict"]
def clsD:List String:=["int","bool","str","list","tuple","dict"]
def isiT (t c:String):Bool:=t == c || (t == "bool" && c == "int")
def isiD (d:PyData) (c:String):Bool:=isiT (tyD d) c
theorem tyD_mem (d:PyData):tyD d ∈ tysD:=by cases d <;> simp [tyD,tysD]
theorem kit_all (K:PySem.W.Frag) {t c:String} (ht:t ∈ tysD) (hc:c ∈ clsD):PySem.W.kitOne K (.type t) (.type c) = some (isiT t c):=by
 simp only [tysD,clsD,List.mem_cons,List.not_mem_nil,or_false] at ht hc
 rcases ht with rfl | rfl | rfl | rfl | rfl | rfl | rfl <;> rcases hc with rfl | rfl | rfl | rfl | rfl | rfl <;> rfl
def rIsi:List V→Hp→VK→Prop
 | [x,.ty c],H,Q=>∃ d,Has H d x∧c ∈ clsD∧Q (.bl (isiD d c)) H
 | _,_,_=>False
theorem rIsi_of {H:Hp} {d:PyData} {x:V} {c:String} {Q:VK} (h:Has H d x) (hc:c ∈ clsD) (q:Q (.bl (isiD d c)) H):rIsi [x,.ty c] H Q:=⟨d,h,hc,q⟩
section
variable {X:Cx}
theorem call_isi:CallR X (.builtin "isinstance") rIsi:=by
 intro pins s σ H xs us Q I r h
 match xs,h with
 | [x,.ty c],h =>
  obtain ⟨d,hx,hc,q⟩:=h
  obtain ⟨u,w',rfl,ru,rw'⟩:=vals2 r
  cases (show w' = Value.type c from rw')
  exact isinst_ok I ru hx.ty (kit_all X.K (tyD_mem d) hc) fun tk=>⟨.bl _,H,I.tok tk,rfl,q⟩
end
def sp1 (p:V→Hp→VK→Prop):Sp:=fun vs H Q _=>match vs with | [x]=>p x H Q | _=>False
def sp2 (p:V→V→Hp→VK→Prop):Sp:=fun vs H Q _=>match vs with | [x,y]=>p x y H Q | _=>False
theorem sp1_len {p:V→Hp→VK→Prop}:∀ (vs:List V) (H:Hp) (Q:VK) (E:XK),sp1 p vs H Q E→∃ x,vs = [x]∧p x H Q:=by
 intro vs H Q E h
 match vs,h with
 | [x],h=>exact ⟨x,rfl,h⟩
theorem sp2_len {p:V→V→Hp→VK→Prop}:∀ (vs:List V) (H:Hp) (Q:VK) (E:XK),sp2 p vs H Q E→∃ x y,vs = [x,y]∧p x y H Q:=by
 intro vs H Q E h
 match vs,h with
 | [x,y],h=>exact ⟨x,y,rfl,h⟩
structure Dd (K:PySem.W.Frag) (mg:Str→Option Value) (x:Str) (st:Stmt) (ps:List Str):Prop where
 ex:∃ f fd,Fun K x x st f fd∧mg x = some (.ref f)∧Binds K fd ps []
structure Df (P:Program) (w:World) (K:PySem.W.Frag) (mg:Str→Option Value) (base:Heap) (x:Str) (ps:List Str) (k:Nat) (sp:Sp):Prop where
 ex:∃ f fd,FnOk P w K mg base CX0 k f fd ps sp∧mg x = some (.ref f)∧PySem.W.keepIn K (.ref f) = true∧Binds K fd ps []
section
variable {P:Program} {w:World} {K:PySem.W.Frag} {mg:Str→Option Value} {base:Heap} {x a b c d e:Str} {st:Stmt} {N:List Str} {k:Nat}
theorem Df.of {ps:List Str} {sp:Sp} (D:Dd K mg x st ps) (S:FnScope N ps (defScope st)) (len:∀ vs H Q E,sp vs H Q E→vs.length = ps.length)
  (hbody:∀ (f:Addr) (cdv:Value) (A:Around) (outer:List Env) (s:Shared) (H:Hp) (vs:List V) (Q:VK) (E:XK),Room k (A.deeper (envOfC x (defScope st) s.heap.objs.size f cdv))→sp vs H Q E →
   ∃ t,PSs (cxOf CX0 P w K mg base N x (defScope st) f cdv A outer s H E).nox (defBody st) t∧t { nx:=fun _ H'=>Q .non H',rt:=Q } (start N vs) H):Df P w K mg base x ps (k + 1) sp:=by
 obtain ⟨f,fd,F,hm,hb⟩:=D.ex
 exact ⟨f,fd,F.ok S len (hbody f),hm,F.kp,hb⟩
theorem Df.of2 {p:V→V→Hp→VK→Prop} (D:Dd K mg x st [a,b]) (S:FnScope N [a,b] (defScope st)) (σ0:V→V→St) (hs:∀ v u,start N [v,u] = σ0 v u)
  (hbody:∀ (f:Addr) (cdv:Value) (A:Around) (outer:List Env) (s:Shared) (H:Hp) (v u:V) (Q:VK) (E:XK),Room k (A.deeper (envOfC x (defScope st) s.heap.objs.size f cdv))→p v u H Q →
   ∃ t,PSs (cxOf CX0 P w K mg base N x (defScope st) f cdv A outer s H E).nox (defBody st) t∧t { nx:=fun _ H'=>Q .non H',rt:=Q } (σ0 v u) H):Df P w K mg base x [a,b] (k + 1) (sp2 p):=by
 refine Df.of D S (fun vs H Q E h=>?_) fun f cdv A outer s H vs Q E hr h=>?_
 ·obtain ⟨x,y,rfl,_⟩:=sp2_len vs H Q E h
  rfl
 ·obtain ⟨x,y,rfl,h⟩:=sp2_len vs H Q E h
  rw [hs]
  exact hbody f cdv A outer s H x y Q E hr h
end
def tC2 (p:V→V→Hp→VK→Prop) (ta tb:TE):TE:=fun σ H Q=>ta σ H fun x H1=>tb σ H1 fun y H2=>p x y H2 Q
section
variable {X:Cx} {x a b c d e':Str} {k j:Nat} {pos pos':Pos} {e1 e2 e3 e4 e5:Expr} {t1 t2 t3 t4 t5:TE}
theorem pe_df2 {p:V→V→Hp→VK→Prop} (D:Df X.prog X.w X.K X.mg X.base x [a,b] k (sp2 p)) (hr:Room j X.A) (hk:k ≤ j) (h1:PE X e1 t1) (h2:PE X e2 t2) (hg:Gl X x:=by rfl) (hdb:(x == ("__debug__":Str)) = false:=by decide)
  (q1:starEach [e1,e2] X.env = (false,eval e1 X.env) :: starEach [e2] X.env:=by rfl) (q2:starEach [e2] X.env = (false,eval e2 X.env) :: starEach [] X.env:=by rfl)
  (hpl:(backTo pos (starEach [e2] X.env)).any (·.1) = false:=by rfl):PE X (.Call (.Name x pos') [e1,e2] [] pos) (tC2 p t1 t2):=by
 obtain ⟨f,fd,F,hm,kp,hb⟩:=D.ex
 intro pins s σ H Q I h
 exact pe_call (dvs:=[]) (ds:=[]) (E:=E0) F (hr.mono hk) hg hm kp hb .nil pass0 (pa_cons h1 (pa_cons h2 pa_nil q2) q1) hdb q1 hpl pins s σ H Q I h
end
theorem Dd.mk' {K:PySem.W.Frag} {h:Heap} {mg:Str→Option Value} (X:K.In h) (G:h.Ns mainGlobals mg) {x:Str} {st:Stmt} {ps:List Str} {f:Addr} {oc:Value} {od an:Option Addr} {osl:Array (Option Value)} {kV doc pm cdv ct:Value}
  (a:PySem.W.nsIn K mainGlobals x = some (some (.ref f))) (l:K.lookup f = some ⟨oc,od,.func (PySem.W.fnOf x x (defArgs st) (defBody st) (defScope st) .none kV doc pm an cdv ct),osl⟩)
  (c:PySem.W.codeIn K cdv x = true) (k:PySem.W.keepIn K (.ref f) = true)
  (hb:∀ (kV doc pm:Value) (an:Option Addr) (cdv ct:Value) (us:List Value),us.length = ps.length→bindArgs (PySem.W.fnOf x x (defArgs st) (defBody st) (defScope st) .none kV doc pm an cdv ct) ⟨us,[]⟩ = pure (ps.zip us)):Dd K mg x st ps :=
 ⟨f,_,fun_mk (st:=st) l c k,PySem.W.mg_of X G a,(fun_mk (st:=st) l c k).binds hb⟩
theorem bt_len:bootBuiltins "len" = some (.builtin "len"):=by decide +kernel
theorem bt_isinstance:bootBuiltins "isinstance" = some (.builtin "isinstance"):=by decide +kernel
theorem bt_max:bootBuiltins "max" = some (.builtin "max"):=by decide +kernel
theorem bt_sorted:bootBuiltins "sorted" = some (.builtin "sorted"):=by decide +kernel
theorem bt_int:bootBuiltins "int" = some (.type "int"):=by decide +kernel
theorem bt_bool:bootBuiltins "bool" = some (.type "bool"):=by decide +kernel
theorem bt_list:bootBuiltins "list" = some (.type "list"):=by decide +kernel
theorem bt_tuple:bootBuiltins "tuple" = some (.type "tuple"):=by decide +kernel
section
variable {H:Hp} {Q:VK}
theorem tVar_iff {i:Nat} {σ:St}:tVar i σ H Q ↔ match σ[i]? with | some (some v)=>Q v H | _=>False:=by
 unfold tVar
 constructor
 ·rintro ⟨v,e,q⟩
  rw [e]
  exact q
 ·intro h
  split at h
  ·rename_i v e
   exact ⟨v,e,h⟩
  ·exact h.elim
theorem rI0_int {g:Int→Int→V} {i j:Int}:rI0 g (.int i) (.int j) H Q ↔ Q (g i j) H :=
 ⟨fun ⟨_,_,e1,e2,q⟩=>by cases e1; cases e2; exact q,fun q=>⟨i,j,rfl,rfl,q⟩⟩
theorem ex_bl {p:Bool→Prop} {b:Bool}:(∃ c,V.bl b = V.bl c∧p c) ↔ p b:=⟨fun ⟨_,e,q⟩=>by cases e; exact q,fun q=>⟨b,rfl,q⟩⟩
end
section
variable {K:PySem.W.Frag} {H:Hp} {Q:VK} {x y:V} {d:PyData} {ds:List PyData}
def rLen (K:PySem.W.Frag):List V→Hp→VK→Prop:=fun xs H Q=>∃ p ys,xs = [.ref p]∧(SqL K H p ys∨SqT K H p ys)∧Q (.int ys.length) H
end
section
variable {X:Cx}
theorem call_lenQ:CallR X (.builtin "len") (rLen X.K):=call_len_seq
end
def hid (a:Addr) (H:Hp):Hp:=fun b=>if b = a then none else H b
theorem hid_at {a b:Addr} {H:Hp} (h:b ≠ a):hid a H b = H b:=if_neg h
theorem hid_self {a:Addr} {H:Hp}:hid a H a = none:=if_pos rfl
theorem Same.laid {H:Hp} {p:Addr} {o:HO} (h:H p = none):Same H (upd H p o):=fun b u e=>by
 rw [upd_ne (ne_of_none e h)]
 exact e
section
variable {X:Cx} {pins:List (Addr × Obj)} {σ:St} {H:Hp} {s:Shared} {a:Addr} {m:List (Key × V)}
theorem Inv.fz (I:Inv X pins σ H s) (e:H a = some (.dK m)):∃ ob,Inv X pins σ (upd H a (.frz ob (.dK m))) s:=by
 have q:=(show ObjOk X.prog X.w H s.heap a (.dK m) from I.hok a _ e)
 obtain ⟨_,_,vs,_,ob,es,ep,h1,_⟩:=id q
 exact ⟨ob,I.write (x:=a) (e:=a) (o:=.frz ob (.dK m)) (h':=s.heap) (t':=s.toks) (by rw [e]; exact True.intro) (.inl rfl) (fun b v _ z=>z) ⟨ob,h1⟩ ⟨h1,q⟩⟩
def tFzE (t:TE):TE:=fun σ H Q=>t σ H fun v H1=>∃ a m,v = .ref a∧H1 a = some (.dK m)∧∀ ob,Q v (upd H1 a (.frz ob (.dK m)))
theorem pe_fz {e:Expr} {t:TE} (h:PE X e t):PE X e (tFzE t):=fun pins s σ H Q I hw =>
 thn (h pins s σ H _ I hw) fun u s1 ⟨v,H1,I1,r1,a,m,ev,ea,q⟩=>by
  obtain ⟨ob,J⟩:=I1.fz ea
  exact ⟨v,_,J,r1,q ob⟩
def tFzS (i:Nat) (t:TS):TS:=fun D σ H=>t { D with nx:=fun σ' H'=>∃ a m,σ'[i]? = some (some (.ref a))∧H' a = some (.dK m)∧∀ ob,D.nx σ' (upd H' a (.frz ob (.dK m))) } σ H
theorem ps_fz {i:Nat} {st:Stmt} {t:TS} (h:PS X st t):PS X st (tFzS i t):=fun pins s σ H D I hw =>
 thn (h pins s σ H _ I hw) fun f s1 q=>by
  cases f with
  | next =>
   obtain ⟨σ1,H1,I1,a,m,e1,e2,q⟩:=q
   obtain ⟨ob,J⟩:=I1.fz e2
   exact ⟨σ1,_,J,q ob⟩
  | brk=>exact q
  | cont=>exact q
  | ret v=>exact q
end
end L2
set_option Elab.async false
set_option linter.all false
set_option maxRecDepth 100000
namespace L2
open PySem PySem.Spec PyProof.Rows
theorem isi_int (d:PyData):isiD d "int" = match d with | .int _=>true | .bool _=>true | _=>false:=by cases d <;> first | rfl | (show isiT _ _ = _; simp [isiT,tyD])
theorem isi_bool (d:PyData):isiD d "bool" = match d with | .bool _=>true | _=>false:=by cases d <;> first | rfl | (show isiT _ _ = _; simp [isiT,tyD])
theorem isi_tuple (d:PyData):isiD d "tuple" = match d with | .tuple _=>true | _=>false:=by cases d <;> first | rfl | (show isiT _ _ = _; simp [isiT,tyD])
theorem isi_list (d:PyData):isiD d "list" = match d with | .list _=>true | _=>false:=by cases d <;> first | rfl | (show isiT _ _ = _; simp [isiT,tyD])
def vw:List Addr→Hp→Hp
 | [],H=>H
 | a :: r,H=>hid a (vw r H)
section
variable {o:List Addr} {σ:St} {H0:Hp} {t t1 t2:TE} {ta:TA} {d d1 d2:PyData} {ds es:List PyData}
end
section
variable {K:PySem.W.Frag} {o:List Addr} {H:Hp} {Q:VK} {x y:V} {d:PyData} {ds:List PyData}
end
def pCell (K:PySem.W.Frag):V→V→Hp→VK→Prop:=fun x y H Q=>∃ (a:Addr) (ns:List Int) (i:Int),x = .ref a∧y = .int i∧SqL K H a (ns.map V.int)∧0 ≤ i∧∀ n,Q (.int n) H
theorem atI_int {ns:List Int} {i:Int} (h0:0 ≤ i) (h1:i < ((ns.map V.int).length:Int)):∃ n,atI (ns.map V.int) i = some (.int n):=by
 obtain ⟨k,rfl⟩:=Int.eq_ofNat_of_zero_le h0
 have hk:k < ns.length:=by rw [List.length_map] at h1; omega
 exact ⟨ns[k],atI_nat (by rw [List.getElem?_map,List.getElem?_eq_getElem hk]; rfl)⟩
theorem cut_ints {ns:List Int} {lo hi:Option Int} {x:V} (h:x ∈ cutV (ns.map V.int) lo hi):∃ n,x = .int n:=by
 have h1:=List.mem_of_mem_drop (List.mem_of_mem_take h)
 obtain ⟨n,_,e⟩:=List.mem_map.mp h1
 exact ⟨n,e.symm⟩
theorem Fun.bind1 {K:PySem.W.Frag} {x a:Str} {st:Stmt} {f:Addr} {fd:FuncData} (F:Fun K x x st f fd)
  (h:∀ (kV doc pm:Value) (an:Option Addr) (cdv ct:Value) (u:Value),bindArgs (PySem.W.fnOf x x (defArgs st) (defBody st) (defScope st) .none kV doc pm an cdv ct) ⟨[u],[]⟩ = pure [(a,u)]):∀ (s:Shared) (u:Value),BindsTo s fd ⟨[u],[]⟩ [(a,u)]:=by
 obtain ⟨oc,od,kV,doc,pm,an,cdv,ct,osl,rfl,lk,hcd⟩:=F.ex
 exact fun s u=>.of_eq (h kV doc pm an cdv ct u)
def pLaw (K:PySem.W.Frag):V→Hp→VK→Prop:=fun x H Q=>∃ (a:Addr) (ns:List Int),x = .ref a∧SqL K H a (ns.map V.int)∧ns.length ≤ 63∧∀ H',Q (.bl true) H'
theorem walk_law {l:PySem.W.OpenLaw} {k:Nat} {q:Program} {loose:List Str} {XP:(Str→Option Value)→Heap→Prop} {YP:World→Heap→Prop} {d:DefRec} {K:Params→PySem.W.Frag} (hn:l.most = some 63) (hdf:d.params.defaults = [])
  (hr:Room k callerA) (hY:∀ (w:World) (h:Heap),YP w h→(K w.params).In h)
  (F:∀ (w:World) (mg:Str→Option Value) (fa:Addr) (h:Heap),(K w.params).In h→h.Ns mainGlobals mg→mg d.name = some (.ref fa) →
   ∃ fd:FuncData,(∀ (s:Shared) (u:Value),BindsTo s fd ⟨[u],[]⟩ [("script",u)])∧∀ base:Heap,(K w.params).In base→base.Ns mainGlobals mg→FnOk l.prog w (K w.params) mg base CX0 k fa fd ["script"] (sp1 (pLaw (K w.params)))) :
  PySem.W.WalkO q loose XP YP l.row.toRowW d [] (fun f vs=>PySem.call f vs) :=
 L2.walk_of (n:=63) (k:=k) (x:="script") (CX:=fun _=>CX0) (sp:=fun w=>sp1 (pLaw (K w.params))) hn (by decide) hdf hr hY F (fun _ _ a ns hl _ hS=>⟨a,ns,rfl,hS,hl,fun _=>rfl⟩) fun _ _ _ _ _ z=>z
theorem Fun.ok1 {P:Program} {w:World} {K:PySem.W.Frag} {mg:Str→Option Value} {base:Heap} {x a:Str} {st:Stmt} {f:Addr} {fd:FuncData} {N:List Str} {k:Nat} {p:V→Hp→VK→Prop} (F:Fun K x x st f fd) (S:FnScope N [a] (defScope st)) (σ0:V→St) (hs:∀ v,start N [v] = σ0 v)
  (hbody:∀ (cdv:Value) (A:Around) (outer:List Env) (s:Shared) (H:Hp) (v:V) (Q:VK) (E:XK),Room k (A.deeper (envOfC x (defScope st) s.heap.objs.size f cdv))→p v H Q →
   ∃ t,PSs (cxOf CX0 P w K mg base N x (defScope st) f cdv A outer s H E).nox (defBody st) t∧t { nx:=fun _ H'=>Q .non H',rt:=Q } (σ0 v) H):FnOk P w K mg base CX0 (k + 1) f fd [a] (sp1 p):=by
 refine F.ok S (fun vs H Q E h=>?_) fun cdv A outer s H vs Q E hr h=>?_
 ·obtain ⟨x,rfl,_⟩:=sp1_len vs H Q E h
  rfl
 ·obtain ⟨x,rfl,h⟩:=sp1_len vs H Q E h
  rw [hs]
  exact hbody cdv A outer s H x Q E hr h
end L2
set_option Elab.async false
set_option linter.all false
set_option maxRecDepth 100000
set_option maxHeartbeats 1000000
namespace L2
open PySem PySem.Spec PyProof.Rows
mutual
theorem Has.reads {X:Cx} {pins:List (Addr × Obj)} {σ:St} {H:Hp} {s:Shared} (I:Inv X pins σ H s):∀ (d:PyData) (v:V) (u:Value),Has H d v→d.canLay0 = true→RelV v u→∃ as,Reads s.heap u d as
 | .none,v,u,h,_,r=>by
  rw [has_none.mp h] at r
  cases (show u = Value.none from r)
  exact ⟨_,.none⟩
 | .bool b,v,u,h,_,r=>by
  rw [has_bool.mp h] at r
  cases (show u = Value.bool b from r)
  exact ⟨_,.bool b⟩
 | .int i,v,u,h,_,r=>by
  rw [has_int.mp h] at r
  obtain ⟨t,q⟩:=(show ∃ t,u = Value.int i t from r)
  cases q
  exact ⟨_,.int i t⟩
 | .str x,v,u,h,_,r=>by
  rw [has_str.mp h] at r
  obtain ⟨t,q⟩:=(show ∃ t,u = Value.str x t from r)
  cases q
  exact ⟨_,.str x t⟩
 | .list ds,v,u,h,c,r=>by
  obtain ⟨a,vs,rfl,e,l⟩:=has_list.mp h
  cases (show u = Value.ref a from r)
  obtain ⟨_,its,n,rv,e1⟩:=(show ObjOk X.prog X.w H s.heap a (.lst vs) from I.hok a _ e)
  obtain ⟨as,q⟩:=HasL.reads I ds vs its l (by simpa only [PyData.canLay0] using c) rv
  exact ⟨_,.list e1 rfl rfl (by simpa using q)⟩
 | .tuple ds,v,u,h,c,r=>by
  obtain ⟨a,vs,rfl,e,l⟩:=has_tuple.mp h
  cases (show u = Value.ref a from r)
  obtain ⟨_,its,rv,o,e1,e2,n,e3⟩:=(show ObjOk X.prog X.w H s.heap a (.tup vs) from I.hok a _ e)
  obtain ⟨as,q⟩:=HasL.reads I ds vs its l (by simpa only [PyData.canLay0] using c) rv
  exact ⟨_,.tuple e1 e2 e3 (by simpa using q)⟩
 | .dict _,_,_,_,c,_=>by simp [PyData.canLay0] at c
theorem HasL.reads {X:Cx} {pins:List (Addr × Obj)} {σ:St} {H:Hp} {s:Shared} (I:Inv X pins σ H s):∀ (ds:List PyData) (vs:List V) (us:List Value),HasL H ds vs→PyData.canLayAll0 ds = true→Vals vs us→∃ as,ReadsAll s.heap us ds as
 | [],vs,us,h,_,r=>by
  rw [hasL_nil.mp h] at r
  cases r
  exact ⟨_,.nil⟩
 | d :: ds,vs,us,h,c,r=>by
  obtain ⟨v,w',rfl,h1,h2⟩:=hasL_cons.mp h
  have c':d.canLay0 = true∧PyData.canLayAll0 ds = true:=by simpa [PyData.canLayAll0] using c
  cases r with
  | cons r1 r2 =>
   obtain ⟨as,q1⟩:=Has.reads I d v _ h1 c'.1 r1
   obtain ⟨bs,q2⟩:=HasL.reads I ds w' _ h2 c'.2 r2
   exact ⟨_,.cons q1 q2⟩
end
def rEqD:R2:=fun x y H Q=>∃ d e,Has H d x∧Has H e y∧SeqAt.shaped d = true∧SeqAt.shaped e = true∧Q (.bl (PyData.eqv d e)) H
def rNeD:R2:=fun x y H Q=>∃ d e,Has H d x∧Has H e y∧SeqAt.shaped d = true∧SeqAt.shaped e = true∧Q (.bl (!PyData.eqv d e)) H
section
variable {X:Cx}
theorem op_eqD (hu:X.A.units + 64 < cLine):OpR X (compareOp .Eq) rEqD:=by
 intro pins s σ H x y v u Q I rx ry h
 obtain ⟨d,e,hd,he,sd,se,q⟩:=h
 obtain ⟨as,q1⟩:=Has.reads I d x v hd (SeqAt.canLay_of_shaped sd) rx
 obtain ⟨bs,q2⟩:=Has.reads I e y u he (SeqAt.canLay_of_shaped se) ry
 exact eq_dataH q1 q2 sd se hu ⟨.bl _,H,I,rfl,q⟩
theorem op_neD (hu:X.A.units + 64 < cLine):OpR X (compareOp .NotEq) rNeD:=by
 intro pins s σ H x y v u Q I rx ry h
 obtain ⟨d,e,hd,he,sd,se,q⟩:=h
 obtain ⟨as,q1⟩:=Has.reads I d x v hd (SeqAt.canLay_of_shaped sd) rx
 obtain ⟨bs,q2⟩:=Has.reads I e y u he (SeqAt.canLay_of_shaped se) ry
 exact ne_dataH q1 q2 sd se hu ⟨.bl _,H,I,rfl,q⟩
end
section
variable {prog:Program} {w:World} {A:Around} {E:Value→Shared→Prop} {s:Shared} {l:Addr}
end
section
variable {X:Cx}
end
section
variable {K:PySem.W.Frag} {o:List Addr} {σ:St} {H0:Hp} {t t1 t2 t3 t4 t5:TE} {ta:TA} {tt tu:TT} {d d1 d2 d3 d4 d5:PyData} {ds:List PyData} {b c:Bool}
def noneD:PyData→Bool
 | .none=>true
 | _=>false
end
end L2
namespace L2
open PySem PySem.Spec PyProof.Rows
theorem for_cells {K:PySem.W.Frag} {a:Addr} {ns:List Int} {N:Int} {j:Nat} {tb:TS} {D:Ends} {σ:St} {H:Hp} (P:St→Prop) (h0:σ[0]? = some (some (.ref a))) (hS:SqL K H a (ns.map V.int)) (hlen:ns.length ≤ 63) (hP:P σ)
  (turn:∀ (n:Int) (σ:St) (H1 H2:Hp),P σ→Same H H1→Same H1 H2→tb { D with nx:=fun σ' H'=>Same H1 H'∧P σ',ct:=fun σ' H'=>Same H1 H'∧P σ',bk:=D.nx } (σ.set j (some (.int n))) H2)
  (done:∀ (σ:St) (H1:Hp),P σ→Same H H1→D.nx σ H1) :
  tFor (iList K (tOp rCat (tLst (tCons (tC2 (pCell K) (tVar 0) (tC (.int 0))) tNil)) (tSl (rSlL K) (tVar 0) (tPart (tC (.int 1))) (tPart (tC (.int N)))))) (gName j) tb D σ H:=by
 refine ⟨_,h0,a,ns,0,rfl,rfl,hS,by decide,fun n0=>⟨by show 1 ≤ sizeLine; decide,fun p hp=>?_⟩⟩
 have s1:Same H (upd H p (.lst [.int n0])):=Same.laid hp
 refine ⟨_,h0,_,rfl,_,rfl,a,_,rfl,s1.seq hS,fun p2 hp2=>?_⟩
 have s2:=s1.trans (Same.laid (o:=.lst (cutV (ns.map V.int) (some 1) (some N))) hp2)
 have np:p ≠ p2:=ne_of_none upd_same hp2
 have hz:(cutV (ns.map V.int) (some 1) (some N)).length ≤ 63:=Nat.le_trans (cutV_length _ _ _) (by rw [List.length_map]; exact hlen)
 refine ⟨p,p2,_,_,rfl,rfl,by rw [upd_ne np,upd_same],upd_same,Nat.le_of_lt (small1000 (by simp only [List.length_cons,List.length_nil]; omega)),fun p3 hp3=>?_⟩
 have s3:=s2.trans (Same.laid (o:=.lst ([V.int n0] ++ cutV (ns.map V.int) (some 1) (some N))) hp3)
 refine ⟨p3,rfl,⟨_,.of upd_same⟩,for_list (K:=K) (a:=p3) (xs:=[V.int n0] ++ cutV (ns.map V.int) (some 1) (some N)) (fun i σ' H'=>Same _ H'∧P σ') ⟨Same.refl _,hP⟩ (fun i σ H4 _ ⟨s4,_⟩=>.of (s4 _ _ upd_same)) ?_ ?_⟩
 ·rintro i x σ' H4 hi ⟨s4,p4⟩
  obtain ⟨n,rfl⟩:∃ n,x = .int n:=by
   rcases List.mem_append.mp (List.mem_of_getElem? hi) with m | m
   ·exact ⟨n0,List.mem_singleton.mp m⟩
   ·exact cut_ints m
  exact turn n σ' _ H4 p4 s3 s4
 ·rintro σ' H4 ⟨s4,p4⟩
  exact done σ' H4 p4 (s3.trans s4)
end L2
set_option Elab.async false
set_option linter.all false
set_option maxRecDepth 100000
set_option maxHeartbeats 1000000
namespace L2
open PySem PySem.Spec PyProof.Rows
section
variable {prog:Program} {w:World} {A:Around} {E:Value→Shared→Prop} {R:Result→Shared→Prop} {s:Shared}
theorem compLoop_any {elt target iter:Expr} {ifs:List Expr} {scope:Scope} {pos:Pos} {it acc:Value} {env:Env} (I:Nat→Shared→Prop)
  (turn:∀ n s,I n s→wpAny (model prog w) A (pyNext it) (fun r s₁=>match r with
   | none=>R (.ok .next) s₁
   | some v=>wpAny (model prog w) A (letOwnedTupleGo target it v) (fun _ s₀=>wpAny (model prog w) A (assign target env v) (fun _ s₂ =>
     wpAny (model prog w) A (forIn ifs true fun c r=>if r = true then do let ok ← isTrue c env (eval c env); pure (ForInStep.yield ok) else pure (ForInStep.yield r)) (fun ok s₃ =>
      if ok = true then wpAny (model prog w) A (eval elt env) (fun x s₄ =>
       wpAny (model prog w) A (call (.builtin "list.append") [acc,x]) (fun _ s₅=>∃ m,m < n∧I m s₅) (fun _ _=>False) s₄) (fun _ _=>False) s₃
      else ∃ m,m < n∧I m s₃) (fun _ _=>False) s₂) (fun _ _=>False) s₀) (fun _ _=>False) s₁) (fun _ _=>False) s)
  (n:Nat) (h:I n s) :
  codeAny (model prog w) A (.compLoop (.ListComp elt [⟨target,iter,ifs,0⟩] scope pos) 0 it acc env) R s:=by
 have up:∀ {α:Type} {t:Sem α} {Q:α→Shared→Prop} {E':Value→Shared→Prop} {s':Shared},wpAny (model prog w) A t Q (fun _ _=>False) s'→wpAny (model prog w) A t Q E' s':=fun h=>wpAny_mono h (fun _ _ q=>q) fun _ _ z=>z.elim
 refine codeAny_loop rfl I (fun n s hI=>?_) n h
 show wpAny _ A ((compTurn (.ListComp elt [⟨target,iter,ifs,0⟩] scope pos) 0 it acc env).onRaise (fun x=>do noteFrame x env; theTreesLotGoes x)) _ _ s
 refine wpAny_noted ?_
 rw [compTurn_list]
 refine wpAny_bind (wpAny_standAt (wpAny_bind (thn (up (turn n s hI)) fun r s₁ h₁=>?_)))
 cases r with
 | none=>exact wpAny_pure h₁
 | some v =>
  refine wpAny_bind (thn (up h₁) fun _ s₀ h₀=>?_)
  refine wpAny_bind (thn (up h₀) fun _ s₂ h₂=>wpAny_bind (thn (up h₂) fun ok s₃ h₃=>?_))
  cases ok with
  | false=>exact wpAny_pure ⟨rfl,h₃⟩
  | true =>
   exact wpAny_bind (wpAny_bind (thn (up h₃) fun x s₄ h₄=>wpAny_bind (thn (up h₄) fun _ s₅ h₅=>wpAny_pure (wpAny_pure ⟨rfl,h₅⟩))))
end
def compCx (X:Cx) (scope:Scope) (cl:List (Str × Addr)) (C:Addr) (s₃:Shared) (H₃:Hp) (fp:List Addr) (N:List Str):Cx where
 prog:=X.prog
 w:=X.w
 K:=X.K
 mg:=X.mg
 base:=X.base
 A:=X.A
 N:=N
 s₀:=s₃
 H₀:=H₃
 env:=compEnvC scope cl C X.env
 outer:=X.stack
 stack:=X.stack
 ex:=fp
 fn:=fun _=>false
 calm:=X.calm
 pn:=[]
 xe:=fun _ _=>False
def PTs (X:Cx) (ifs:List Expr) (t:TT):Prop :=
 ∀ (pins:List (Addr × Obj)) (s:Shared) (σ:St) (H:Hp) (Q:Bool→Hp→Prop),Inv X pins σ H s→t σ H Q →
  wpAny (model X.prog X.w) X.A (forIn ifs true fun c r=>if r = true then do let ok ← isTrue c X.env (eval c X.env); pure (ForInStep.yield ok) else pure (ForInStep.yield r)) (TP X pins σ Q) X.xe s
def tNoIf:TT:=fun _ H Q=>Q true H
theorem pts_nil {X:Cx}:PTs X [] tNoIf:=fun _ _ _ H _ I h=>wpAny_tests_nil ⟨H,I,h⟩
theorem pts_one {X:Cx} {c:Expr} {t:TT} (h:PT X c t):PTs X [c] t:=fun pins s σ H Q I hw=>wpAny_tests_one (h pins s σ H Q I hw)
def tau (caps:List (Option Nat)) (σ:St):St:=caps.map fun o=>o.bind fun i=>(σ[i]?).join
def tComp (caps:List (Option Nat)) (wi:TI) (g:TG) (tt:TT) (te:TE):TE:=fun σ H Q=>wi σ H fun J H1=>∀ D,H1 D = none→∃ W:Nat→Nat→St→Hp→Prop,(∃ m,W 0 m (tau caps σ) (upd H1 D (.lst []))) ∧
 ∀ i m τ H2,W i m τ H2→(J.stop i H2∧Q (.ref D) H2)∨(J.go i H2∧∀ x H3,J.yld i H2 x H3→g x τ H3 fun τ4 H4=>tt τ4 H4 fun b H5 =>
  if b = true then te τ4 H5 fun v H6=>∃ xs,H6 D = some (.lst xs)∧xs.length < sizeLine∧∃ m',m' < m∧W (i + 1) m' τ4 (upd H6 D (.lst (xs ++ [v]))) else ∃ m',m' < m∧W (i + 1) m' τ4 H5)
structure CompOk (X:Cx) (scope:Scope) (cl:List (Str × Addr)) (N:List Str) (caps:List (Option Nat)):Prop where
 clos:closureFor scope X.env = pure cl
 sub:∀ x c,cl.lookup x = some c→X.env.cells.lookup x = some c
 kind:scope.kind = .function
 cell:∀ y ∈ scope.names,y.2 ≠ .cell
 names:∀ y ∈ scope.names,y.2 = .local→scope.names.lookup y.1 = some .local
 has:∀ x,((relabel scope X.env).names.lookup x = some .cell∨(relabel scope X.env).names.lookup x = some .free)→∃ c,cl.lookup x = some c
 cap:∀ (j i:Nat) (x:Str),caps[j]? = some (some i)→N[j]? = some x→X.N[i]? = some x∧Vis X.env.scope x∧¬ X.env.kindOf x = some .local∧∃ c,cl.lookup x = some c∧((relabel scope X.env).names.lookup x = some .cell∨(relabel scope X.env).names.lookup x = some .free)
 len:caps.length = N.length
section
variable {X:Cx} {scope:Scope} {cl:List (Str × Addr)} {N:List Str} {caps:List (Option Nat)} {tg iter elt:Expr} {ifs:List Expr} {pos:Pos} {wi:TI} {g:TG} {tt:TT} {te:TE}
theorem comp_start {pins:List (Addr × Obj)} {σ:St} {H:Hp} {s:Shared} {fp:List Addr} {h₁:Heap} {t':Nat} (c:CompOk X scope cl N caps) (I:Inv X pins σ H s) (f:∀ b ∈ fp,FpOk X pins H b) (fo:∀ b ∈ fp,∃ o,s.heap.get? b = some o)
  (hns:h₁.Ns s.heap.objs.size (fun _=>none)) (hk:∀ b o,s.heap.get? b = some o→h₁.get? b = some o) :
  Inv (compCx X scope cl s.heap.objs.size s H fp N) [] (tau caps σ) H { s with heap:=h₁,toks:=t' }:=by
 have lt:∀ b ∈ fp,b < s.heap.objs.size:=fun b hb=>by obtain ⟨o,e⟩:=fo b hb; exact Heap.lt_size e
 have cells:∀ x k,cl.lookup x = some k→∃ v,s.heap.IsCell k v:=fun x k e=>I.cell x k (c.sub x k e)
 refine ⟨⟨I.ok.mod,c.kind,I.ok.glob,I.ok.blt,Nat.le_refl _,fun x y k h1 h2=>I.ok.inj x y k (c.sub x k h1) (c.sub y k h2),fun x hx=>c.has x hx,fun x k h _=>absurd (show false = true from h) (by decide),I.ok.hd,I.ok.frames,.inl rfl,
  fun b hb=>⟨Nat.ne_of_lt (lt b hb),fun x k e=>(f b hb).2.2.2.2.1 x k (c.sub x k e)⟩,I.bs,Nat.le_trans I.ok.bsz I.sz,fun b o e hb=>?_,fun b hb z=>?_,I.stack,I.stkFree⟩,
  rfl,I.bare,Un.kept hk,⟨_,hns,fun j x v h1 h2 h3=>?_⟩,fun x k e=>?_,I.hok.fresh (Nat.le_refl _),fun x k e=>I.freeC x k (c.sub x k e),fun p hp=>absurd (show p ∈ ([]:List (Addr × Obj)) from hp) (by simp),I.hok.kept hk,?_⟩
 ·rcases (f b hb).2.2.2.1 with q | q
  ·exact I.ok.noex b o e q
  ·exact absurd (Nat.lt_of_lt_of_le (Heap.lt_size e) (Nat.le_trans I.ok.bsz q)) (Nat.lt_irrefl _)
 ·rcases List.mem_cons.mp (I.stkSub b z) with q | q
  ·exact (f b hb).2.1 q
  ·exact (f b hb).2.2.1 q
 ·have h2':(caps.map fun o=>o.bind fun i=>(σ[i]?).join)[j]? = some (some v):=h2
  rw [List.getElem?_map] at h2'
  cases e:caps[j]? with
  | none=>rw [e] at h2'; cases h2'
  | some oi =>
   rw [e] at h2'
   have h2'':(oi.bind fun i=>(σ[i]?).join) = some v:=Option.some.inj h2'
   cases oi with
   | none=>cases h2''
   | some i =>
    have h4:(σ[i]?).join = some v:=h2''
    have h5:σ[i]? = some (some v):=by
     cases q:σ[i]? with
     | none=>rw [q] at h4; cases h4
     | some w'=>rw [q] at h4; exact congrArg some h4
    obtain ⟨k1,k2,k3,cc,k4,k5⟩:=c.cap j i x e h1
    obtain ⟨m,hn,hl⟩:=I.loc
    obtain ⟨u,r,l⟩:=hl i x v k1 h5 k2
    refine ⟨u,r,.inr ⟨k5,cc,k4,?_⟩⟩
    rcases l with ⟨q,_⟩ | ⟨_,c',hc',hcell⟩
    ·exact (k3 q).elim
    ·rw [c.sub x cc k4] at hc'
     cases hc'
     exact hcell.keeps hk
 ·obtain ⟨v,q⟩:=cells x k e
  exact ⟨v,q.keeps hk⟩
 ·show (caps.map _).length = N.length
  rw [List.length_map]
  exact c.len
theorem comp_back {pins:List (Addr × Obj)} {σ τ:St} {H H':Hp} {s s':Shared} {h':Heap} {fp:List Addr} (I:Inv X pins σ H s) (f:∀ b ∈ fp,FpOk X pins H b) (J:Inv (compCx X scope cl s.heap.objs.size s H fp N) [] τ H' s') (hs:Heap.SameBut s.heap.objs.size s'.heap h') :
  Inv X pins σ H' { s' with heap:=h' }:=by
 have hC:H' s.heap.objs.size = none:=J.free
 have keep:∀ b o,b ≠ s.heap.objs.size→s'.heap.get? b = some o→h'.get? b = some o:=fun b o nb e=>hs.extBut b o nb e
 have u1:Un (frs X.stack) (s.heap.objs.size :: fp) H H' s.heap s'.heap:=Un.mono J.base (fun b hb=>hb) (fun b hb=>List.mem_cons_of_mem _ hb)
 have u2:Un (frs X.stack) (s.heap.objs.size :: fp) H' H' s'.heap h' :=
  ⟨fun b o e _ _ hx=>keep b o (fun z=>hx (by rw [z]; exact List.mem_cons_self)) e,fun b o e _ _ hx=>⟨o.slots,keep b o (fun z=>hx (by rw [z]; exact List.mem_cons_self)) e⟩,fun _ _ _ n _=>n,fun b o e hx=>⟨o,keep b o (fun z=>hx (by rw [z]; exact List.mem_cons_self)) e⟩,fun _ _ q=>q,fun _ _ _ q=>q,fun _ ps q=>⟨#[],by rw [q]; simp⟩⟩
 have hok:HOk X.prog X.w H' h':=fun a o e=>(J.hok a o e).stay (fun b u hb q=>keep b u (fun z=>by
  rcases hb with hb | hb
  ·rw [← hb,z,hC] at e; cases e
  ·rw [z,hC] at hb; cases hb) q) (fun b q=>q) fun b xs q=>q
 refine I.call' (s':={ s' with heap:=h' }) (ch:=s.heap.objs.size :: fp) J.os (u1.trans u2) hok J.bare fun b hb=>?_
 rcases List.mem_cons.mp hb with rfl | hb
 ·refine ⟨.inr I.sz,Nat.ne_of_gt I.lt,fun x k e z=>?_,fun p hp z=>?_⟩
  ·obtain ⟨v,q⟩:=I.cell x k e
   exact absurd q.lt (by rw [z]; exact Nat.lt_irrefl _)
  ·exact absurd (Heap.lt_size (I.pin p hp).1) (by rw [z]; exact Nat.lt_irrefl _)
 ·obtain ⟨f0,f1,f2,f3,f4,f5⟩:=f b hb
  exact ⟨f3,f1,f4,f5⟩
theorem comp_block {pins:List (Addr × Obj)} {σ:St} {H2:Hp} {s2:Shared} {it:Addr} {fp:List Addr} {tn:Nat→Heap→Prop} {J:It} {RR:Value→Addr→Result→Shared→Prop} {E:Value→Shared→Prop} (hc:X.calm = true) (c:CompOk X scope cl N caps)
  (I2:Inv X pins σ H2 s2) (T:Turn X.prog X.w X.K tg J fp it tn) (st2:tn 0 s2.heap) (f2:∀ b ∈ fp,FpOk X pins H2 b)
  (hg:∀ C s H fp,PG (compCx X scope cl C s H fp N) tg g) (ht:∀ C s H fp,PTs (compCx X scope cl C s H fp N) ifs tt) (he:∀ C s H fp,PE (compCx X scope cl C s H fp N) elt te)
  (Q:VK) (hq:∀ D,H2 D = none→∃ W:Nat→Nat→St→Hp→Prop,(∃ m,W 0 m (tau caps σ) (upd H2 D (.lst []))) ∧
   ∀ i m τ H2,W i m τ H2→(J.stop i H2∧Q (.ref D) H2)∨(J.go i H2∧∀ x H3,J.yld i H2 x H3→g x τ H3 fun τ4 H4=>tt τ4 H4 fun b H5 =>
    if b = true then te τ4 H5 fun v H6=>∃ xs,H6 D = some (.lst xs)∧xs.length < sizeLine∧∃ m',m' < m∧W (i + 1) m' τ4 (upd H6 D (.lst (xs ++ [v]))) else ∃ m',m' < m∧W (i + 1) m' τ4 H5))
  (hRR:∀ (D C:Addr) (H':Hp) (s':Shared) (m:Str→Option Value),s'.heap.Ns C m→FpOk X pins H' C→(∀ h',Heap.SameBut C s'.heap h'→Inv X pins σ H' { s' with heap:=h' })→Q (.ref D) H'→RR (.ref D) C (.ok .next) s') :
  wpAny (model X.prog X.w) X.A (newList []) (fun acc s₃=>wpAny (model X.prog X.w) X.A (newFunctionEnv scope X.env.globals cl [] X.env.qual none .none (some X.env)) (fun cenv s₄ =>
   codeAny (model X.prog X.w) X.A (.compStart (.ListComp elt [⟨tg,iter,ifs,0⟩] scope pos) 0 (.ref it) acc { cenv with scope:=relabel scope X.env }) (RR acc cenv.locals) s₄) E s₃) E s2:=by
 have hD:H2 s2.heap.objs.size = none:=I2.hok.fresh (Nat.le_refl _)
 obtain ⟨W,⟨m0,w0⟩,turn⟩:=hq s2.heap.objs.size hD
 have I3:Inv X pins σ (upd H2 s2.heap.objs.size (.lst [])) { s2 with heap:=s2.heap.push { cls:=.type "list",data:=.seq ([]:List Value).toArray } }:=I2.laid (t':=s2.toks) (fun b u e=>Heap.get?_push_of_some _ e) (Nat.le_refl _) ⟨Nat.zero_le _,[],0,.nil,Heap.get?_push_size _ rfl⟩
 have fo:∀ b ∈ fp,∃ o,s2.heap.get? b = some o:=fun b hb=>by obtain ⟨o,e,_⟩:=T.obj 0 _ st2 b hb; exact ⟨o,e⟩
 have f3:∀ b ∈ fp,FpOk X pins (upd H2 s2.heap.objs.size (.lst [])) b:=fun b hb=>by
  obtain ⟨o,e⟩:=fo b hb
  refine ⟨?_,(f2 b hb).2⟩
  rw [upd_ne (Nat.ne_of_lt (Heap.lt_size e))]
  exact (f2 b hb).1
 refine wpAny_newObj_type (wpAny_newFunctionEnv c.cell (by intro y hy; simp at hy) (fun h₁ hns₁ hsb₁=>?_) c.kind)
 have hk:∀ b o,(s2.heap.push { cls:=.type "list",data:=.seq ([]:List Value).toArray }).get? b = some o→h₁.get? b = some o:=fun b o e=>hsb₁.extBut b o (Nat.ne_of_lt (Heap.lt_size e)) (Heap.get?_push_of_some _ e)
 have st4:tn 0 h₁:=T.keep 0 _ _ st2 fun b _ o e=>hk b o (Heap.get?_push_of_some _ e)
 have I4:=comp_start (t':=s2.toks + ([]:List (Str × Value)).length) c I3 f3 (fun b hb=>by obtain ⟨o,e⟩:=fo b hb; exact ⟨o,Heap.get?_push_of_some _ e⟩) hns₁ hk
 have fpok:∀ {H':Hp},(∀ b ∈ fp,H' b = none)→∀ b ∈ fp,FpOk (compCx X scope cl (s2.heap.push { cls:=.type "list",data:=.seq ([]:List Value).toArray }).objs.size { s2 with heap:=s2.heap.push { cls:=.type "list",data:=.seq ([]:List Value).toArray } } (upd H2 s2.heap.objs.size (.lst [])) fp N) [] H' b:=fun hn b hb =>
  ⟨hn b hb,(I4.ok.exf b hb).1,I4.ok.exfs b hb,.inl hb,(I4.ok.exf b hb).2,fun p hp=>absurd (show p ∈ ([]:List (Addr × Obj)) from hp) (by simp)⟩
 have loop:codeAny (model X.prog X.w) X.A (.compLoop (.ListComp elt [⟨tg,iter,ifs,0⟩] scope pos) 0 (.ref it) (.ref s2.heap.objs.size) (compEnvC scope cl (s2.heap.push { cls:=.type "list",data:=.seq ([]:List Value).toArray }).objs.size X.env))
   (RR (.ref s2.heap.objs.size) (s2.heap.push { cls:=.type "list",data:=.seq ([]:List Value).toArray }).objs.size) { s2 with heap:=h₁,toks:=s2.toks + ([]:List (Str × Value)).length }:=by
  refine compLoop_any (fun n s'=>∃ i τ H',Inv (compCx X scope cl (s2.heap.push { cls:=.type "list",data:=.seq ([]:List Value).toArray }).objs.size { s2 with heap:=s2.heap.push { cls:=.type "list",data:=.seq ([]:List Value).toArray } } (upd H2 s2.heap.objs.size (.lst [])) fp N) [] τ H' s'∧tn i s'.heap∧(∀ b ∈ fp,H' b = none)∧W i n τ H') ?_ m0 ⟨0,_,_,I4,st4,fun b hb=>(f3 b hb).1,w0⟩
  rintro n s5 ⟨i,τ,H5,I5,st5,fr5,w5⟩
  rcases turn i n τ H5 w5 with ⟨stop,qn⟩ | ⟨go,step⟩
  ·refine thn (T.done (compCx X scope cl (s2.heap.push { cls:=.type "list",data:=.seq ([]:List Value).toArray }).objs.size { s2 with heap:=s2.heap.push { cls:=.type "list",data:=.seq ([]:List Value).toArray } } (upd H2 s2.heap.objs.size (.lst [])) fp N) rfl rfl rfl hc i [] s5 τ H5 (fun _ _=>False) I5 (fpok fr5) st5 stop) fun r s6 ⟨hr,I6⟩=>?_
   subst hr
   obtain ⟨m,hn,_⟩:=id I6.loc
   exact hRR _ _ H5 s6 m hn (I3.fpOk (Nat.le_refl _) I6.free) (fun h' hs=>comp_back I3 f3 I6 hs) qn
  ·refine thn (T.item (compCx X scope cl (s2.heap.push { cls:=.type "list",data:=.seq ([]:List Value).toArray }).objs.size { s2 with heap:=s2.heap.push { cls:=.type "list",data:=.seq ([]:List Value).toArray } } (upd H2 s2.heap.objs.size (.lst [])) fp N) rfl rfl rfl hc i [] s5 τ H5 (fun _ _=>False) I5 (fpok fr5) st5 go) fun r s6 ⟨u,hr,h6⟩=>?_
   subst hr
   refine thn h6 fun _ s7 ⟨x,H7,I7,r7,y7,st7,fr7⟩=>?_
   have I7':=I7.pinned (fpok fr7) (T.obj _ _ st7)
   refine thn (hg _ _ _ _ _ s7 τ H7 x u _ I7' r7 (step x H7 y7)) fun _ s8 ⟨τ8,H8,I8,q8⟩=>?_
   refine thn (ht _ _ _ _ _ s8 τ8 H8 _ I8 q8) fun ok s9 ⟨H9,I9,q9⟩=>?_
   have again:∀ {H':Hp} {s':Shared} {m:Nat},Inv (compCx X scope cl (s2.heap.push { cls:=.type "list",data:=.seq ([]:List Value).toArray }).objs.size { s2 with heap:=s2.heap.push { cls:=.type "list",data:=.seq ([]:List Value).toArray } } (upd H2 s2.heap.objs.size (.lst [])) fp N) ([] ++ pinsAt fp s7.heap) τ8 H' s'→(m < n∧W (i + 1) m τ8 H') →
     ∃ m,m < n∧∃ i τ H',Inv (compCx X scope cl (s2.heap.push { cls:=.type "list",data:=.seq ([]:List Value).toArray }).objs.size { s2 with heap:=s2.heap.push { cls:=.type "list",data:=.seq ([]:List Value).toArray } } (upd H2 s2.heap.objs.size (.lst [])) fp N) [] τ H' s'∧tn i s'.heap∧(∀ b ∈ fp,H' b = none)∧W i m τ H':=fun {H' s' m} I' q=>by
    refine ⟨m,q.1,i + 1,τ8,H',I'.unpinned,T.keep _ _ _ st7 fun b hb o e=>(I'.pin (b,o) (List.mem_append_right _ (List.mem_append_right _ (mem_pinsAt hb e)))).1,fun b hb=>?_,q.2⟩
    obtain ⟨o,e,d⟩:=T.obj _ _ st7 b hb
    exact (I'.pin (b,o) (List.mem_append_right _ (List.mem_append_right _ (mem_pinsAt hb e)))).2.1
   cases ok with
   | false =>
    rw [if_neg Bool.false_ne_true] at q9 ⊢
    obtain ⟨m',hm,w9⟩:=q9
    exact again I9 ⟨hm,w9⟩
   | true =>
    rw [if_pos rfl] at q9 ⊢
    refine thn (he _ _ _ _ _ s9 τ8 H9 _ I9 q9) fun v s10 ⟨z,H10,I10,r10,xs,hx,hz,m',hm,w10⟩=>?_
    refine thn (mt_append _ s10 τ8 H10 (.ref s2.heap.objs.size) [z] (.ref s2.heap.objs.size) [v] (fun _ H11=>W (i + 1) m' τ8 H11) I10 rfl (.cons r10 .nil) ⟨_,xs,z,rfl,rfl,hx,hz,w10⟩) fun _ s11 ⟨_,H11,I11,_,w11⟩=>?_
    exact again I11 ⟨hm,w11⟩
 exact codeAny_compStart_list loop (T.self _ 0 _ _ _ st4 loop)
theorem pe_comp (hx:∀ e s,X.xe e s→False) (hc:X.calm = true) (c:CompOk X scope cl N caps) (hi:PI X tg iter wi) (hg:∀ C s H fp,PG (compCx X scope cl C s H fp N) tg g) (ht:∀ C s H fp,PTs (compCx X scope cl C s H fp N) ifs tt) (he:∀ C s H fp,PE (compCx X scope cl C s H fp N) elt te)
  (hs:∀ x,foldedSetIterable iter X.env x = pure x:=by intro _; rfl):PE X (.ListComp elt [⟨tg,iter,ifs,0⟩] scope pos) (tComp caps wi g tt te):=by
 intro pins s σ H Q I h
 rw [eval_ListComp]
 refine wpAny_comprehension_free (use:=none) rfl hs c.clos c.kind c.names (thn (hi pins s σ H _ I h) fun v s1 h1=>thn h1 fun itv s2 h2=>?_)
 obtain ⟨it,fp,tn,J,H2,e,I2,T,st2,f2,q2⟩:=h2
 subst e
 exact comp_block (RR:=fun acc C=>compPost (model X.prog X.w) X.A X.xe none (EP X pins σ Q) acc C) hc c I2 T st2 f2 hg ht he Q q2 fun D C H' s' m hn _ hb q=>⟨m,hn,fun h' hs=>⟨.ref D,H',hb h' hs,rfl,q⟩⟩
end
def clOf (env:Env):List (Str × NameKind)→List (Str × Addr)→List (Str × Addr)
 | [],acc=>acc
 | (n,k) :: r,acc=>clOf env r (if k == .free then (n,(env.cells.lookup n).getD 0) :: acc else acc)
theorem clOf_mem {env:Env} {x:Str} {c:Addr}:∀ {names:List (Str × NameKind)} {acc:List (Str × Addr)},(x,c) ∈ clOf env names acc→(x,c) ∈ acc∨((x,NameKind.free) ∈ names∧c = (env.cells.lookup x).getD 0)
 | [],_,h=>.inl h
 | (n,k) :: r,acc,h=>by
  rcases clOf_mem (names:=r) h with h | ⟨h,e⟩
  ·by_cases hk:k == .free
   ·rw [if_pos hk] at h
    rcases List.mem_cons.mp h with h | h
    ·cases h
     have:k = .free:=by simpa using hk
     subst this
     exact .inr ⟨List.mem_cons_self,rfl⟩
    ·exact .inl h
   ·rw [if_neg hk] at h
    exact .inl h
  ·exact .inr ⟨List.mem_cons_of_mem _ h,e⟩
theorem clOf_acc {env:Env} {p:Str × Addr}:∀ {names:List (Str × NameKind)} {acc:List (Str × Addr)},p ∈ acc→p ∈ clOf env names acc
 | [],_,h=>h
 | (n,k) :: r,acc,h=>clOf_acc (names:=r) (by split <;> first | exact List.mem_cons_of_mem _ h | exact h)
theorem clOf_has {env:Env} {x:Str}:∀ {names:List (Str × NameKind)} {acc:List (Str × Addr)},(x,NameKind.free) ∈ names→∃ c,(x,c) ∈ clOf env names acc
 | (n,k) :: r,acc,h=>by
  rcases List.mem_cons.mp h with h | h
  ·cases h
   exact ⟨_,clOf_acc (names:=r) (by rw [if_pos (by decide)]; exact List.mem_cons_self)⟩
  ·exact clOf_has (names:=r) h
theorem lookup_of_mem {β:Type} {x:Str} {c:β}:∀ {l:List (Str × β)},(x,c) ∈ l→∃ c',l.lookup x = some c'
 | (n,v) :: r,h=>by
  cases e:x == n with
  | true=>exact ⟨v,by rw [List.lookup_cons,e]⟩
  | false =>
   rcases List.mem_cons.mp h with h | h
   ·cases h
    simp at e
   ·obtain ⟨c',q⟩:=lookup_of_mem (l:=r) h
    exact ⟨c',by rw [List.lookup_cons,e]; exact q⟩
theorem closureFor_is {env:Env} {scope:Scope} (h:∀ y ∈ scope.names,y.2 = .free→(env.cells.lookup y.1).isSome = true):closureFor scope env = pure (clOf env scope.names []):=by
 have go:∀ (names:List (Str × NameKind)) (acc:List (Str × Addr)),(∀ y ∈ names,y.2 = .free→(env.cells.lookup y.1).isSome = true) →
   (forIn names acc (fun (x:Str × NameKind) (cs:List (Str × Addr))=>(if x.2 == .free then (do let c ← cellOf env x.1; pure (ForInStep.yield ((x.1,c) :: cs))) else pure (ForInStep.yield cs):Sem (ForInStep (List (Str × Addr)))))) = (pure (clOf env names acc):Sem (List (Str × Addr))):=by
  intro names
  induction names with
  | nil=>intro acc _; rfl
  | cons y r ih =>
   intro acc hy
   obtain ⟨n,k⟩:=y
   rw [List.forIn_cons]
   by_cases hk:k == .free
   ·have hs:=hy (n,k) List.mem_cons_self (by simpa using hk)
    obtain ⟨c,hc⟩:=Option.isSome_iff_exists.mp hs
    have hc':env.cells.lookup n = some c:=hc
    simp only [hk,if_true,cellOf,hc',pure_bind,clOf,Option.getD_some]
    exact ih _ fun y hy'=>hy y (List.mem_cons_of_mem _ hy')
   ·simp only [hk,Bool.false_eq_true,if_false,pure_bind,clOf]
    exact ih _ fun y hy'=>hy y (List.mem_cons_of_mem _ hy')
 have g:=go scope.names [] h
 exact (bind_pure _).trans g
def capsOk (DN:List Str) (dsc sc:List (Str × NameKind)) (N:List Str) (caps:List (Option Nat)):Bool :=
 (caps.length == N.length) && sc.all (fun y=>y.2 != .cell && (y.2 != .free || dsc.lookup y.1 == some .cell) && (y.2 != .local || sc.lookup y.1 == some .local)) &&
 (caps.zip N).all fun p=>match p.1 with | none=>true | some i=>DN[i]? == some p.2 && dsc.lookup p.2 == some .cell && sc.lookup p.2 == some .free
theorem lookup_relab {dsc:List (Str × NameKind)} {env:Env} {x:Str} {k:NameKind}:∀ {names:List (Str × NameKind)},(names.map fun (n,k)=>if (k == .free && env.scope.kind == .function && env.kindOf n == some .cell) then (n,.cell) else (n,k)).lookup x = some k →
  ∃ k',names.lookup x = some k'∧(k' = k∨(k' = .free∧k = .cell))
 | [],h=>by simp at h
 | (n,k0) :: r,h=>by
  cases e:x == n with
  | true =>
   refine ⟨k0,by rw [List.lookup_cons,e],?_⟩
   rw [List.map_cons] at h
   dsimp only at h
   split at h
   ·rename_i hc
    rw [List.lookup_cons,e] at h
    have:k0 = .free:=by simp at hc; exact hc.1.1
    cases h
    exact .inr ⟨this,rfl⟩
   ·rw [List.lookup_cons,e] at h
    cases h
    exact .inl rfl
  | false =>
   rw [List.map_cons] at h
   dsimp only at h
   have h':(r.map fun (n,k)=>if (k == NameKind.free && env.scope.kind == .function && env.kindOf n == some .cell) then (n,NameKind.cell) else (n,k)).lookup x = some k:=by
    split at h <;> (rw [List.lookup_cons,e] at h; exact h)
   obtain ⟨k',q,z⟩:=lookup_relab (dsc:=dsc) h'
   exact ⟨k',by rw [List.lookup_cons,e]; exact q,z⟩
theorem relab_free {env:Env} {x:Str} (h1:env.scope.kind = .function) (h2:env.kindOf x = some .cell):∀ {names:List (Str × NameKind)},names.lookup x = some .free →
  (names.map fun (n,k)=>if (k == .free && env.scope.kind == .function && env.kindOf n == some .cell) then (n,.cell) else (n,k)).lookup x = some .cell
 | [],h=>by simp at h
 | (n,k0) :: r,h=>by
  rw [List.map_cons]
  cases e:x == n with
  | true =>
   rw [List.lookup_cons,e] at h
   cases h
   have en:x = n:=by simpa using e
   subst en
   dsimp only
   rw [if_pos (by rw [h1,h2]; decide),List.lookup_cons,e]
  | false =>
   rw [List.lookup_cons,e] at h
   have ih:=relab_free h1 h2 (names:=r) h
   dsimp only
   split <;> (rw [List.lookup_cons,e]; exact ih)
theorem compOk_of {X:Cx} {dsc:Scope} {L:Nat} {scope:Scope} {N:List Str} {caps:List (Option Nat)} (hd:X.env.scope = dsc) (hc:X.env.cells = cellsFrom L dsc.names []) (hdk:dsc.kind = .function) (hk:scope.kind = .function) (h:capsOk X.N dsc.names scope.names N caps = true) :
  CompOk X scope (clOf X.env scope.names []) N caps:=by
 subst hd
 simp only [capsOk,Bool.and_eq_true,List.all_eq_true,beq_iff_eq] at h
 obtain ⟨⟨hl,hs⟩,hz⟩:=h
 have hfree:∀ y ∈ scope.names,y.2 = .free→X.env.scope.names.lookup y.1 = some .cell:=fun y hy e=>by
  have q:=(hs y hy).1.2
  rw [e] at q
  simpa using q
 have hcell:∀ y ∈ scope.names,y.2 ≠ .cell:=fun y hy e=>by
  have q:=(hs y hy).1.1
  rw [e] at q
  simp at q
 have hsome:∀ x,X.env.scope.names.lookup x = some .cell→(X.env.cells.lookup x).isSome = true:=fun x e=>by
  rw [hc]
  exact PySem.W.cellsFrom_some _ _ _ (.inl e)
 have sub:∀ x c,(clOf X.env scope.names []).lookup x = some c→X.env.cells.lookup x = some c:=fun x c e=>by
  rcases clOf_mem (PySem.mem_of_lookup e) with q | ⟨q,ec⟩
  ·cases q
  ·obtain ⟨c',hc'⟩:=Option.isSome_iff_exists.mp (hsome x (hfree _ q rfl))
   rw [ec,hc']
   rfl
 refine ⟨closureFor_is fun y hy e=>hsome y.1 (hfree y hy e),sub,hk,hcell,fun y hy e=>?_,fun x hx=>?_,fun j i x h1 h2=>?_,hl⟩
 ·have q:=(hs y hy).2
  rw [e] at q
  simpa using q
 ·have fin:(x,NameKind.free) ∈ scope.names→∃ c,(clOf X.env scope.names []).lookup x = some c:=fun m=>by
   obtain ⟨c,hm⟩:=clOf_has (env:=X.env) (acc:=[]) m
   exact lookup_of_mem hm
  rcases hx with hx | hx
  ·obtain ⟨k',q,z⟩:=lookup_relab (dsc:=[]) hx
   rcases z with rfl | ⟨rfl,_⟩
   ·exact absurd rfl (hcell _ (PySem.mem_of_lookup q))
   ·exact fin (PySem.mem_of_lookup q)
  ·obtain ⟨k',q,z⟩:=lookup_relab (dsc:=[]) hx
   rcases z with rfl | ⟨_,z⟩
   ·exact fin (PySem.mem_of_lookup q)
   ·cases z
 ·have hm:(some i,x) ∈ caps.zip N:=by
   have:(caps.zip N)[j]? = some (some i,x):=by rw [List.getElem?_zip_eq_some]; exact ⟨h1,h2⟩
   exact List.mem_of_getElem? this
  have q:=hz _ hm
  simp only [Bool.and_eq_true,beq_iff_eq] at q
  obtain ⟨⟨q1,q2⟩,q3⟩:=q
  obtain ⟨c,hmc⟩:=clOf_has (env:=X.env) (acc:=[]) (PySem.mem_of_lookup q3)
  obtain ⟨c',hc'⟩:=lookup_of_mem hmc
  refine ⟨q1,.inr (.inl q2),fun z=>?_,c',hc',.inl (relab_free hdk q2 q3)⟩
  have z':X.env.scope.names.lookup x = some .local:=z
  rw [q2] at z'
  cases z'
end L2
set_option Elab.async false
set_option linter.all false
set_option maxRecDepth 100000
set_option maxHeartbeats 1000000
namespace L2
open PySem PySem.Spec PyProof.Rows
section
variable {X:Cx}
def rMulS:R2:=fun x y H Q=>∃ z n,x = .str z∧y = .int n∧z.length ≤ 1000∧n ≤ 1000∧-1000 ≤ n∧Q (.str (PySem.Txt.mul z n)) H
theorem mulOkS {z:Str} {n:Int} (h1:z.length ≤ 1000) (h2:n ≤ 1000) (h3:-1000 ≤ n):PySem.MulOk z n:=by
 refine ⟨by simp; omega,fun a _ b=>?_,fun a _=>?_⟩
 ·have e:(1000:Int) ≤ (2 ^ 63 - 1) / n:=by
   rw [Int.le_ediv_iff_mul_le (by omega)]
   have:=Int.mul_le_mul_of_nonneg_left h2 (show (0:Int) ≤ 1000 by decide)
   omega
  omega
 ·have e:z.length * n.toNat ≤ 1000 * 1000:=Nat.mul_le_mul h1 (by omega)
  unfold Builtin.Str.tooLong
  simp only [decide_eq_false_iff_not,Nat.not_lt]
  exact Nat.le_trans e (by decide)
theorem op_mulS:OpR X (binaryOp .Mult) rMulS:=by
 intro pins s σ H x y v u Q I rx ry h
 obtain ⟨z,n,rfl,rfl,h1,h2,h3,q⟩:=h
 obtain ⟨t,rfl⟩:=rx
 obtain ⟨t',rfl⟩:=ry
 exact PySem.SB.mul (mulOkS h1 h2 h3) fun _ k=>⟨.str _,H,I.tok _,⟨_,rfl⟩,q⟩
def rSlS:V→Option Int→Option Int→Hp→VK→Prop:=fun x lo hi H Q=>∃ z,x = .str z∧z.length ≤ sizeLine∧Q (.str (PySem.Txt.slice z lo hi)) H
theorem sl_str:SlR X rSlS:=by
 intro pins s σ H x v vl vu lo hi sl Q I rx hs pl pu h
 obtain ⟨z,rfl,hz,q⟩:=h
 obtain ⟨t,rfl⟩:=rx
 refine ⟨"str",_,F.slot_str_getitem.lookup,typeIs_str _ _ _,?_⟩
 have fin:∀ (a b:Option (Int × Tok)),a.map (·.1) = lo→b.map (·.1) = hi→s.heap.IsSlice sl a b none→wpAny (model X.prog X.w) X.A (getItem (.str z t) (.ref sl)) (EP X pins σ Q) X.xe s:=fun a b e1 e2 hsl=>by
  subst e1 e2
  exact wpAny_getItem_str_slice (l:=a) (u:=b) (st:=none) hsl rfl (post_val_or_str ⟨Nat.le_trans (PySem.Txt.slice_le z _ _) hz,fun _ k=>⟨.str _,H,I.tok _,⟨_,rfl⟩,q⟩⟩)
 cases pl with
 | none =>
  cases pu with
  | none=>exact fin none none rfl rfl hs
  | int j tj=>exact fin none (some (j,tj)) rfl rfl hs
 | int i ti =>
  cases pu with
  | none=>exact fin (some (i,ti)) none rfl rfl hs
  | int j tj=>exact fin (some (i,ti)) (some (j,tj)) rfl rfl hs
end
section
variable {K:PySem.W.Frag} {o:List Addr} {σ:St} {H0:Hp} {t:TE} {ta:TA} {ds:List PyData}
def intsD (lo:Int) (n:Nat):List PyData:=(List.range n).map fun k:Nat=>.int (lo + k)
theorem intsD_length {lo:Int} {n:Nat}:(intsD lo n).length = n:=by simp [intsD]
theorem intsD_get {lo:Int} {n i:Nat} {d:PyData} (h:(intsD lo n)[i]? = some d):i < n∧d = .int (lo + i):=by
 have hi:i < n:=by
  have:=List.getElem?_eq_some_iff.mp h
  obtain ⟨hl,_⟩:=this
  rwa [intsD_length] at hl
 refine ⟨hi,?_⟩
 simp only [intsD,List.getElem?_map,List.getElem?_range hi,Option.map_some,Option.some.injEq] at h
 exact h.symm
end
section
variable {K:PySem.W.Frag} {o:List Addr} {σ:St} {H0:Hp} {wi:TI} {g:TG} {tt:TT} {te:TE} {caps:List (Option Nat)} {ds:List PyData}
end
section
variable {o:List Addr} {σ:St} {H0:Hp} {t1 t2:TE}
end
def cutL {α:Type} (xs:List α) (lo hi:Option Int):List α:=(xs.drop (HT.sIx xs.length 0 lo)).take (HT.sIx xs.length xs.length hi - HT.sIx xs.length 0 lo)
theorem cutL_length {α:Type} (xs:List α) (lo hi:Option Int):(cutL xs lo hi).length ≤ xs.length:=by
 unfold cutL
 rw [List.length_take,List.length_drop]
 omega
theorem HasL.drop {H:Hp}:∀ {ds:List PyData} {vs:List V} (n:Nat),HasL H ds vs→HasL H (ds.drop n) (vs.drop n)
 | ds,vs,0,h=>h
 | [],vs,n + 1,h=>by rw [hasL_nil.mp h]; exact hasL_nil.mpr rfl
 | d :: ds,vs,n + 1,h=>by
  obtain ⟨v,r,rfl,_,l⟩:=hasL_cons.mp h
  exact HasL.drop n l
theorem HasL.take {H:Hp}:∀ {ds:List PyData} {vs:List V} (n:Nat),HasL H ds vs→HasL H (ds.take n) (vs.take n)
 | ds,vs,0,h=>hasL_nil.mpr rfl
 | [],vs,n + 1,h=>by rw [hasL_nil.mp h]; exact hasL_nil.mpr rfl
 | d :: ds,vs,n + 1,h=>by
  obtain ⟨v,r,rfl,q,l⟩:=hasL_cons.mp h
  exact hasL_cons.mpr ⟨v,_,rfl,q,HasL.take n l⟩
theorem HasL.cut {H:Hp} {ds:List PyData} {vs:List V} (lo hi:Option Int) (h:HasL H ds vs):HasL H (cutL ds lo hi) (cutV vs lo hi):=by
 unfold cutL cutV
 rw [h.length]
 exact (h.drop _).take _
theorem HasL.rev {H:Hp}:∀ {ds:List PyData} {vs:List V},HasL H ds vs→HasL H ds.reverse vs.reverse
 | [],vs,h=>by rw [hasL_nil.mp h]; exact hasL_nil.mpr rfl
 | d :: ds,vs,h=>by
  obtain ⟨v,r,rfl,q,l⟩:=hasL_cons.mp h
  rw [List.reverse_cons,List.reverse_cons]
  exact (HasL.rev l).append (hasL_cons.mpr ⟨v,[],rfl,q,hasL_nil.mpr rfl⟩)
section
variable {K:PySem.W.Frag} {o:List Addr} {σ:St} {H0:Hp} {t1 t2:TE} {ds:List PyData}
end
end L2
set_option Elab.async false
set_option linter.all false
set_option maxRecDepth 100000
set_option maxHeartbeats 200000
namespace L2
open PySem PySem.Spec PyProof.Rows
theorem vw_iff:∀ {l:List Addr} {H:Hp} {b:Addr} {u:HO},vw l H b = some u ↔ b ∉ l∧H b = some u
 | [],H,b,u=>by simp [vw]
 | a :: r,H,b,u=>by
  show hid a (vw r H) b = some u ↔ _
  by_cases h:b = a
  ·subst h; simp [hid_self]
  ·rw [hid_at h,vw_iff]; simp [h]
def vx (h o:List Addr) (H:Hp):Hp:=vw (h ++ o) H
theorem vx_iff {h o:List Addr} {H:Hp} {b:Addr} {u:HO}:vx h o H b = some u ↔ b ∉ h∧b ∉ o∧H b = some u:=by
 unfold vx
 rw [vw_iff]
 simp [and_assoc]
theorem vx_full {h o:List Addr} {H:Hp}:Same (vx h o H) H:=fun b u e=>(vx_iff.mp e).2.2
theorem vx_same {h o:List Addr} {H H':Hp} (s:Same H H'):Same (vx h o H) (vx h o H'):=fun b u e=>by
 obtain ⟨h1,h2,h3⟩:=vx_iff.mp e
 exact vx_iff.mpr ⟨h1,h2,s b u h3⟩
structure Ex (o:List Addr) (H:Hp) (o':List Addr) (H':Hp):Prop where
 pre:∃ r,o' = o ++ r
 kp:∀ b u,b ∉ o→H b = some u→b ∉ o'∧H' b = some u
section
variable {h o o' o'':List Addr} {H H' H'':Hp} {S:List (List PyData)} {p a:Addr}
theorem Ex.refl:Ex o H o H:=⟨⟨[],by simp⟩,fun _ _ a b=>⟨a,b⟩⟩
theorem Ex.trans (a:Ex o H o' H') (b:Ex o' H' o'' H''):Ex o H o'' H'':=by
 obtain ⟨⟨r,e⟩,ka⟩:=a
 obtain ⟨⟨t,e'⟩,kb⟩:=b
 refine ⟨⟨r ++ t,by rw [e',e,List.append_assoc]⟩,fun b u h1 h2=>?_⟩
 obtain ⟨h3,h4⟩:=ka b u h1 h2
 exact kb b u h3 h4
theorem Ex.vx (e:Ex o H o' H'):Same (L2.vx h o H) (L2.vx h o' H'):=fun b u q=>by
 obtain ⟨h1,h2,h3⟩:=vx_iff.mp q
 obtain ⟨h4,h5⟩:=e.kp b u h2 h3
 exact vx_iff.mpr ⟨h1,h4,h5⟩
structure ExH (h o:List Addr) (H:Hp) (o':List Addr) (H':Hp):Prop where
 pre:∃ r,o' = o ++ r
 kp:∀ b u,b ∉ h→b ∉ o→H b = some u→b ∉ o'∧H' b = some u
theorem Ex.hid (e:Ex o H o' H'):ExH h o H o' H':=⟨e.pre,fun b u _=>e.kp b u⟩
theorem ExH.refl:ExH h o H o H:=Ex.refl.hid
theorem ExH.trans (a:ExH h o H o' H') (b:ExH h o' H' o'' H''):ExH h o H o'' H'':=by
 obtain ⟨⟨r,e⟩,ka⟩:=a
 obtain ⟨⟨t,e'⟩,kb⟩:=b
 refine ⟨⟨r ++ t,by rw [e',e,List.append_assoc]⟩,fun b u h0 h1 h2=>?_⟩
 obtain ⟨h3,h4⟩:=ka b u h0 h1 h2
 exact kb b u h0 h3 h4
theorem ExH.vx (e:ExH h o H o' H'):Same (L2.vx h o H) (L2.vx h o' H'):=fun b u q=>by
 obtain ⟨h1,h2,h3⟩:=vx_iff.mp q
 obtain ⟨h4,h5⟩:=e.kp b u h1 h2 h3
 exact vx_iff.mpr ⟨h1,h4,h5⟩
theorem Ex.of_same (s:Same H H'):Ex o H o H':=⟨⟨[],by simp⟩,fun b u h e=>⟨h,s b u e⟩⟩
theorem get_app {α:Type} {l t:List α} {k:Nat} {a:α} (q:l[k]? = some a):(l ++ t)[k]? = some a:=by
 obtain ⟨hk,_⟩:=List.getElem?_eq_some_iff.mp q
 rw [List.getElem?_append_left hk]
 exact q
def exO (a C:Addr) (d:Option Addr):HO:=.ext fun h=>∃ o,h.get? a = some o∧o.cls = .ref C∧o.dict = d∧∃ vs,o.data = .fields vs
def xw (dx:Addr) (fs:List (Str × V)):HO:=.ext fun h=>∃ mA,h.Ns1 dx mA∧(∀ f,RelO (fs.lookup f) (mA f))∧PySem.Within mA (fs.map (·.1))
def HasE (H:Hp) (C:Addr) (fs:List (Str × PyData)) (v:V):Prop:=∃ a d,v = .ref a∧H a = some (exO a C d)∧∀ f dt,fs.lookup f = some dt→∃ dx vs u,d = some dx∧H dx = some (xw dx vs)∧vs.lookup f = some u∧Has H dt u
theorem HasE.mono {H H':Hp} {C:Addr} {fs:List (Str × PyData)} {v:V} (s:Same H H') (q:HasE H C fs v):HasE H' C fs v:=by
 obtain ⟨a,d,e,ha,hf⟩:=q
 refine ⟨a,d,e,s _ _ ha,fun f dt l=>?_⟩
 obtain ⟨dx,vs,u,e1,e2,e3,e4⟩:=hf f dt l
 exact ⟨dx,vs,u,e1,s _ _ e2,e3,Has.mono s _ _ e4⟩
inductive XV where
 | d (d:PyData)
 | l (k:Nat)
 | o (v:V)
 | x (C:Addr) (fs:List (Str × PyData))
def HasX (h o:List Addr) (H:Hp):XV→V→Prop
 | .d d,v=>Has (vx h o H) d v
 | .l k,v=>∃ a,o[k]? = some a∧v = .ref a
 | .o w,v=>v = w
 | .x C fs,v=>HasE (vx h o H) C fs v
theorem HasX.mono (e:Ex o H o' H'):∀ {x:XV} {v:V},HasX h o H x v→HasX h o' H' x v
 | .d d,v,q=>Has.mono e.vx d v q
 | .l k,v,⟨a,q,r⟩=>by
  obtain ⟨t,rfl⟩:=e.pre
  exact ⟨a,get_app q,r⟩
 | .o w,v,q=>q
 | .x C fs,v,q=>HasE.mono e.vx q
def HasXs (h o:List Addr) (H:Hp):List XV→List V→Prop
 | [],vs=>vs = []
 | x :: xs,vs=>∃ v r,vs = v :: r∧HasX h o H x v∧HasXs h o H xs r
abbrev Sto:=List (List PyData)
inductive MO where
 | l (vs:List V)
 | k (m:List (Key × V))
 | t (m:List (List Key × V))
def MO.ho:MO→HO
 | .l vs=>.lst vs
 | .k m=>.dK m
 | .t m=>.dT m
structure RepS (h o:List Addr) (H:Hp) (S:Sto):Prop where
 len:S.length = o.length
 nd:o.Nodup
 dis:∀ a ∈ o,a ∉ h
 hal:∀ b ∈ h,∃ u:MO,H b = some u.ho
 cont:∀ (k:Nat) (a:Addr) (ds:List PyData),o[k]? = some a→S[k]? = some ds→∃ vs,H a = some (.lst vs)∧HasL (vx h o H) ds vs
theorem get_same {α β:Type} {l:List α} {t:List β} {k:Nat} {a:α} (hl:t.length = l.length) (q:l[k]? = some a):∃ b,t[k]? = some b:=by
 obtain ⟨hk,_⟩:=List.getElem?_eq_some_iff.mp q
 exact ⟨t[k]'(by omega),List.getElem?_eq_getElem _⟩
theorem RepS.oal (r:RepS h o H S):∀ a ∈ o,∃ u,H a = some (.lst u):=fun a ha=>by
 obtain ⟨k,hk⟩:=List.mem_iff_getElem?.mp ha
 obtain ⟨ds,e⟩:=get_same r.len hk
 obtain ⟨vs,e',_⟩:=r.cont k a ds hk e
 exact ⟨_,e'⟩
theorem RepS.oam (r:RepS h o H S):∀ a ∈ o,∃ u:MO,H a = some u.ho:=fun a ha=>let ⟨u,e⟩:=r.oal a ha; ⟨.l u,e⟩
theorem RepS.fresh (r:RepS h o H S) (hp:H p = none):p ∉ h∧p ∉ o:=by
 constructor
 ·intro m
  obtain ⟨u,e⟩:=r.hal p m
  rw [hp] at e
  cases e
 ·intro m
  obtain ⟨u,e⟩:=r.oal p m
  rw [hp] at e
  cases e
theorem RepS.same (r:RepS h o H S) (s:Same H H'):RepS h o H' S where
 len:=r.len
 nd:=r.nd
 dis:=r.dis
 hal:=fun b m=>by obtain ⟨u,e⟩:=r.hal b m; exact ⟨u,s b _ e⟩
 cont:=fun k a ds e1 e2=>by
  obtain ⟨vs,e3,l⟩:=r.cont k a ds e1 e2
  exact ⟨vs,s _ _ e3,HasL.mono (vx_same s) _ _ l⟩
theorem RepS.laid {u:HO} (r:RepS h o H S) (hp:H p = none):vx h o (upd H p u) p = some u:=by
 obtain ⟨h1,h2⟩:=r.fresh hp
 exact vx_iff.mpr ⟨h1,h2,upd_same⟩
theorem Ex.new {u:HO} (r:RepS h o H S) (hp:H p = none):Ex o H (o ++ [p]) (upd H p u):=by
 refine ⟨⟨[p],rfl⟩,fun b w hb e=>?_⟩
 have ne:b ≠ p:=ne_of_none e hp
 exact ⟨by simp [hb,ne],by rw [upd_ne ne]; exact e⟩
theorem nodup_snoc {α:Type} {l:List α} {a:α} (h:l.Nodup) (n:a ∉ l):(l ++ [a]).Nodup:=by
 rw [List.nodup_append]
 refine ⟨h,by simp,fun x hx y hy e=>?_⟩
 rw [List.mem_singleton] at hy
 subst hy
 subst e
 exact n hx
theorem RepS.new {ds:List PyData} {vs:List V} (r:RepS h o H S) (hp:H p = none) (l:HasL (vx h o H) ds vs):RepS h (o ++ [p]) (upd H p (.lst vs)) (S ++ [ds]):=by
 obtain ⟨h1,h2⟩:=r.fresh hp
 have ex:Ex o H (o ++ [p]) (upd H p (.lst vs)):=Ex.new r hp
 refine ⟨by simp [r.len],nodup_snoc r.nd h2,fun a ha=>?_,fun b hb=>?_,fun k a es e1 e2=>?_⟩
 ·rcases List.mem_append.mp ha with ha | ha
  ·exact r.dis a ha
  ·rw [List.mem_singleton.mp ha]; exact h1
 ·obtain ⟨u,e⟩:=r.hal b hb
  exact ⟨u,by rw [upd_ne (ne_of_none e hp)]; exact e⟩
 ·by_cases hk:k < o.length
  ·rw [List.getElem?_append_left hk] at e1
   rw [List.getElem?_append_left (by rw [r.len]; exact hk)] at e2
   obtain ⟨ws,e3,l3⟩:=r.cont k a es e1 e2
   refine ⟨ws,?_,l3.mono ex.vx⟩
   rw [upd_ne (ne_of_none e3 hp)]
   exact e3
  ·have hk':k = o.length:=by
    obtain ⟨q,_⟩:=List.getElem?_eq_some_iff.mp e1
    rw [List.length_append,List.length_singleton] at q
    omega
   subst hk'
   rw [List.getElem?_concat_length] at e1
   rw [← r.len,List.getElem?_concat_length] at e2
   cases e1
   cases e2
   exact ⟨vs,upd_same,l.mono ex.vx⟩
theorem Ex.upd {k:Nat} {u:HO} (e:o[k]? = some a):Ex o H o (L2.upd H a u) :=
 ⟨⟨[],by simp⟩,fun b w hb eb=>⟨hb,by rw [upd_ne (fun z=>hb (by rw [z]; exact List.mem_of_getElem? e))]; exact eb⟩⟩
theorem nodup_get {l:List Addr} (h:l.Nodup) {i j:Nat} {a:Addr} (e1:l[i]? = some a) (e2:l[j]? = some a):i = j:=by
 obtain ⟨hi,e1⟩:=List.getElem?_eq_some_iff.mp e1
 obtain ⟨hj,e2⟩:=List.getElem?_eq_some_iff.mp e2
 exact (List.getElem_inj h).mp (e1.trans e2.symm)
theorem RepS.upd {k:Nat} {ds:List PyData} {vs:List V} (r:RepS h o H S) (e:o[k]? = some a) (l:HasL (vx h o H) ds vs):RepS h o (L2.upd H a (.lst vs)) (S.set k ds):=by
 have ex:Ex o H o (L2.upd H a (.lst vs)):=Ex.upd e
 refine ⟨by simp [r.len],r.nd,r.dis,fun b hb=>?_,fun j b es e1 e2=>?_⟩
 ·obtain ⟨u,eb⟩:=r.hal b hb
  have ne:b ≠ a:=fun z=>r.dis a (List.mem_of_getElem? e) (z ▸ hb)
  exact ⟨u,by rw [upd_ne ne]; exact eb⟩
 ·by_cases hj:j = k
  ·subst hj
   rw [e1] at e
   cases e
   obtain ⟨hk,_⟩:=List.getElem?_eq_some_iff.mp e1
   rw [List.getElem?_set_self (by rw [r.len]; exact hk)] at e2
   cases e2
   exact ⟨vs,upd_same,l.mono ex.vx⟩
  ·rw [List.getElem?_set_ne (Ne.symm hj)] at e2
   obtain ⟨ws,e3,l3⟩:=r.cont j b es e1 e2
   have ne:b ≠ a:=fun z=>hj (nodup_get r.nd e1 (z ▸ e))
   exact ⟨ws,by rw [upd_ne ne]; exact e3,l3.mono ex.vx⟩
abbrev XE:=List (Option XV)
structure RepE (h o:List Addr) (H:Hp) (δ:XE) (σ:St):Prop where
 len:δ.length = σ.length
 get:∀ (i:Nat) x,δ[i]? = some (some x)→∃ v,σ[i]? = some (some v)∧HasX h o H x v
variable {δ:XE} {σ:St}
theorem RepE.mono (r:RepE h o H δ σ) (e:Ex o H o' H'):RepE h o' H' δ σ:=⟨r.len,fun i x q=>by
 obtain ⟨v,e1,e2⟩:=r.get i x q
 exact ⟨v,e1,e2.mono e⟩⟩
theorem RepE.set {i:Nat} {x:XV} {v:V} (r:RepE h o H δ σ) (q:HasX h o H x v):RepE h o H (δ.set i (some x)) (σ.set i (some v)):=by
 refine ⟨by simp [r.len],fun j y e=>?_⟩
 rw [List.getElem?_set] at e ⊢
 by_cases hij:i = j
 ·rw [if_pos hij] at e ⊢
  by_cases hl:i < δ.length
  ·rw [if_pos hl] at e
   rw [if_pos (by rw [← r.len]; exact hl)]
   cases e
   exact ⟨v,rfl,q⟩
  ·rw [if_neg hl] at e
   cases e
 ·rw [if_neg hij] at e ⊢
  exact r.get j y e
def tauX (caps:List (Option Nat)) (δ:XE):XE:=caps.map fun o=>o.bind fun i=>(δ[i]?).join
theorem RepE.tau {caps:List (Option Nat)} (r:RepE h o H δ σ):RepE h o H (tauX caps δ) (L2.tau caps σ):=by
 refine ⟨by simp [tauX,L2.tau],fun i x e=>?_⟩
 unfold tauX at e
 unfold L2.tau
 rw [List.getElem?_map] at e ⊢
 cases hc:caps[i]? with
 | none=>rw [hc] at e; cases e
 | some c =>
  rw [hc] at e
  cases c with
  | none=>cases e
  | some j =>
   have e':(δ[j]?).join = some x:=by simpa using e
   have e2:δ[j]? = some (some x):=by
    cases hd:δ[j]? with
    | none=>rw [hd] at e'; cases e'
    | some y=>rw [hd] at e'; exact congrArg some (by simpa using e')
   obtain ⟨v,e3,e4⟩:=r.get j x e2
   exact ⟨v,by simp [e3],e4⟩
end
abbrev RX:=XV→Sto→Prop
abbrev DE:=XE→Sto→RX→Prop
abbrev DT:=XE→Sto→(Bool→Sto→Prop)→Prop
abbrev DA:=XE→Sto→(List XV→Sto→Prop)→Prop
abbrev D2:=XV→XV→Sto→RX→Prop
def Cn (h o:List Addr) (H:Hp) (R:RX) (Q:VK):Prop:=∀ o' H' S' x v,Ex o H o' H'→RepS h o' H' S'→HasX h o' H' x v→R x S'→Q v H'
theorem Cn.pre {h o o':List Addr} {H H':Hp} {R:RX} {Q:VK} (c:Cn h o H R Q) (e:Ex o H o' H'):Cn h o' H' R Q:=fun o2 H2 S2 x v e2=>c o2 H2 S2 x v (e.trans e2)
def RE (t:TE) (dt:DE):Prop:=∀ (h o:List Addr) (H:Hp) (δ:XE) (σ:St) (S:Sto) (R:RX) (Q:VK),RepE h o H δ σ→RepS h o H S→dt δ S R→Cn h o H R Q→t σ H Q
def RT (t:TT) (dt:DT):Prop:=∀ (h o:List Addr) (H:Hp) (δ:XE) (σ:St) (S:Sto) (R:Bool→Sto→Prop) (Q:Bool→Hp→Prop),RepE h o H δ σ→RepS h o H S→dt δ S R →
 (∀ o' H' S' b,Ex o H o' H'→RepS h o' H' S'→R b S'→Q b H')→t σ H Q
def RA (t:TA) (dt:DA):Prop:=∀ (h o:List Addr) (H:Hp) (δ:XE) (σ:St) (S:Sto) (R:List XV→Sto→Prop) (Q:List V→Hp→Prop),RepE h o H δ σ→RepS h o H S→dt δ S R →
 (∀ o' H' S' xs vs,Ex o H o' H'→RepS h o' H' S'→HasXs h o' H' xs vs→R xs S'→Q vs H')→t σ H Q
def RO (r:R2) (rd:D2):Prop:=∀ (h o:List Addr) (H:Hp) (S:Sto) (x y:XV) (v u:V) (R:RX) (Q:VK),RepS h o H S→HasX h o H x v→HasX h o H y u→rd x y S R→Cn h o H R Q→r v u H Q
def RU (r:V→Hp→VK→Prop) (rd:XV→Sto→RX→Prop):Prop:=∀ (h o:List Addr) (H:Hp) (S:Sto) (x:XV) (v:V) (R:RX) (Q:VK),RepS h o H S→HasX h o H x v→rd x S R→Cn h o H R Q→r v H Q
def RC (r:List V→Hp→VK→Prop) (rd:List XV→Sto→RX→Prop):Prop:=∀ (h o:List Addr) (H:Hp) (S:Sto) (xs:List XV) (vs:List V) (R:RX) (Q:VK),RepS h o H S→HasXs h o H xs vs→rd xs S R→Cn h o H R Q→r vs H Q
def asI:XV→(Int→Prop)→Prop
 | .d (.int i),k=>k i
 | _,_=>False
def asB:XV→(Bool→Prop)→Prop
 | .d (.bool i),k=>k i
 | _,_=>False
def asS:XV→(Str→Prop)→Prop
 | .d (.str i),k=>k i
 | _,_=>False
def asT:XV→(List PyData→Prop)→Prop
 | .d (.tuple i),k=>k i
 | _,_=>False
def asLs (S:Sto):XV→Option (List PyData)
 | .d (.list ds)=>some ds
 | .l k=>S[k]?
 | _=>none
def asL (S:Sto) (x:XV) (k:List PyData→Prop):Prop:=∃ ds,asLs S x = some ds∧k ds
def asDat (S:Sto):XV→Option PyData
 | .d d=>some d
 | .l k=>(S[k]?).map .list
 | .o _=>none
 | .x _ _=>none
def asD (x:XV) (k:PyData→Prop):Prop:=match x with
 | .d d=>k d
 | _=>False
theorem asI_ex {x:XV} {k:Int→Prop} (h:asI x k):∃ i,x = .d (.int i)∧k i:=by
 unfold asI at h
 split at h
 ·exact ⟨_,rfl,h⟩
 ·exact h.elim
theorem asB_ex {x:XV} {k:Bool→Prop} (h:asB x k):∃ i,x = .d (.bool i)∧k i:=by
 unfold asB at h
 split at h
 ·exact ⟨_,rfl,h⟩
 ·exact h.elim
theorem asS_ex {x:XV} {k:Str→Prop} (h:asS x k):∃ i,x = .d (.str i)∧k i:=by
 unfold asS at h
 split at h
 ·exact ⟨_,rfl,h⟩
 ·exact h.elim
theorem asT_ex {x:XV} {k:List PyData→Prop} (h:asT x k):∃ i,x = .d (.tuple i)∧k i:=by
 unfold asT at h
 split at h
 ·exact ⟨_,rfl,h⟩
 ·exact h.elim
theorem asD_ex {x:XV} {k:PyData→Prop} (h:asD x k):∃ i,x = .d i∧k i:=by
 unfold asD at h
 split at h
 ·exact ⟨_,rfl,h⟩
 ·exact h.elim
section
variable {h o:List Addr} {H:Hp} {S:Sto} {x:XV} {v:V} {i:Int} {b:Bool} {z:Str} {ds:List PyData} {d:PyData}
theorem hx_int (q:HasX h o H (.d (.int i)) v):v = .int i:=(has_int (H:=vx h o H)).mp q
theorem hx_bool (q:HasX h o H (.d (.bool b)) v):v = .bl b:=(has_bool (H:=vx h o H)).mp q
theorem hx_str (q:HasX h o H (.d (.str z)) v):v = .str z:=(has_str (H:=vx h o H)).mp q
theorem hx_tup (q:HasX h o H (.d (.tuple ds)) v):∃ a vs,v = .ref a∧H a = some (.tup vs)∧HasL (vx h o H) ds vs:=by
 obtain ⟨a,vs,e,q,l⟩:=has_tuple.mp (show Has _ _ _ from q)
 exact ⟨a,vs,e,vx_full _ _ q,l⟩
theorem hx_lst (r:RepS h o H S) (e:asLs S x = some ds) (q:HasX h o H x v):∃ a vs,v = .ref a∧H a = some (.lst vs)∧HasL (vx h o H) ds vs:=by
 unfold asLs at e
 split at e
 ·cases e
  obtain ⟨a,vs,e,q,l⟩:=has_list.mp (show Has _ _ _ from q)
  exact ⟨a,vs,e,vx_full _ _ q,l⟩
 ·obtain ⟨a,e1,rfl⟩:=q
  obtain ⟨vs,e2,l⟩:=r.cont _ a ds e1 e
  exact ⟨a,vs,rfl,e2,l⟩
 ·cases e
theorem hx_full (r:RepS h o H S) (e:asDat S x = some d) (q:HasX h o H x v):Has H d v:=by
 unfold asDat at e
 split at e
 ·cases e
  exact Has.mono vx_full _ _ q
 ·rename_i k
  obtain ⟨a,e1,rfl⟩:=q
  cases hs:S[k]? with
  | none=>rw [hs] at e; cases e
  | some es =>
   rw [hs] at e
   cases e
   obtain ⟨vs,e2,l⟩:=r.cont k a es e1 hs
   exact has_list.mpr ⟨a,vs,rfl,e2,HasL.mono vx_full _ _ l⟩
 ·cases e
 ·cases e
theorem xI (i:Int):HasX h o H (.d (.int i)) (.int i):=(has_int (H:=vx h o H)).mpr rfl
theorem xB (i:Bool):HasX h o H (.d (.bool i)) (.bl i):=(has_bool (H:=vx h o H)).mpr rfl
theorem xS (i:Str):HasX h o H (.d (.str i)) (.str i):=(has_str (H:=vx h o H)).mpr rfl
theorem xN:HasX h o H (.d .none) .non:=(has_none (H:=vx h o H)).mpr rfl
theorem mkTup {vs:List V} {R:RX} {Q:VK} (r:RepS h o H S) (l:HasL (vx h o H) ds vs) (c:Cn h o H R Q) (q:R (.d (.tuple ds)) S):∀ p,H p = none→Q (.ref p) (upd H p (.tup vs)):=fun p hp =>
 c o _ S (.d (.tuple ds)) _ (Ex.of_same (Same.laid hp)) (r.same (Same.laid hp)) (has_tuple.mpr ⟨p,vs,rfl,r.laid hp,l.mono (vx_same (Same.laid hp))⟩) q
theorem mkLst {vs:List V} {R:RX} {Q:VK} (r:RepS h o H S) (l:HasL (vx h o H) ds vs) (c:Cn h o H R Q) (q:R (.d (.list ds)) S):∀ p,H p = none→Q (.ref p) (upd H p (.lst vs)):=fun p hp =>
 c o _ S (.d (.list ds)) _ (Ex.of_same (Same.laid hp)) (r.same (Same.laid hp)) (has_list.mpr ⟨p,vs,rfl,r.laid hp,l.mono (vx_same (Same.laid hp))⟩) q
theorem mkTrk {vs:List V} {R:RX} {Q:VK} (r:RepS h o H S) (l:HasL (vx h o H) ds vs) (c:Cn h o H R Q) (q:R (.l S.length) (S ++ [ds])):∀ p,H p = none→Q (.ref p) (upd H p (.lst vs)):=fun p hp =>
 c (o ++ [p]) _ (S ++ [ds]) (.l S.length) _ (Ex.new r hp) (r.new hp l) ⟨p,by rw [r.len,List.getElem?_concat_length],rfl⟩ q
theorem hxs_data:∀ {xs:List XV} {vs:List V} {ds:List PyData},HasXs h o H xs vs→xs = ds.map XV.d→HasL (vx h o H) ds vs
 | [],vs,[],q,_=>hasL_nil.mpr q
 | x :: xs,vs,d :: ds,⟨v,r,e,q,l⟩,e2=>by
  rw [List.map_cons] at e2
  cases e2
  exact hasL_cons.mpr ⟨v,r,e,q,hxs_data l rfl⟩
 | x :: xs,vs,[],_,e2=>by cases e2
 | [],vs,d :: ds,_,e2=>by cases e2
end
def datas:List XV→Option (List PyData)
 | []=>some []
 | .d d :: r=>(datas r).map (d :: ·)
 | _ :: _=>none
theorem datas_eq:∀ {xs:List XV} {ds:List PyData},datas xs = some ds→xs = ds.map XV.d
 | [],ds,e=>by cases e; rfl
 | .d d :: r,ds,e=>by
  unfold datas at e
  cases hr:datas r with
  | none=>rw [hr] at e; cases e
  | some es =>
   rw [hr] at e
   cases e
   rw [datas_eq hr]
   rfl
 | .l _ :: _,_,e=>by cases e
 | .o _ :: _,_,e=>by cases e
 | .x _ _ :: _,_,e=>by cases e
def dVar (i:Nat):DE:=fun δ S R=>∃ x,δ[i]? = some (some x)∧R x S
def dC (d:PyData):DE:=fun _ S R=>R (.d d) S
def dO (v:V):DE:=fun _ S R=>R (.o v) S
def dOp (rd:D2) (a b:DE):DE:=fun δ S R=>a δ S fun x S1=>b δ S1 fun y S2=>rd x y S2 R
def dUn (rd:XV→Sto→RX→Prop) (a:DE):DE:=fun δ S R=>a δ S fun x S1=>rd x S1 R
def dNil:DA:=fun _ S R=>R [] S
def dCons (a:DE) (b:DA):DA:=fun δ S R=>a δ S fun x S1=>b δ S1 fun xs S2=>R (x :: xs) S2
def dCB (rd:List XV→Sto→RX→Prop) (a:DA):DE:=fun δ S R=>a δ S fun xs S1=>rd xs S1 R
def dTup (a:DA):DE:=fun δ S R=>a δ S fun xs S1=>∃ ds,datas xs = some ds∧ds.length ≤ 1000∧R (.d (.tuple ds)) S1
def dLst (a:DA):DE:=fun δ S R=>a δ S fun xs S1=>∃ ds,datas xs = some ds∧ds.length ≤ 1000∧R (.d (.list ds)) S1
def dLstT (a:DA):DE:=fun δ S R=>a δ S fun xs S1=>∃ ds,datas xs = some ds∧ds.length ≤ 1000∧R (.l S1.length) (S1 ++ [ds])
section
variable {t ta tb tc:TE} {da db dc:DE} {tl:TA} {dl:DA} {tt tu:TT} {dt du:DT}
theorem re_var {i:Nat}:RE (tVar i) (dVar i):=fun h o H δ σ S R Q he hs ⟨x,e,q⟩ c=>by
 obtain ⟨v,e1,e2⟩:=he.get i x e
 exact ⟨v,e1,c o H S x v Ex.refl hs e2 q⟩
theorem re_int {i:Int}:RE (tC (.int i)) (dC (.int i)):=fun h o H δ σ S R Q he hs q c=>c o H S _ _ Ex.refl hs (xI i) q
theorem re_bl {i:Bool}:RE (tC (.bl i)) (dC (.bool i)):=fun h o H δ σ S R Q he hs q c=>c o H S _ _ Ex.refl hs (xB i) q
theorem re_str {i:Str}:RE (tC (.str i)) (dC (.str i)):=fun h o H δ σ S R Q he hs q c=>c o H S _ _ Ex.refl hs (xS i) q
theorem re_non:RE (tC .non) (dC .none):=fun h o H δ σ S R Q he hs q c=>c o H S _ _ Ex.refl hs xN q
theorem re_o {v:V}:RE (tC v) (dO v):=fun h o H δ σ S R Q he hs q c=>c o H S (.o v) v Ex.refl hs rfl q
theorem re_op {r:R2} {rd:D2} (hr:RO r rd) (ha:RE ta da) (hb:RE tb db):RE (tOp r ta tb) (dOp rd da db):=fun h o H δ σ S R Q he hs q c =>
 ha h o H δ σ S _ _ he hs q fun o1 H1 S1 x v e1 s1 x1 d1=>hb h o1 H1 δ σ S1 _ _ (he.mono e1) s1 d1 fun o2 H2 S2 y u e2 s2 y2 d2 =>
  hr h o2 H2 S2 x y v u R Q s2 (x1.mono e2) y2 d2 (c.pre (e1.trans e2))
theorem re_un {r:V→Hp→VK→Prop} {rd:XV→Sto→RX→Prop} (hr:RU r rd) (ha:RE ta da):RE (tUn r ta) (dUn rd da):=fun h o H δ σ S R Q he hs q c =>
 ha h o H δ σ S _ _ he hs q fun o1 H1 S1 x v e1 s1 x1 d1=>hr h o1 H1 S1 x v R Q s1 x1 d1 (c.pre e1)
theorem ra_nil:RA tNil dNil:=fun h o H δ σ S R Q he hs q c=>c o H S [] [] Ex.refl hs rfl q
theorem ra_cons (ha:RE ta da) (hb:RA tl dl):RA (tCons ta tl) (dCons da dl):=fun h o H δ σ S R Q he hs q c =>
 ha h o H δ σ S _ _ he hs q fun o1 H1 S1 x v e1 s1 x1 d1=>hb h o1 H1 δ σ S1 _ _ (he.mono e1) s1 d1 fun o2 H2 S2 xs vs e2 s2 x2 d2 =>
  c o2 H2 S2 (x :: xs) (v :: vs) (e1.trans e2) s2 ⟨v,vs,rfl,x1.mono e2,x2⟩ d2
theorem re_cb {r:List V→Hp→VK→Prop} {rd:List XV→Sto→RX→Prop} (hr:RC r rd) (ha:RA tl dl):RE (tCB r tl) (dCB rd dl):=fun h o H δ σ S R Q he hs q c =>
 ha h o H δ σ S _ _ he hs q fun o1 H1 S1 xs vs e1 s1 x1 d1=>hr h o1 H1 S1 xs vs R Q s1 x1 d1 (c.pre e1)
theorem re_tup (ha:RA tl dl):RE (tTup tl) (dTup dl):=fun h o H δ σ S R Q he hs q c =>
 ha h o H δ σ S _ _ he hs q fun o1 H1 S1 xs vs e1 s1 x1 ⟨ds,e,hl,d1⟩=>by
  have l:=hxs_data x1 (datas_eq e)
  exact ⟨by rw [l.length]; exact Nat.le_of_lt (small1000 hl),mkTup s1 l (c.pre e1) d1⟩
theorem re_lst (ha:RA tl dl):RE (tLst tl) (dLst dl):=fun h o H δ σ S R Q he hs q c =>
 ha h o H δ σ S _ _ he hs q fun o1 H1 S1 xs vs e1 s1 x1 ⟨ds,e,hl,d1⟩=>by
  have l:=hxs_data x1 (datas_eq e)
  exact ⟨by rw [l.length]; exact Nat.le_of_lt (small1000 hl),mkLst s1 l (c.pre e1) d1⟩
theorem re_lstT (ha:RA tl dl):RE (tLst tl) (dLstT dl):=fun h o H δ σ S R Q he hs q c =>
 ha h o H δ σ S _ _ he hs q fun o1 H1 S1 xs vs e1 s1 x1 ⟨ds,e,hl,d1⟩=>by
  have l:=hxs_data x1 (datas_eq e)
  exact ⟨by rw [l.length]; exact Nat.le_of_lt (small1000 hl),mkTrk s1 l (c.pre e1) d1⟩
def dB (a:DE):DT:=fun δ S R=>a δ S fun x S1=>asB x fun b=>R b S1
def dNot (a:DT):DT:=fun δ S R=>a δ S fun b S1=>R (!b) S1
def dAnd (a b:DT):DT:=fun δ S R=>a δ S fun x S1=>if x = true then b δ S1 R else R false S1
def dOr (a b:DT):DT:=fun δ S R=>a δ S fun x S1=>if x = true then R true S1 else b δ S1 R
def dAndV (a b:DE):DE:=fun δ S R=>a δ S fun x S1=>asB x fun c=>if c = true then b δ S1 R else R (.d (.bool false)) S1
def dOrV (a b:DE):DE:=fun δ S R=>a δ S fun x S1=>asB x fun c=>if c = true then R (.d (.bool true)) S1 else b δ S1 R
def dNotV (a:DE):DE:=fun δ S R=>a δ S fun x S1=>asB x fun c=>R (.d (.bool (!c))) S1
def dIf (c:DT) (a b:DE):DE:=fun δ S R=>c δ S fun x S1=>if x = true then a δ S1 R else b δ S1 R
theorem rt_t (ha:RE ta da):RT (tTest ta) (dB da):=fun h o H δ σ S R Q he hs q c =>
 ha h o H δ σ S _ _ he hs q fun o1 H1 S1 x v e1 s1 x1 d1=>by
  replace d1:=asB_ex d1
  obtain ⟨b,rfl,d1⟩:=d1
  exact ⟨b,hx_bool x1,c o1 H1 S1 b e1 s1 d1⟩
theorem rt_not (ha:RT tt dt):RT (tNot tt) (dNot dt):=fun h o H δ σ S R Q he hs q c =>
 ha h o H δ σ S _ _ he hs q fun o1 H1 S1 b e1 s1 d1=>c o1 H1 S1 _ e1 s1 d1
theorem rt_and (ha:RT tt dt) (hb:RT tu du):RT (tAnd tt tu) (dAnd dt du):=fun h o H δ σ S R Q he hs q c =>
 ha h o H δ σ S _ _ he hs q fun o1 H1 S1 b e1 s1 d1=>by
  cases b with
  | true=>exact iteT (hb h o1 H1 δ σ S1 R Q (he.mono e1) s1 (by simpa using d1) fun o2 H2 S2 b e2=>c o2 H2 S2 b (e1.trans e2))
  | false=>exact iteF (c o1 H1 S1 false e1 s1 (by simpa using d1))
theorem rt_or (ha:RT tt dt) (hb:RT tu du):RT (tOr tt tu) (dOr dt du):=fun h o H δ σ S R Q he hs q c =>
 ha h o H δ σ S _ _ he hs q fun o1 H1 S1 b e1 s1 d1=>by
  cases b with
  | false=>exact iteF (hb h o1 H1 δ σ S1 R Q (he.mono e1) s1 (by simpa using d1) fun o2 H2 S2 b e2=>c o2 H2 S2 b (e1.trans e2))
  | true=>exact iteT (c o1 H1 S1 true e1 s1 (by simpa using d1))
theorem re_and (ha:RE ta da) (hb:RE tb db):RE (tAndV ta tb) (dAndV da db):=fun h o H δ σ S R Q he hs q c =>
 ha h o H δ σ S _ _ he hs q fun o1 H1 S1 x v e1 s1 x1 d1=>by
  replace d1:=asB_ex d1
  obtain ⟨b,rfl,d1⟩:=d1
  refine ⟨b,hx_bool x1,?_⟩
  cases b with
  | true=>exact iteT (hb h o1 H1 δ σ S1 R Q (he.mono e1) s1 (by simpa using d1) (c.pre e1))
  | false=>exact iteF (c o1 H1 S1 _ _ e1 s1 (xB false) (by simpa using d1))
theorem re_not (ha:RE ta da):RE (tNotV ta) (dNotV da):=fun h o H δ σ S R Q he hs q c =>
 ha h o H δ σ S _ _ he hs q fun o1 H1 S1 x v e1 s1 x1 d1=>by
  replace d1:=asB_ex d1
  obtain ⟨b,rfl,d1⟩:=d1
  exact ⟨b,hx_bool x1,c o1 H1 S1 _ _ e1 s1 (xB _) d1⟩
theorem re_if (hc:RT tt dt) (ha:RE ta da) (hb:RE tb db):RE (tIf tt ta tb) (dIf dt da db):=fun h o H δ σ S R Q he hs q c =>
 hc h o H δ σ S _ _ he hs q fun o1 H1 S1 b e1 s1 d1=>by
  cases b with
  | true=>exact iteT (ha h o1 H1 δ σ S1 R Q (he.mono e1) s1 (by simpa using d1) (c.pre e1))
  | false=>exact iteF (hb h o1 H1 δ σ S1 R Q (he.mono e1) s1 (by simpa using d1) (c.pre e1))
def dChain (rd rd':D2) (a b e:DE):DE:=fun δ S R=>a δ S fun x S1=>b δ S1 fun y S2=>rd x y S2 fun z S3=>asB z fun k=>if k = true then e δ S3 fun u S4=>rd' y u S4 R else R (.d (.bool false)) S3
theorem re_chain {r r':R2} {rd rd':D2} (hr:RO r rd) (hr':RO r' rd') (ha:RE ta da) (hb:RE tb db) (hc:RE tc dc):RE (tChain r r' ta tb tc) (dChain rd rd' da db dc):=fun h o H δ σ S R Q he hs q c =>
 ha h o H δ σ S _ _ he hs q fun o1 H1 S1 x v e1 s1 x1 d1=>hb h o1 H1 δ σ S1 _ _ (he.mono e1) s1 d1 fun o2 H2 S2 y u e2 s2 y2 d2 =>
  hr h o2 H2 S2 x y v u _ _ s2 (x1.mono e2) y2 d2 fun o3 H3 S3 z w e3 s3 z3 d3=>by
   replace d3:=asB_ex d3
   obtain ⟨b,rfl,d3⟩:=d3
   refine ⟨b,hx_bool z3,?_⟩
   cases b with
   | false=>exact iteF (c o3 H3 S3 _ _ ((e1.trans e2).trans e3) s3 (xB false) (by simpa using d3))
   | true=>exact iteT (hc h o3 H3 δ σ S3 _ _ (((he.mono e1).mono e2).mono e3) s3 (by simpa using d3) fun o4 H4 S4 k w' e4 s4 k4 d4=>hr' h o4 H4 S4 y k u w' R Q s4 ((y2.mono e3).mono e4) k4 d4 (c.pre (((e1.trans e2).trans e3).trans e4)))
end
def dI (C:Int→Int→Prop) (g:Int→Int→Int):D2:=fun x y S R=>asI x fun i=>asI y fun j=>C i j∧R (.d (.int (g i j))) S
def dI0 (g:Int→Int→Int):D2:=fun x y S R=>asI x fun i=>asI y fun j=>R (.d (.int (g i j))) S
def dIb (g:Int→Int→Bool):D2:=fun x y S R=>asI x fun i=>asI y fun j=>R (.d (.bool (g i j))) S
def dUI (g:Int→Int):XV→Sto→RX→Prop:=fun x S R=>asI x fun i=>R (.d (.int (g i))) S
def dEqD:D2:=fun x y S R=>∃ d,asDat S x = some d∧∃ e,asDat S y = some e∧SeqAt.shaped d = true∧SeqAt.shaped e = true∧R (.d (.bool (PyData.eqv d e))) S
def dNeD:D2:=fun x y S R=>∃ d,asDat S x = some d∧∃ e,asDat S y = some e∧SeqAt.shaped d = true∧SeqAt.shaped e = true∧R (.d (.bool (!PyData.eqv d e))) S
def dIsN:D2:=fun x _ S R=>asD x fun d=>R (.d (.bool (noneD d))) S
def dIxT:D2:=fun x y S R=>asT x fun ds=>asI y fun i=>∃ d,atI ds i = some d∧R (.d d) S
def dIxL:D2:=fun x y S R=>asL S x fun ds=>asI y fun i=>∃ d,atI ds i = some d∧R (.d d) S
def dCat:D2:=fun x y S R=>asL S x fun ds=>asL S y fun es=>ds.length + es.length ≤ 1000∧R (.d (.list (ds ++ es))) S
def dCatT:D2:=fun x y S R=>asT x fun ds=>asT y fun es=>ds ≠ []∧ds.length + es.length ≤ 1000∧R (.d (.tuple (ds ++ es))) S
section
theorem ro_I {C:Int→Int→Prop} {g:Int→Int→Int}:RO (rI C fun i j=>.int (g i j)) (dI C g):=fun h o H S x y v u R Q hs hx hy q c=>by
 replace q:=asI_ex q
 obtain ⟨i,rfl,q⟩:=q
 replace q:=asI_ex q
 obtain ⟨j,rfl,hc,q⟩:=q
 exact ⟨i,j,hx_int hx,hx_int hy,hc,c o H S _ _ Ex.refl hs (xI _) q⟩
theorem ro_I0 {g:Int→Int→Int}:RO (rI0 fun i j=>.int (g i j)) (dI0 g):=fun h o H S x y v u R Q hs hx hy q c=>by
 replace q:=asI_ex q
 obtain ⟨i,rfl,q⟩:=q
 replace q:=asI_ex q
 obtain ⟨j,rfl,q⟩:=q
 exact ⟨i,j,hx_int hx,hx_int hy,c o H S _ _ Ex.refl hs (xI _) q⟩
theorem ro_Ib {g:Int→Int→Bool}:RO (rI0 fun i j=>.bl (g i j)) (dIb g):=fun h o H S x y v u R Q hs hx hy q c=>by
 replace q:=asI_ex q
 obtain ⟨i,rfl,q⟩:=q
 replace q:=asI_ex q
 obtain ⟨j,rfl,q⟩:=q
 exact ⟨i,j,hx_int hx,hx_int hy,c o H S _ _ Ex.refl hs (xB _) q⟩
theorem ru_I {g:Int→Int}:RU (rU fun i=>.int (g i)) (dUI g):=fun h o H S x v R Q hs hx q c=>by
 replace q:=asI_ex q
 obtain ⟨i,rfl,q⟩:=q
 exact ⟨i,hx_int hx,c o H S _ _ Ex.refl hs (xI _) q⟩
theorem ro_eqD:RO rEqD dEqD:=fun h o H S x y v u R Q hs hx hy q c=>by
 obtain ⟨d,q1,e,q2,q3,q4,q⟩:=q
 exact ⟨d,e,hx_full hs q1 hx,hx_full hs q2 hy,q3,q4,c o H S _ _ Ex.refl hs (xB _) q⟩
theorem ro_neD:RO rNeD dNeD:=fun h o H S x y v u R Q hs hx hy q c=>by
 obtain ⟨d,q1,e,q2,q3,q4,q⟩:=q
 exact ⟨d,e,hx_full hs q1 hx,hx_full hs q2 hy,q3,q4,c o H S _ _ Ex.refl hs (xB _) q⟩
theorem HasL.atI {H:Hp} {ds:List PyData} {vs:List V} {i:Int} {d:PyData} (l:HasL H ds vs) (e:L2.atI ds i = some d):∃ v,L2.atI vs i = some v∧Has H d v:=by
 unfold L2.atI at e ⊢
 rw [l.length]
 cases hn:ixN ds.length i with
 | none=>rw [hn] at e; cases e
 | some j =>
  rw [hn] at e
  exact l.get (show ds[j]? = some d from e)
theorem ro_ixT {K:PySem.W.Frag}:RO (rIxT K) dIxT:=fun h o H S x y v u R Q hs hx hy q c=>by
 replace q:=asT_ex q
 obtain ⟨ds,rfl,q⟩:=q
 replace q:=asI_ex q
 obtain ⟨i,rfl,d,e,q⟩:=q
 obtain ⟨a,vs,rfl,ea,l⟩:=hx_tup hx
 obtain ⟨w,ew,hw⟩:=l.atI e
 exact ⟨a,vs,i,w,rfl,hx_int hy,.of ea,ew,c o H S (.d d) w Ex.refl hs hw q⟩
theorem ro_ixL {K:PySem.W.Frag}:RO (rIxL K) dIxL:=fun h o H S x y v u R Q hs hx hy q c=>by
 obtain ⟨ds,e0,q⟩:=q
 replace q:=asI_ex q
 obtain ⟨i,rfl,d,e,q⟩:=q
 obtain ⟨a,vs,rfl,ea,l⟩:=hx_lst hs e0 hx
 obtain ⟨w,ew,hw⟩:=l.atI e
 exact ⟨a,vs,i,w,rfl,hx_int hy,.of ea,ew,c o H S (.d d) w Ex.refl hs hw q⟩
theorem ro_cat:RO rCat dCat:=fun h o H S x y v u R Q hs hx hy q c=>by
 obtain ⟨ds,e0,es,e1,hl,q⟩:=q
 obtain ⟨a,vs,rfl,ea,la⟩:=hx_lst hs e0 hx
 obtain ⟨b,us,rfl,eb,lb⟩:=hx_lst hs e1 hy
 exact ⟨a,b,vs,us,rfl,rfl,ea,eb,by rw [la.length,lb.length]; exact Nat.le_of_lt (small1000 hl),mkLst hs (la.append lb) c q⟩
theorem ro_catT {K:PySem.W.Frag}:RO (rCatT K) dCatT:=fun h o H S x y v u R Q hs hx hy q c=>by
 replace q:=asT_ex q
 obtain ⟨ds,rfl,q⟩:=q
 replace q:=asT_ex q
 obtain ⟨es,rfl,hn,hl,q⟩:=q
 obtain ⟨a,vs,rfl,ea,la⟩:=hx_tup hx
 obtain ⟨b,us,rfl,eb,lb⟩:=hx_tup hy
 refine ⟨a,b,vs,us,rfl,rfl,.of ea,.of eb,fun z=>?_,by rw [la.length,lb.length]; exact Nat.le_of_lt (small1000 hl),fun z=>?_,fun _=>mkTup hs (la.append lb) c q⟩
 ·subst z
  have:=la.length
  exact hn (List.eq_nil_of_length_eq_zero this.symm)
 ·subst z
  have e:es = []:=List.eq_nil_of_length_eq_zero lb.length.symm
  subst e
  rw [List.append_nil] at q
  exact c o H S (.d (.tuple ds)) _ Ex.refl hs hx q
end
abbrev DO:=XE→Sto→(Option Int→Sto→Prop)→Prop
def RP (t:TO) (dt:DO):Prop:=∀ (h o:List Addr) (H:Hp) (δ:XE) (σ:St) (S:Sto) (R:Option Int→Sto→Prop) (Q:Option Int→Hp→Prop),RepE h o H δ σ→RepS h o H S→dt δ S R →
 (∀ o' H' S' b,Ex o H o' H'→RepS h o' H' S'→R b S'→Q b H')→t σ H Q
def dNoPart:DO:=fun _ S R=>R none S
def dPart (a:DE):DO:=fun δ S R=>a δ S fun x S1=>asI x fun i=>R (some i) S1
theorem rp_none:RP tNoPart dNoPart:=fun h o H δ σ S R Q he hs q c=>c o H S none Ex.refl hs q
theorem rp_some {t:TE} {da:DE} (ha:RE t da):RP (tPart t) (dPart da):=fun h o H δ σ S R Q he hs q c =>
 ha h o H δ σ S _ _ he hs q fun o1 H1 S1 x v e1 s1 x1 d1=>by
  replace d1:=asI_ex d1
  obtain ⟨i,rfl,d1⟩:=d1
  exact ⟨i,hx_int x1,c o1 H1 S1 _ e1 s1 d1⟩
abbrev D3:=XV→Option Int→Option Int→Sto→RX→Prop
def RL (r:V→Option Int→Option Int→Hp→VK→Prop) (rd:D3):Prop:=∀ (h o:List Addr) (H:Hp) (S:Sto) (x:XV) (v:V) (a b:Option Int) (R:RX) (Q:VK),RepS h o H S→HasX h o H x v→rd x a b S R→Cn h o H R Q→r v a b H Q
def dSl (rd:D3) (e:DE) (a b:DO):DE:=fun δ S R=>e δ S fun x S1=>a δ S1 fun i S2=>b δ S2 fun j S3=>rd x i j S3 R
theorem re_sl {r:V→Option Int→Option Int→Hp→VK→Prop} {rd:D3} {te:TE} {de:DE} {ta tb:TO} {da db:DO} (hr:RL r rd) (he':RE te de) (ha:RP ta da) (hb:RP tb db):RE (tSl r te ta tb) (dSl rd de da db):=fun h o H δ σ S R Q he hs q c =>
 he' h o H δ σ S _ _ he hs q fun o1 H1 S1 x v e1 s1 x1 d1=>ha h o1 H1 δ σ S1 _ _ (he.mono e1) s1 d1 fun o2 H2 S2 i e2 s2 d2=>hb h o2 H2 δ σ S2 _ _ ((he.mono e1).mono e2) s2 d2 fun o3 H3 S3 j e3 s3 d3 =>
  hr h o3 H3 S3 x v i j R Q s3 ((x1.mono e2).mono e3) d3 (c.pre ((e1.trans e2).trans e3))
def dSlL:D3:=fun x i j S R=>asL S x fun ds=>R (.d (.list (cutL ds i j))) S
def dSlT:D3:=fun x i j S R=>asT x fun ds=>¬ (HT.sIx ds.length 0 i = 0∧HT.sIx ds.length ds.length j = ds.length)∧R (.d (.tuple (cutL ds i j))) S
theorem rl_list {K:PySem.W.Frag}:RL (rSlL K) dSlL:=fun h o H S x v a b R Q hs hx q c=>by
 obtain ⟨ds,e0,q⟩:=q
 obtain ⟨p,vs,rfl,ea,l⟩:=hx_lst hs e0 hx
 exact ⟨p,vs,rfl,.of ea,mkLst hs (l.cut a b) c q⟩
theorem rl_tup {K:PySem.W.Frag}:RL (rSlT K) dSlT:=fun h o H S x v a b R Q hs hx q c=>by
 replace q:=asT_ex q
 obtain ⟨ds,rfl,hn,q⟩:=q
 obtain ⟨p,vs,rfl,ea,l⟩:=hx_tup hx
 exact ⟨p,vs,rfl,.of ea,by rw [l.length]; exact hn,mkTup hs (l.cut a b) c q⟩
def asQ (S:Sto):XV→Option (List PyData)
 | .d (.tuple ds)=>some ds
 | .d (.list ds)=>some ds
 | .l k=>S[k]?
 | _=>none
theorem hx_seq {h o:List Addr} {H:Hp} {S:Sto} {x:XV} {v:V} {ds:List PyData} (r:RepS h o H S) (e:asQ S x = some ds) (q:HasX h o H x v):∃ a vs,v = .ref a∧(H a = some (.tup vs)∨H a = some (.lst vs))∧HasL (vx h o H) ds vs:=by
 unfold asQ at e
 split at e
 ·cases e
  obtain ⟨a,vs,e,q,l⟩:=hx_tup q
  exact ⟨a,vs,e,.inl q,l⟩
 ·cases e
  obtain ⟨a,vs,e,q,l⟩:=hx_lst (x:=.d (.list ds)) (ds:=ds) r rfl q
  exact ⟨a,vs,e,.inr q,l⟩
 ·rename_i k
  obtain ⟨a,vs,e,q,l⟩:=hx_lst (x:=.l k) r e q
  exact ⟨a,vs,e,.inr q,l⟩
 ·cases e
def arg1:List XV→(XV→Prop)→Prop
 | [x],k=>k x
 | _,_=>False
def arg2:List XV→(XV→XV→Prop)→Prop
 | [x,y],k=>k x y
 | _,_=>False
theorem arg1_ex {xs:List XV} {k:XV→Prop} (h:arg1 xs k):∃ x,xs = [x]∧k x:=by
 unfold arg1 at h
 split at h
 ·exact ⟨_,rfl,h⟩
 ·exact h.elim
theorem arg2_ex {xs:List XV} {k:XV→XV→Prop} (h:arg2 xs k):∃ x y,xs = [x,y]∧k x y:=by
 unfold arg2 at h
 split at h
 ·exact ⟨_,_,rfl,h⟩
 ·exact h.elim
theorem hxs1 {h o:List Addr} {H:Hp} {x:XV} {vs:List V} (q:HasXs h o H [x] vs):∃ v,vs = [v]∧HasX h o H x v:=by
 obtain ⟨v,r,e,hx,hr⟩:=q
 cases hr
 exact ⟨v,e,hx⟩
theorem hxs2 {h o:List Addr} {H:Hp} {x y:XV} {vs:List V} (q:HasXs h o H [x,y] vs):∃ v u,vs = [v,u]∧HasX h o H x v∧HasX h o H y u:=by
 obtain ⟨v,r,e,hx,q⟩:=q
 obtain ⟨u,e',hy⟩:=hxs1 q
 subst e'
 exact ⟨v,u,e,hx,hy⟩
def asTy:XV→(String→Prop)→Prop
 | .o v,k=>∃ c,v = .ty c∧k c
 | _,_=>False
def asIB:XV→(Int→Prop)→Prop
 | .d d,k=>match d with
  | .int i=>k i
  | .bool b=>k (if b then 1 else 0)
  | _=>False
 | _,_=>False
theorem asTy_ex {x:XV} {k:String→Prop} (h:asTy x k):∃ c,x = .o (.ty c)∧k c:=by
 cases x with
 | o v =>
  obtain ⟨c,rfl,h⟩:=h
  exact ⟨c,rfl,h⟩
 | d d=>exact h.elim
 | l j=>exact h.elim
 | x _ _=>exact h.elim
theorem asIB_ex {x:XV} {k:Int→Prop} (h:asIB x k):(∃ i,x = .d (.int i)∧k i)∨∃ b,x = .d (.bool b)∧k (if b then 1 else 0):=by
 cases x with
 | d d =>
  cases d with
  | int i=>exact .inl ⟨i,rfl,h⟩
  | bool b=>exact .inr ⟨b,rfl,h⟩
  | _=>exact h.elim
 | _=>exact h.elim
def dLen:List XV→Sto→RX→Prop:=fun xs S R=>arg1 xs fun x=>∃ ds,asQ S x = some ds∧R (.d (.int ds.length)) S
theorem rc_len {K:PySem.W.Frag}:RC (rLen K) dLen:=fun h o H S xs vs R Q hs hx q c=>by
 obtain ⟨x,rfl,ds,hd,q1⟩:=arg1_ex q
 obtain ⟨v,rfl,hx1⟩:=hxs1 hx
 obtain ⟨a,ws,rfl,ea,l⟩:=hx_seq hs hd hx1
 refine ⟨a,ws,rfl,ea.elim (fun z=>.inr (.of z)) (fun z=>.inl (.of z)),?_⟩
 rw [l.length]
 exact c o H S _ _ Ex.refl hs (xI _) q1
def dIsi:List XV→Sto→RX→Prop:=fun xs S R=>arg2 xs fun x y=>asTy y fun cl=>∃ d,asDat S x = some d∧cl ∈ clsD∧R (.d (.bool (isiD d cl))) S
theorem rc_isi:RC rIsi dIsi:=fun h o H S xs vs R Q hs hx q c=>by
 obtain ⟨x,y,rfl,q1⟩:=arg2_ex q
 obtain ⟨cl,rfl,d,hd,hc,q2⟩:=asTy_ex q1
 obtain ⟨v,u,rfl,hx1,hu⟩:=hxs2 hx
 cases hu
 exact rIsi_of (hx_full hs hd hx1) hc (c o H S _ _ Ex.refl hs (xB _) q2)
def dInt1:List XV→Sto→RX→Prop:=fun xs S R=>arg1 xs fun x=>asIB x fun i=>R (.d (.int i)) S
theorem rc_int1:RC (fun xs H Q=>(∃ i,xs = [.int i]∧Q (.int i) H)∨∃ k,xs = [.bl k]∧Q (.int (if k then 1 else 0)) H) dInt1:=fun h o H S xs vs R Q hs hx q c=>by
 obtain ⟨x,rfl,q1⟩:=arg1_ex q
 obtain ⟨v,rfl,hx1⟩:=hxs1 hx
 rcases asIB_ex q1 with ⟨i,rfl,q2⟩ | ⟨b,rfl,q2⟩
 ·exact .inl ⟨_,by rw [hx_int hx1],c o H S _ _ Ex.refl hs (xI _) q2⟩
 ·exact .inr ⟨_,by rw [hx_bool hx1],c o H S _ _ Ex.refl hs (xI _) q2⟩
def dI2 (g:Int→Int→Int):List XV→Sto→RX→Prop:=fun xs S R=>arg2 xs fun x y=>asI x fun i=>asI y fun j=>R (.d (.int (g i j))) S
theorem rc_I2 {g:Int→Int→Int}:RC (fun xs H Q=>∃ i j,xs = [.int i,.int j]∧Q (.int (g i j)) H) (dI2 g):=fun h o H S xs vs R Q hs hx q c=>by
 obtain ⟨x,y,rfl,q1⟩:=arg2_ex q
 obtain ⟨v,u,rfl,hx1,hu⟩:=hxs2 hx
 obtain ⟨i,rfl,q2⟩:=asI_ex q1
 obtain ⟨j,rfl,q3⟩:=asI_ex q2
 exact ⟨i,j,by rw [hx_int hx1,hx_int hu],c o H S _ _ Ex.refl hs (xI _) q3⟩
def dTupOf:List XV→Sto→RX→Prop:=fun xs S R=>arg1 xs fun x=>∃ ds,asQ S x = some ds∧R (.d (.tuple ds)) S
theorem rc_tupOf {K:PySem.W.Frag}:RC (fun xs H Q=>∃ p ys,xs = [.ref p]∧((SqL K H p ys∧∀ l,H l = none→Q (.ref l) (upd H l (.tup ys)))∨(SqT K H p ys∧Q (.ref p) H))) dTupOf:=fun h o H S xs vs R Q hs hx q c=>by
 obtain ⟨x,rfl,ds,hd,q1⟩:=arg1_ex q
 obtain ⟨v,rfl,hx1⟩:=hxs1 hx
 obtain ⟨a,ws,rfl,ea,l⟩:=hx_seq hs hd hx1
 refine ⟨a,ws,rfl,ea.elim (fun z=>.inr ⟨.of z,?_⟩) (fun z=>.inl ⟨.of z,mkTup hs l c q1⟩)⟩
 have hh:HasX h o H (.d (.tuple ds)) (.ref a):=by
  unfold asQ at hd
  split at hd
  ·cases hd
   exact hx1
  ·obtain ⟨a',us,e1,e2,_⟩:=hx_lst (x:=.d (.list _)) hs rfl hx1
   cases e1
   rw [z] at e2
   cases e2
  ·rename_i k
   obtain ⟨a',us,e1,e2,_⟩:=hx_lst (x:=.l k) hs hd hx1
   cases e1
   rw [z] at e2
   cases e2
  ·cases hd
 exact c o H S _ _ Ex.refl hs hh q1
def dLstOf:List XV→Sto→RX→Prop:=fun xs S R=>arg1 xs fun x=>∃ ds,asQ S x = some ds∧R (.d (.list ds)) S
theorem rc_lstOf {K:PySem.W.Frag}:RC (fun xs H Q=>∃ p ys,xs = [.ref p]∧(SqL K H p ys∨SqT K H p ys)∧∀ l,H l = none→Q (.ref l) (upd H l (.lst ys))) dLstOf:=fun h o H S xs vs R Q hs hx q c=>by
 obtain ⟨x,rfl,ds,hd,q1⟩:=arg1_ex q
 obtain ⟨v,rfl,hx1⟩:=hxs1 hx
 obtain ⟨a,ws,rfl,ea,l⟩:=hx_seq hs hd hx1
 exact ⟨a,ws,rfl,ea.elim (fun z=>.inr (.of z)) (fun z=>.inl (.of z)),mkLst hs l c q1⟩
theorem hasL_intsV {H:Hp}:∀ {ns:List Int} {vs:List V},HasL H (ns.map PyData.int) vs→vs = ns.map V.int
 | [],vs,h=>hasL_nil.mp h
 | n :: ns,vs,h=>by
  obtain ⟨v,r,rfl,h1,h2⟩:=hasL_cons.mp h
  rw [has_int.mp h1,hasL_intsV h2]
  rfl
def dBM (rd:XV→List XV→Sto→RX→Prop) (e:DE) (a:DA):DE:=fun δ S R=>e δ S fun x S1=>∃ k,x = .l k∧k < S1.length∧a δ S1 fun xs S2=>rd x xs S2 R
def dBM0 (rd:XV→List XV→Sto→RX→Prop) (e:DE):DE:=fun δ S R=>e δ S fun x S1=>∃ k,x = .l k∧k < S1.length∧rd x [] S1 R
def RM (r:V→List V→Hp→VK→Prop) (rd:XV→List XV→Sto→RX→Prop):Prop:=∀ (h o:List Addr) (H:Hp) (S:Sto) (x:XV) (v:V) (xs:List XV) (vs:List V) (R:RX) (Q:VK),RepS h o H S→HasX h o H x v→HasXs h o H xs vs→rd x xs S R→Cn h o H R Q→r v vs H Q
theorem tyV_list {K:PySem.W.Frag} {H:Hp} {a:Addr} {vs:List V} (e:H a = some (.lst vs)):tyV K "list" (.ref a) H:=.inl ⟨rfl,vs,.of e⟩
theorem trk_at {h o:List Addr} {H:Hp} {S:Sto} {k:Nat} {v:V} (hs:RepS h o H S) (hk:k < S.length) (hx:HasX h o H (.l k) v):∃ a vs,v = .ref a∧H a = some (.lst vs):=by
 obtain ⟨a,e,rfl⟩:=hx
 obtain ⟨vs,e2,_⟩:=hs.cont k a _ e (List.getElem?_eq_getElem hk)
 exact ⟨a,vs,rfl,e2⟩
theorem re_bm {K:PySem.W.Frag} {r:V→List V→Hp→VK→Prop} {rd:XV→List XV→Sto→RX→Prop} {te:TE} {de:DE} {tl:TA} {dl:DA} (hr:RM r rd) (he':RE te de) (ha:RA tl dl):RE (tBM K "list" r te tl) (dBM rd de dl):=fun h o H δ σ S R Q he hs q c =>
 he' h o H δ σ S _ _ he hs q fun o1 H1 S1 x v e1 s1 x1 ⟨k,ek,hk,d1⟩=>by
  subst ek
  obtain ⟨a,ws,rfl,ea⟩:=trk_at s1 hk x1
  exact ⟨tyV_list ea,ha h o1 H1 δ σ S1 _ _ (he.mono e1) s1 d1 fun o2 H2 S2 xs vs e2 s2 x2 d2=>hr h o2 H2 S2 (.l k) _ xs vs R Q s2 (x1.mono e2) x2 d2 (c.pre (e1.trans e2))⟩
def dAppend:XV→List XV→Sto→RX→Prop:=fun x xs S R=>∃ k,x = .l k∧∃ ds,S[k]? = some ds∧arg1 xs fun y=>asD y fun d=>ds.length < 1000∧R (.d .none) (S.set k (ds ++ [d]))
theorem rm_append:RM rAppend dAppend:=fun h o H S x v xs vs R Q hs hx hxs q c=>by
 obtain ⟨k,rfl,ds,e,q1⟩:=q
 obtain ⟨y,rfl,q2⟩:=arg1_ex q1
 obtain ⟨d,rfl,hl,q3⟩:=asD_ex q2
 obtain ⟨a,ea,rfl⟩:=hx
 obtain ⟨u,rfl,hu⟩:=hxs1 hxs
 obtain ⟨ws,ew,l⟩:=hs.cont k a ds ea e
 exact ⟨a,ws,u,rfl,rfl,ew,by rw [l.length]; exact small1000 (Nat.le_of_lt hl),c o _ _ (.d .none) _ (Ex.upd ea) (hs.upd ea (l.append (hasL_cons.mpr ⟨u,[],rfl,hu,hasL_nil.mpr rfl⟩))) xN q3⟩
def dExtend:XV→List XV→Sto→RX→Prop:=fun x xs S R=>∃ k,x = .l k∧∃ ds,S[k]? = some ds∧arg1 xs fun y=>∃ es,asLs S y = some es∧ds.length + es.length ≤ 1000∧R (.d .none) (S.set k (ds ++ es))
theorem rm_extend:RM rExtend dExtend:=fun h o H S x v xs vs R Q hs hx hxs q c=>by
 obtain ⟨k,rfl,ds,e,q1⟩:=q
 obtain ⟨y,rfl,es,ey,hl,q3⟩:=arg1_ex q1
 obtain ⟨a,ea,rfl⟩:=hx
 obtain ⟨u,rfl,hu⟩:=hxs1 hxs
 obtain ⟨ws,ew,l⟩:=hs.cont k a ds ea e
 obtain ⟨b,zs,rfl,eb,lb⟩:=hx_lst hs ey hu
 exact ⟨a,b,ws,zs,rfl,rfl,ew,eb,by rw [l.length,lb.length]; exact Nat.le_of_lt (small1000 hl),c o _ _ (.d .none) _ (Ex.upd ea) (hs.upd ea (l.append lb)) xN q3⟩
def ret0 (S:Sto) (R:RX):RX:=fun y S'=>match y,S' with
 | .d d,[]=>R (.d d) S
 | .l 0,[ds]=>R (.l S.length) (S ++ [ds])
 | _,_=>False
def retP (k:Nat) (S:Sto) (R:RX):RX:=fun y S'=>match y,S' with
 | .d d,[p]=>R (.d d) (S.set k p)
 | .l 1,[p,ds]=>R (.l S.length) (S.set k p ++ [ds])
 | _,_=>False
section
variable {h o:List Addr} {H:Hp} {S:Sto} {R:RX} {Q:VK}
theorem vx_eq {h o h' o':List Addr} {H:Hp} (e:∀ b,(b ∈ h'∨b ∈ o') ↔ (b ∈ h∨b ∈ o)):vx h' o' H = vx h o H:=by
 funext b
 have iff:∀ u,vx h' o' H b = some u ↔ vx h o H b = some u:=fun u=>by
  rw [vx_iff,vx_iff]
  have:=e b
  constructor
  ·rintro ⟨a1,a2,a3⟩
   exact ⟨fun m=>(this.mpr (.inl m)).elim a1 a2,fun m=>(this.mpr (.inr m)).elim a1 a2,a3⟩
  ·rintro ⟨a1,a2,a3⟩
   exact ⟨fun m=>(this.mp (.inl m)).elim a1 a2,fun m=>(this.mp (.inr m)).elim a1 a2,a3⟩
 cases e1:vx h' o' H b with
 | some u=>exact ((iff u).mp e1).symm
 | none =>
  cases e2:vx h o H b with
  | none=>rfl
  | some u=>rw [(iff u).mpr e2] at e1; cases e1
theorem rep0 (hs:RepS h o H S):RepS (h ++ o) [] H [] where
 len:=rfl
 nd:=List.nodup_nil
 dis:=fun a ha=>by cases ha
 hal:=fun b hb=>(List.mem_append.mp hb).elim (hs.hal b) (hs.oam b)
 cont:=fun k a ds e=>by simp at e
theorem hx0 {d:PyData} {v:V} (hx:HasX h o H (.d d) v):HasX (h ++ o) [] H (.d d) v:=by
 show Has (vx (h ++ o) [] H) d v
 rw [vx_eq (h:=h) (o:=o) fun b=>by simp]
 exact hx
theorem hx0' {d:PyData} {v:V} (hx:HasX (h ++ o) [] H (.d d) v):HasX h o H (.d d) v:=by
 show Has (vx h o H) d v
 rw [← vx_eq (h':=h ++ o) (o':=[]) (h:=h) (o:=o) fun b=>by simp]
 exact hx
theorem cn0 (hs:RepS h o H S) (c:Cn h o H R Q):Cn (h ++ o) [] H (ret0 S R) Q:=fun o' H' S' y v e s' hy q=>by
 have sm:Same H (vx [] o' H'):=fun b u eb=>by
  obtain ⟨a1,a2⟩:=e.kp b u (by simp) eb
  exact vx_iff.mpr ⟨by simp,a1,a2⟩
 have sH:Same H H':=fun b u eb=>(vx_iff.mp (sm b u eb)).2.2
 unfold ret0 at q
 split at q
 ·have e0:o' = []:=List.eq_nil_of_length_eq_zero s'.len.symm
  subst e0
  exact c o H' S _ v (Ex.of_same sH) (hs.same sH) (hx0' hy) q
 ·rename_i ds
  obtain ⟨a,rfl⟩:∃ a,o' = [a]:=List.length_eq_one_iff.mp s'.len.symm
  obtain ⟨a',ea,rfl⟩:=hy
  cases ea
  obtain ⟨vs,ev,l⟩:=s'.cont 0 a ds rfl rfl
  have na:a ∉ h ++ o:=s'.dis a (by simp)
  have hn:H a = none:=by
   cases eh:H a with
   | none=>rfl
   | some u=>exact absurd (e.kp a u (by simp) eh).1 (by simp)
  have e2:Ex o H (o ++ [a]) H':=⟨⟨[a],rfl⟩,fun b u hb eb=>by
   obtain ⟨a1,a2⟩:=e.kp b u (by simp) eb
   exact ⟨by simp only [List.mem_append,not_or]; exact ⟨hb,a1⟩,a2⟩⟩
  have ev':vx (h ++ o) [a] H' = vx h (o ++ [a]) H':=vx_eq fun b=>by simp [or_assoc]
  rw [ev'] at l
  refine c (o ++ [a]) H' (S ++ [ds]) (.l S.length) _ e2 ⟨by simp [hs.len],nodup_snoc hs.nd fun m=>na (List.mem_append_right _ m),fun b hb=>?_,fun b hb=>?_,fun k b es q1 q2=>?_⟩ ⟨a,by rw [hs.len,List.getElem?_concat_length],rfl⟩ q
  ·rcases List.mem_append.mp hb with hb | hb
   ·exact hs.dis b hb
   ·rw [List.mem_singleton.mp hb]; exact fun m=>na (List.mem_append_left _ m)
  ·obtain ⟨u,eb⟩:=hs.hal b hb
   exact ⟨u,sH b _ eb⟩
  ·by_cases hk:k < o.length
   ·rw [List.getElem?_append_left hk] at q1
    rw [List.getElem?_append_left (by rw [hs.len]; exact hk)] at q2
    obtain ⟨ws,e3,l3⟩:=hs.cont k b es q1 q2
    exact ⟨ws,sH _ _ e3,l3.mono e2.vx⟩
   ·have hk':k = o.length:=by
     obtain ⟨q,_⟩:=List.getElem?_eq_some_iff.mp q1
     rw [List.length_append,List.length_singleton] at q
     omega
    subst hk'
    rw [List.getElem?_concat_length] at q1
    rw [← hs.len,List.getElem?_concat_length] at q2
    cases q1
    cases q2
    exact ⟨vs,ev,l⟩
 ·exact q.elim
theorem repP {k:Nat} {a:Addr} {p:List PyData} (hs:RepS h o H S) (ea:o[k]? = some a) (ep:S[k]? = some p):RepS (h ++ o.filter (fun b=>b ≠ a)) [a] H [p] where
 len:=rfl
 nd:=by simp
 dis:=fun b hb=>by
  rw [List.mem_singleton.mp hb]
  intro m
  rcases List.mem_append.mp m with m | m
  ·exact hs.dis a (List.mem_of_getElem? ea) m
  ·have:=(List.mem_filter.mp m).2
   simp at this
 hal:=fun b hb=>(List.mem_append.mp hb).elim (hs.hal b) fun m=>hs.oam b (List.mem_filter.mp m).1
 cont:=fun j b ds e1 e2=>by
  cases j with
  | succ j=>simp at e1
  | zero =>
   cases e1
   cases e2
   obtain ⟨vs,e3,l⟩:=hs.cont k a p ea ep
   refine ⟨vs,e3,?_⟩
   rw [vx_eq (h:=h) (o:=o) (mem_pen ea)]
   exact l
where
 mem_pen {h o:List Addr} {k:Nat} {a:Addr} (ea:o[k]? = some a) (b:Addr):(b ∈ h ++ o.filter (fun b=>b ≠ a)∨b ∈ [a]) ↔ (b ∈ h∨b ∈ o):=by
  have ma:=List.mem_of_getElem? ea
  by_cases e:b = a
  ·subst e
   simp [ma]
  ·simp [e]
theorem hxP {k:Nat} {a:Addr} {d:PyData} {v:V} (ea:o[k]? = some a) (hx:HasX h o H (.d d) v):HasX (h ++ o.filter (fun b=>b ≠ a)) [a] H (.d d) v:=by
 show Has (vx _ _ H) d v
 rw [vx_eq (h:=h) (o:=o) (repP.mem_pen ea)]
 exact hx
theorem cnP {k:Nat} {a:Addr} {p:List PyData} (hs:RepS h o H S) (ea:o[k]? = some a) (ep:S[k]? = some p) (c:Cn h o H R Q):Cn (h ++ o.filter (fun b=>b ≠ a)) [a] H (retP k S R) Q:=fun o' H' S' y v e s' hy q=>by
 have ma:=List.mem_of_getElem? ea
 have hk:k < o.length:=(List.getElem?_eq_some_iff.mp ea).1
 unfold retP at q
 split at q
 ·rename_i d p'
  obtain ⟨r,rfl⟩:=e.pre
  have er:r = []:=by
   have:=s'.len
   simp at this
   exact this
  subst er
  have ex:Ex o H o H':=⟨⟨[],by simp⟩,fun b u hb eb=>⟨hb,(e.kp b u (fun m=>hb (by rw [List.mem_singleton.mp m]; exact ma)) eb).2⟩⟩
  obtain ⟨vs,ev,l⟩:=s'.cont 0 a p' rfl rfl
  have ev':vx (h ++ o.filter (fun b=>b ≠ a)) ([a] ++ []) H' = vx h o H':=vx_eq (repP.mem_pen ea)
  rw [ev'] at l
  refine c o H' (S.set k p') (.d d) v ex ⟨by simp [hs.len],hs.nd,hs.dis,fun b hb=>?_,fun j b es q1 q2=>?_⟩ (by
   have hy':Has (vx (h ++ o.filter (fun b=>b ≠ a)) ([a] ++ []) H') d v:=hy
   rw [ev'] at hy'
   exact hy') q
  ·obtain ⟨u,eb⟩:=hs.hal b hb
   exact ⟨u,(e.kp b _ (fun m=>hs.dis a ma (by rw [← List.mem_singleton.mp m]; exact hb)) eb).2⟩
  ·by_cases hj:j = k
   ·subst hj
    rw [q1] at ea
    cases ea
    rw [List.getElem?_set_self (by rw [hs.len]; exact hk)] at q2
    cases q2
    exact ⟨vs,ev,l⟩
   ·rw [List.getElem?_set_ne (Ne.symm hj)] at q2
    obtain ⟨ws,e3,l3⟩:=hs.cont j b es q1 q2
    have ne:b ≠ a:=fun z=>hj (nodup_get hs.nd q1 (z ▸ ea))
    exact ⟨ws,(e.kp b _ (by simp [ne]) e3).2,l3.mono ex.vx⟩
 ·rename_i p' ds
  obtain ⟨r,rfl⟩:=e.pre
  obtain ⟨a2,rfl⟩:∃ a2,r = [a2]:=by
   have:=s'.len
   simp at this
   exact List.length_eq_one_iff.mp this
  obtain ⟨b2,eb2,rfl⟩:=hy
  cases eb2
  obtain ⟨vs,ev,l⟩:=s'.cont 0 a p' rfl rfl
  obtain ⟨vs2,ev2,l2⟩:=s'.cont 1 a2 ds rfl rfl
  have n2:a2 ∉ h ++ o.filter (fun b=>b ≠ a):=s'.dis a2 (by simp)
  have n3:a ≠ a2:=by
   have:=s'.nd
   simp at this
   exact this
  have n4:a2 ∉ o:=fun m=>n2 (List.mem_append_right _ (List.mem_filter.mpr ⟨m,by simp [Ne.symm n3]⟩))
  have ex:Ex o H (o ++ [a2]) H':=⟨⟨[a2],rfl⟩,fun b u hb eb=>by
   obtain ⟨z1,z2⟩:=e.kp b u (fun m=>hb (by rw [List.mem_singleton.mp m]; exact ma)) eb
   refine ⟨?_,z2⟩
   simp only [List.mem_append,not_or]
   exact ⟨hb,fun m=>z1 (by simp at m ⊢; exact .inr m)⟩⟩
  have ev':vx (h ++ o.filter (fun b=>b ≠ a)) ([a] ++ [a2]) H' = vx h (o ++ [a2]) H':=vx_eq fun b=>by
   have:=repP.mem_pen (h:=h) ea b
   simp only [List.mem_append] at this ⊢
   rw [← or_assoc,this,or_assoc]
  rw [ev'] at l l2
  refine c (o ++ [a2]) H' (S.set k p' ++ [ds]) (.l S.length) _ ex ⟨by simp [hs.len],nodup_snoc hs.nd n4,fun b hb=>?_,fun b hb=>?_,fun j b es q1 q2=>?_⟩ ⟨a2,by rw [hs.len,List.getElem?_concat_length],rfl⟩ q
  ·rcases List.mem_append.mp hb with hb | hb
   ·exact hs.dis b hb
   ·rw [List.mem_singleton.mp hb]; exact fun m=>n2 (List.mem_append_left _ m)
  ·obtain ⟨u,eb⟩:=hs.hal b hb
   exact ⟨u,(e.kp b _ (fun m=>hs.dis a ma (by rw [← List.mem_singleton.mp m]; exact hb)) eb).2⟩
  ·by_cases hjo:j < o.length
   ·rw [List.getElem?_append_left hjo] at q1
    rw [List.getElem?_append_left (by rw [List.length_set,hs.len]; exact hjo)] at q2
    by_cases hj:j = k
    ·subst hj
     rw [q1] at ea
     cases ea
     rw [List.getElem?_set_self (by rw [hs.len]; exact hk)] at q2
     cases q2
     exact ⟨vs,ev,l⟩
    ·rw [List.getElem?_set_ne (Ne.symm hj)] at q2
     obtain ⟨ws,e3,l3⟩:=hs.cont j b es q1 q2
     have ne:b ≠ a:=fun z=>hj (nodup_get hs.nd q1 (z ▸ ea))
     exact ⟨ws,(e.kp b _ (by simp [ne]) e3).2,l3.mono ex.vx⟩
   ·have hk':j = o.length:=by
     obtain ⟨q,_⟩:=List.getElem?_eq_some_iff.mp q1
     rw [List.length_append,List.length_singleton] at q
     omega
    subst hk'
    rw [List.getElem?_concat_length] at q1
    rw [← hs.len,← List.length_set (i:=k) (a:=p'),List.getElem?_concat_length] at q2
    cases q1
    cases q2
    exact ⟨vs2,ev2,l2⟩
 ·exact q.elim
end
section
variable {ta tb tc td:TE} {da db dc dd:DE}
end
structure DEnds where
 nx:XE→Sto→Prop
 rt:RX
 bk:XE→Sto→Prop:=fun _ _=>False
 ct:XE→Sto→Prop:=fun _ _=>False
abbrev DS:=DEnds→XE→Sto→Prop
abbrev DG:=XV→XE→Sto→(XE→Sto→Prop)→Prop
abbrev DGs:=List PyData→XE→Sto→(XE→Sto→Prop)→Prop
def Nx (h o:List Addr) (H:Hp) (N:XE→Sto→Prop) (M:St→Hp→Prop):Prop:=∀ o' H' δ' S' σ',Ex o H o' H'→RepE h o' H' δ' σ'→RepS h o' H' S'→N δ' S'→M σ' H'
theorem Nx.pre {h o o':List Addr} {H H':Hp} {N:XE→Sto→Prop} {M:St→Hp→Prop} (c:Nx h o H N M) (e:Ex o H o' H'):Nx h o' H' N M:=fun o2 H2 δ2 S2 σ2 e2=>c o2 H2 δ2 S2 σ2 (e.trans e2)
structure EOk (h o:List Addr) (H:Hp) (E:DEnds) (D:Ends):Prop where
 nx:Nx h o H E.nx D.nx
 rt:Cn h o H E.rt D.rt
 bk:Nx h o H E.bk D.bk
 ct:Nx h o H E.ct D.ct
theorem EOk.pre {h o o':List Addr} {H H':Hp} {E:DEnds} {D:Ends} (c:EOk h o H E D) (e:Ex o H o' H'):EOk h o' H' E D:=⟨c.nx.pre e,c.rt.pre e,c.bk.pre e,c.ct.pre e⟩
def RS (t:TS) (dt:DS):Prop:=∀ (h o:List Addr) (H:Hp) (δ:XE) (σ:St) (S:Sto) (E:DEnds) (D:Ends),RepE h o H δ σ→RepS h o H S→dt E δ S→EOk h o H E D→t D σ H
def RG (t:TG) (dt:DG):Prop:=∀ (h o:List Addr) (H:Hp) (δ:XE) (σ:St) (S:Sto) (x:XV) (v:V) (N:XE→Sto→Prop) (M:St→Hp→Prop),RepE h o H δ σ→RepS h o H S→HasX h o H x v→dt x δ S N→Nx h o H N M→t v σ H M
def RGs (t:TGs) (dt:DGs):Prop:=∀ (h o:List Addr) (H:Hp) (δ:XE) (σ:St) (S:Sto) (ds:List PyData) (vs:List V) (N:XE→Sto→Prop) (M:St→Hp→Prop),RepE h o H δ σ→RepS h o H S→HasL (vx h o H) ds vs→dt ds δ S N→Nx h o H N M→t vs σ H M
def dgName (i:Nat):DG:=fun x δ S N=>N (δ.set i (some x)) S
def dgNil:DGs:=fun ds δ S N=>ds = []∧N δ S
def hdD:List PyData→(PyData→List PyData→Prop)→Prop
 | d :: es,k=>k d es
 | [],_=>False
theorem hdD_ex {ds:List PyData} {k:PyData→List PyData→Prop} (h:hdD ds k):∃ d es,ds = d :: es∧k d es:=by
 cases ds with
 | nil=>exact h.elim
 | cons d es=>exact ⟨d,es,rfl,h⟩
theorem hdD_c {d:PyData} {es:List PyData} {k:PyData→List PyData→Prop}:hdD (d :: es) k = k d es:=rfl
def dgCons (g:DG) (r:DGs):DGs:=fun ds δ S N=>hdD ds fun d es=>g (.d d) δ S fun δ' S'=>r es δ' S' N
def dgTup (n:Nat) (r:DGs):DG:=fun x δ S N=>asT x fun ds=>ds.length = n∧r ds δ S N
def dgSet (a b:DE):DG:=fun x δ S N=>a δ S fun y S1=>b δ S1 fun z S2=>asD x fun d=>∃ k,y = .l k∧∃ ds,S2[k]? = some ds∧asI z fun i=>∃ j,ixN ds.length i = some j∧N δ (S2.set k (ds.set j d))
theorem rg_name {i:Nat}:RG (gName i) (dgName i):=fun h o H δ σ S x v N M he hs hx q c=>c o H _ S _ Ex.refl (he.set hx) hs q
theorem rgs_nil:RGs gNil dgNil:=fun h o H δ σ S ds vs N M he hs l ⟨e,q⟩ c=>by
 subst e
 exact ⟨hasL_nil.mp l,c o H δ S σ Ex.refl he hs q⟩
theorem rgs_cons {t:TG} {u:TGs} {g:DG} {r:DGs} (h1:RG t g) (h2:RGs u r):RGs (gCons t u) (dgCons g r):=fun h o H δ σ S ds vs N M he hs l q0 c=>by
 obtain ⟨d,es,rfl,q⟩:=hdD_ex q0
 obtain ⟨v,ws,rfl,hv,l⟩:=hasL_cons.mp l
 exact ⟨v,ws,rfl,h1 h o H δ σ S (.d d) v _ _ he hs hv q fun o1 H1 δ1 S1 σ1 e1 he1 hs1 q1=>h2 h o1 H1 δ1 σ1 S1 es ws N M he1 hs1 (l.mono e1.vx) q1 (c.pre e1)⟩
theorem rg_tup {K:PySem.W.Frag} {n:Nat} {t:TGs} {r:DGs} (h1:RGs t r):RG (gTup K n t) (dgTup n r):=fun h o H δ σ S x v N M he hs hx q c=>by
 replace q:=asT_ex q
 obtain ⟨ds,rfl,hn,q⟩:=q
 obtain ⟨a,vs,rfl,ea,l⟩:=hx_tup hx
 exact ⟨a,vs,rfl,.of ea,by rw [l.length]; exact hn,h1 h o H δ σ S ds vs N M he hs l q c⟩
theorem HasL.setAt {H:Hp}:∀ {ds:List PyData} {vs:List V} {j:Nat} {d:PyData} {v:V},HasL H ds vs→Has H d v→HasL H (ds.set j d) (vs.set j v)
 | [],vs,j,d,v,l,_=>by rw [hasL_nil.mp l]; exact hasL_nil.mpr rfl
 | c :: ds,vs,0,d,v,l,q=>by
  obtain ⟨u,r,rfl,_,l⟩:=hasL_cons.mp l
  exact hasL_cons.mpr ⟨v,r,rfl,q,l⟩
 | c :: ds,vs,j + 1,d,v,l,q=>by
  obtain ⟨u,r,rfl,hu,l⟩:=hasL_cons.mp l
  exact hasL_cons.mpr ⟨u,r.set j v,rfl,hu,HasL.setAt l q⟩
theorem rg_set {ta tb:TE} {da db:DE} (ha:RE ta da) (hb:RE tb db):RG (gSub ta tb rSetL) (dgSet da db):=fun h o H δ σ S x v N M he hs hx q c =>
 ha h o H δ σ S _ _ he hs q fun o1 H1 S1 y u e1 s1 y1 d1=>hb h o1 H1 δ σ S1 _ _ (he.mono e1) s1 d1 fun o2 H2 S2 z w e2 s2 z2 d0=>by
  obtain ⟨d,rfl,k,rfl,ds,es,d2⟩:=asD_ex d0
  replace d2:=asI_ex d2
  obtain ⟨i,rfl,j,ej,d2⟩:=d2
  obtain ⟨a,ea,rfl⟩:=y1.mono e2
  obtain ⟨ws,ew,l⟩:=s2.cont k a ds ea es
  refine ⟨a,ws,i,j,rfl,hx_int z2,ew,by rw [l.length]; exact ej,?_⟩
  exact c o2 _ δ _ σ ((e1.trans e2).trans (Ex.upd ea)) (((he.mono e1).mono e2).mono (Ex.upd ea)) (s2.upd ea (l.setAt (hx.mono (e1.trans e2)))) d2
def dNext:DS:=fun E δ S=>E.nx δ S
def dSeq (t u:DS):DS:=fun E δ S=>t { E with nx:=u E } δ S
def dAsg (e:DE) (g:DG):DS:=fun E δ S=>e δ S fun x S1=>g x δ S1 E.nx
def dDrop (e:DE):DS:=fun E δ S=>e δ S fun _ S1=>E.nx δ S1
def dRet (e:DE):DS:=fun E δ S=>e δ S E.rt
def dIfS (c:DT) (t u:DS):DS:=fun E δ S=>c δ S fun b S1=>if b = true then t E δ S1 else u E δ S1
section
variable {t u:TS} {dt du:DS} {te:TE} {de:DE}
theorem rs_next:RS tNext dNext:=fun h o H δ σ S E D he hs q c=>c.nx o H δ S σ Ex.refl he hs q
theorem rs_seq (ht:RS t dt) (hu:RS u du):RS (tSeq t u) (dSeq dt du):=fun h o H δ σ S E D he hs q c =>
 ht h o H δ σ S _ _ he hs q ⟨fun o1 H1 δ1 S1 σ1 e1 he1 hs1 q1=>hu h o1 H1 δ1 σ1 S1 E D he1 hs1 q1 (c.pre e1),c.rt,c.bk,c.ct⟩
theorem rs_asg {g:TG} {dg:DG} (he':RE te de) (hg:RG g dg):RS (tAsg te g) (dAsg de dg):=fun h o H δ σ S E D he hs q c =>
 he' h o H δ σ S _ _ he hs q fun o1 H1 S1 x v e1 s1 x1 d1=>hg h o1 H1 δ σ S1 x v _ _ (he.mono e1) s1 x1 d1 (c.nx.pre e1)
theorem rs_drop (he':RE te de):RS (tDrop te) (dDrop de):=fun h o H δ σ S E D he hs q c =>
 he' h o H δ σ S _ _ he hs q fun o1 H1 S1 x v e1 s1 x1 d1=>c.nx o1 H1 δ S1 σ e1 (he.mono e1) s1 d1
theorem rs_ret (he':RE te de):RS (tRet te) (dRet de):=fun h o H δ σ S E D he hs q c=>he' h o H δ σ S _ _ he hs q c.rt
theorem rs_if {tc:TT} {dc:DT} (hc:RT tc dc) (ht:RS t dt) (hu:RS u du):RS (tIfS tc t u) (dIfS dc dt du):=fun h o H δ σ S E D he hs q c =>
 hc h o H δ σ S _ _ he hs q fun o1 H1 S1 b e1 s1 d1=>by
  cases b with
  | true=>exact iteT (ht h o1 H1 δ σ S1 E D (he.mono e1) s1 (by simpa using d1) (c.pre e1))
  | false=>exact iteF (hu h o1 H1 δ σ S1 E D (he.mono e1) s1 (by simpa using d1) (c.pre e1))
def frz (n:Nat) (ds:List PyData):Option XV→Option XV
 | some (.l k)=>if k = n then some (.d (.list ds)) else some (.l k)
 | y=>y
end
abbrev DI:=XE→Sto→(List PyData→Sto→Prop)→Prop
structure WalkX (h o:List Addr) (H:Hp) (J:It) (ds:List PyData):Prop where
 stop:∀ (i:Nat) o2 H2,ExH h o H o2 H2→ds.length ≤ i→J.stop i H2
 go:∀ (i:Nat) d o2 H2,ExH h o H o2 H2→ds[i]? = some d→J.go i H2
 yld:∀ (i:Nat) d o2 H2 x H3 S2,ExH h o H o2 H2→RepS h o2 H2 S2→ds[i]? = some d→J.yld i H2 x H3→Same H2 H3∧Has (vx h o2 H3) d x
def RI (w:TI) (di:DI):Prop:=∀ (h o:List Addr) (H:Hp) (δ:XE) (σ:St) (S:Sto) (R:List PyData→Sto→Prop) (Q:It→Hp→Prop),RepE h o H δ σ→RepS h o H S→di δ S R →
 (∀ o' H' S' ds J,Ex o H o' H'→RepS h o' H' S'→WalkX h o' H' J ds→R ds S'→Q J H')→w σ H Q
theorem walkX_rng {h o:List Addr} {H:Hp} {lo:Int} {n:Nat}:WalkX h o H (Itr lo n) (intsD lo n) where
 stop:=fun i _ _ _ hi=>by rw [intsD_length] at hi; exact hi
 go:=fun i d _ _ _ hi=>(intsD_get hi).1
 yld:=fun i d o2 H2 x H3 S2 _ _ hi y=>by
  obtain ⟨e,ex⟩:=y
  subst e ex
  rw [(intsD_get hi).2]
  exact ⟨Same.refl _,has_int.mpr rfl⟩
def dLoop (g:DG) (b:DS):List PyData→DS
 | [],E,δ,S=>E.nx δ S
 | d :: ds,E,δ,S=>g (.d d) δ S fun δ1 S1=>b { nx:=fun δ2 S2=>dLoop g b ds E δ2 S2,ct:=fun δ2 S2=>dLoop g b ds E δ2 S2,bk:=E.nx,rt:=E.rt } δ1 S1
def dFor (i:DI) (g:DG) (b:DS):DS:=fun E δ S=>i δ S fun ds S1=>dLoop g b ds E δ S1
theorem rs_for {wi:TI} {g:TG} {tb:TS} {di:DI} {dg:DG} {db:DS} (hi:RI wi di) (hg:RG g dg) (hb:RS tb db):RS (tFor wi g tb) (dFor di dg db):=fun h o H δ σ S E D he hs q c =>
 hi h o H δ σ S _ _ he hs q fun o1 H1 S1 ds J e1 s1 wk d1=>by
  refine ⟨fun i m σ2 H2=>m = ds.length - i∧i ≤ ds.length∧∃ o2 δ2 S2,Ex o1 H1 o2 H2∧RepE h o2 H2 δ2 σ2∧RepS h o2 H2 S2∧dLoop dg db (ds.drop i) E δ2 S2,⟨ds.length,by simp,Nat.zero_le _,o1,δ,S1,Ex.refl,he.mono e1,s1,d1⟩,?_⟩
  rintro i m σ2 H2 ⟨rfl,hi,o2,δ2,S2,e2,he2,hs2,d2⟩
  by_cases hlt:i < ds.length
  ·have ed:ds[i]? = some ds[i]:=List.getElem?_eq_getElem hlt
   rw [List.drop_eq_getElem_cons hlt] at d2
   refine .inr ⟨wk.go i _ o2 H2 e2.hid ed,fun σ3 H3=>∃ o3 δ3 S3,Ex o1 H1 o3 H3∧RepE h o3 H3 δ3 σ3∧RepS h o3 H3 S3∧dLoop dg db (ds.drop (i + 1)) E δ3 S3,fun σ3 H3 n=>⟨ds.length - (i + 1),by omega,rfl,hlt,n⟩,fun x H3 y=>?_⟩
   obtain ⟨s3,hx⟩:=wk.yld i _ o2 H2 x H3 S2 e2.hid hs2 ed y
   have e23:Ex o2 H2 o2 H3:=Ex.of_same s3
   refine hg h o2 H3 δ2 σ2 S2 (.d ds[i]) x _ _ (he2.mono e23) (hs2.same s3) hx d2 fun o4 H4 δ4 S4 σ4 e4 he4 hs4 d4=>?_
   have e14:Ex o1 H1 o4 H4:=(e2.trans e23).trans e4
   have ce:=(c.pre e1).pre e14
   exact hb h o4 H4 δ4 σ4 S4 _ _ he4 hs4 d4 ⟨fun o5 H5 δ5 S5 σ5 e5 he5 hs5 d5=>⟨o5,δ5,S5,e14.trans e5,he5,hs5,d5⟩,ce.rt,ce.nx,fun o5 H5 δ5 S5 σ5 e5 he5 hs5 d5=>⟨o5,δ5,S5,e14.trans e5,he5,hs5,d5⟩⟩
  ·have ei:i = ds.length:=by omega
   subst ei
   rw [List.drop_length] at d2
   exact .inl ⟨wk.stop _ o2 H2 e2.hid (Nat.le_refl _),c.nx o2 H2 δ2 S2 σ2 (e1.trans e2) he2 hs2 d2⟩
def dWhile (cd:DT) (b:DS):DS:=fun E δ S=>∃ W:Nat→XE→Sto→Prop,(∃ m,W m δ S)∧∀ m δ S,W m δ S →
 cd δ S fun x S1=>if x = true then ∃ N:XE→Sto→Prop,(∀ δ' S',N δ' S'→∃ m',m' < m∧W m' δ' S')∧b { nx:=N,ct:=N,bk:=E.nx,rt:=E.rt } δ S1 else E.nx δ S1
theorem rs_while {tc:TT} {tb:TS} {dc:DT} {db:DS} (hc:RT tc dc) (hb:RS tb db):RS (tWhile tc tb) (dWhile dc db):=fun h o H δ σ S E D he hs ⟨W,⟨m0,w0⟩,q⟩ c=>by
 refine ⟨fun m σ2 H2=>∃ o2 δ2 S2,Ex o H o2 H2∧RepE h o2 H2 δ2 σ2∧RepS h o2 H2 S2∧W m δ2 S2,⟨m0,o,δ,S,Ex.refl,he,hs,w0⟩,?_⟩
 rintro m σ2 H2 ⟨o2,δ2,S2,e2,he2,hs2,w2⟩
 refine hc h o2 H2 δ2 σ2 S2 _ _ he2 hs2 (q m δ2 S2 w2) fun o3 H3 S3 b e3 s3 d3=>?_
 cases b with
 | false=>exact iteF (c.nx o3 H3 δ2 S3 σ2 (e2.trans e3) (he2.mono e3) s3 (by simpa using d3))
 | true =>
  refine iteT ?_
  obtain ⟨N,n1,d3⟩:∃ N:XE→Sto→Prop,(∀ δ' S',N δ' S'→∃ m',m' < m∧W m' δ' S')∧db { nx:=N,ct:=N,bk:=E.nx,rt:=E.rt } δ2 S3:=by simpa using d3
  have e13:=e2.trans e3
  have ce:=c.pre e13
  refine ⟨fun σ4 H4=>∃ o4 δ4 S4,Ex o H o4 H4∧RepE h o4 H4 δ4 σ4∧RepS h o4 H4 S4∧N δ4 S4,fun σ4 H4 ⟨o4,δ4,S4,e4,he4,hs4,n4⟩=>?_,?_⟩
  ·obtain ⟨m',hm,w'⟩:=n1 δ4 S4 n4
   exact ⟨m',hm,o4,δ4,S4,e4,he4,hs4,w'⟩
  ·exact hb h o3 H3 δ2 σ2 S3 _ _ (he2.mono e3) s3 d3 ⟨fun o5 H5 δ5 S5 σ5 e5 he5 hs5 d5=>⟨o5,δ5,S5,e13.trans e5,he5,hs5,d5⟩,ce.rt,ce.nx,fun o5 H5 δ5 S5 σ5 e5 he5 hs5 d5=>⟨o5,δ5,S5,e13.trans e5,he5,hs5,d5⟩⟩
def dNoIf:DT:=fun _ S R=>R true S
theorem rt_noIf:RT tNoIf dNoIf:=fun h o H δ σ S R Q he hs q c=>c o H S true Ex.refl hs q
def dCmp (n:Nat) (g:DG) (tt:DT) (te:DE) (fin:Sto→Prop):List PyData→XE→Sto→Prop
 | [],_,S=>fin S
 | d :: ds,τ,S=>g (.d d) τ S fun τ1 S1=>tt τ1 S1 fun b S2=>if b = true then te τ1 S2 fun x S3=>asD x fun e=>∃ acc,S3[n]? = some acc∧acc.length < 1000∧dCmp n g tt te fin ds τ1 (S3.set n (acc ++ [e])) else dCmp n g tt te fin ds τ1 S2
def dCompT (caps:List (Option Nat)) (i:DI) (g:DG) (tt:DT) (te:DE):DE:=fun δ S R=>i δ S fun ds S1=>dCmp S1.length g tt te (fun S2=>R (.l S1.length) S2) ds (tauX caps δ) (S1 ++ [[]])
def dComp (caps:List (Option Nat)) (i:DI) (g:DG) (tt:DT) (te:DE):DE:=fun δ S R=>i δ S fun ds S1=>dCmp S1.length g tt te (fun S2=>∃ S0 acc,S2 = S0 ++ [acc]∧S0.length = S1.length∧R (.d (.list acc)) S0) ds (tauX caps δ) (S1 ++ [[]])
theorem RepS.pop {h o r:List Addr} {H:Hp} {S0 T:Sto} (hs:RepS h (o ++ r) H (S0 ++ T)) (hl:S0.length = o.length):RepS h o H S0 where
 len:=hl
 nd:=(List.nodup_append.mp hs.nd).1
 dis:=fun a ha=>hs.dis a (List.mem_append_left _ ha)
 hal:=hs.hal
 cont:=fun k a ds e1 e2=>by
  obtain ⟨vs,e3,l⟩:=hs.cont k a ds (get_app e1) (get_app e2)
  exact ⟨vs,e3,l.mono fun b u e=>by
   obtain ⟨z1,z2,z3⟩:=vx_iff.mp e
   exact vx_iff.mpr ⟨z1,fun m=>z2 (List.mem_append_left _ m),z3⟩⟩
theorem vx_pop {h o r:List Addr} {H:Hp}:Same (vx h (o ++ r) H) (vx h o H):=fun b u e=>by
 obtain ⟨z1,z2,z3⟩:=vx_iff.mp e
 exact vx_iff.mpr ⟨z1,fun m=>z2 (List.mem_append_left _ m),z3⟩
theorem Ex.pop {o o' r:List Addr} {H H':Hp} (e:Ex o H (o ++ r) H'):Ex o H o H':=⟨⟨[],by simp⟩,fun b u hb eb=>⟨hb,(e.kp b u hb eb).2⟩⟩
theorem comp_core {caps:List (Option Nat)} {wi:TI} {g:TG} {tt:TT} {te:TE} {di:DI} {dg:DG} {dtt:DT} {dte:DE} (hi:RI wi di) (hg:RG g dg) (ht:RT tt dtt) (he':RE te dte)
  {h o:List Addr} {H:Hp} {δ:XE} {σ:St} {S:Sto} {Q:VK} {fin:Nat→Sto→Prop} (he:RepE h o H δ σ) (hs:RepS h o H S) (q:di δ S fun ds S1=>dCmp S1.length dg dtt dte (fin S1.length) ds (tauX caps δ) (S1 ++ [[]]))
  (c:∀ o1 H1 D o2 H2 S2,Ex o H o1 H1→H1 D = none→Ex (o1 ++ [D]) (upd H1 D (.lst [])) o2 H2→RepS h o2 H2 S2→fin o1.length S2→Q (.ref D) H2):tComp caps wi g tt te σ H Q:=by
 refine hi h o H δ σ S _ _ he hs q fun o1 H1 S1 ds J e1 s1 wk d1 D hD=>?_
 have eN:Ex o1 H1 (o1 ++ [D]) (upd H1 D (.lst [])):=Ex.new s1 hD
 have sN:RepS h (o1 ++ [D]) (upd H1 D (.lst [])) (S1 ++ [[]]):=s1.new hD (hasL_nil.mpr rfl)
 have hn:S1.length = o1.length:=s1.len
 refine ⟨fun i m τ H2=>m = ds.length - i∧i ≤ ds.length∧∃ o2 δ2 S2,Ex (o1 ++ [D]) (upd H1 D (.lst [])) o2 H2∧RepE h o2 H2 δ2 τ∧RepS h o2 H2 S2∧dCmp S1.length dg dtt dte (fin S1.length) (ds.drop i) δ2 S2,⟨ds.length,by simp,Nat.zero_le _,_,_,_,Ex.refl,((he.mono e1).mono eN).tau,sN,d1⟩,?_⟩
 rintro i m τ H2 ⟨rfl,hi,o2,δ2,S2,e2,he2,hs2,d2⟩
 by_cases hlt:i < ds.length
 ·have ed:ds[i]? = some ds[i]:=List.getElem?_eq_getElem hlt
  rw [List.drop_eq_getElem_cons hlt] at d2
  refine .inr ⟨wk.go i _ o2 H2 (eN.trans e2).hid ed,fun x H3 y=>?_⟩
  obtain ⟨s3,hx⟩:=wk.yld i _ o2 H2 x H3 S2 (eN.trans e2).hid hs2 ed y
  have e23:Ex o2 H2 o2 H3:=Ex.of_same s3
  refine hg h o2 H3 δ2 τ S2 (.d ds[i]) x _ _ (he2.mono e23) (hs2.same s3) hx d2 fun o4 H4 δ4 S4 τ4 e4 he4 hs4 d4=>?_
  refine ht h o4 H4 δ4 τ4 S4 _ _ he4 hs4 d4 fun o5 H5 S5 b e5 s5 d5=>?_
  have e15:=((e2.trans e23).trans e4).trans e5
  cases b with
  | false=>exact iteF ⟨ds.length - (i + 1),by omega,rfl,hlt,o5,δ4,S5,e15,he4.mono e5,s5,by simpa using d5⟩
  | true =>
   refine iteT (he' h o5 H5 δ4 τ4 S5 _ _ (he4.mono e5) s5 (by simpa using d5) fun o6 H6 S6 z v e6 s6 z6 d6=>?_)
   replace d6:=asD_ex d6
   obtain ⟨e,rfl,acc,ea,hl,d6⟩:=d6
   have e16:=e15.trans e6
   have eD:o6[S1.length]? = some D:=by
    obtain ⟨r,rfl⟩:=e16.pre
    rw [hn]
    exact get_app (by rw [List.getElem?_concat_length])
   obtain ⟨vs,ev,l⟩:=s6.cont _ D acc eD ea
   refine ⟨vs,ev,by rw [l.length]; exact small1000 (Nat.le_of_lt hl),ds.length - (i + 1),by omega,rfl,hlt,o6,δ4,_,e16.trans (Ex.upd eD),((he4.mono e5).mono e6).mono (Ex.upd eD),s6.upd eD (l.append (hasL_cons.mpr ⟨v,[],rfl,z6,hasL_nil.mpr rfl⟩)),d6⟩
 ·have ei:i = ds.length:=by omega
  subst ei
  rw [List.drop_length] at d2
  exact .inl ⟨wk.stop _ o2 H2 (eN.trans e2).hid (Nat.le_refl _),c o1 H1 D o2 H2 S2 e1 hD e2 hs2 (hn ▸ d2)⟩
theorem re_compT {caps:List (Option Nat)} {wi:TI} {g:TG} {tt:TT} {te:TE} {di:DI} {dg:DG} {dtt:DT} {dte:DE} (hi:RI wi di) (hg:RG g dg) (ht:RT tt dtt) (he':RE te dte):RE (tComp caps wi g tt te) (dCompT caps di dg dtt dte):=fun h o H δ σ S R Q he hs q c=>by
 refine comp_core (fin:=fun n S2=>R (.l n) S2) hi hg ht he' he hs q fun o1 H1 D o2 H2 S2 e1 hD e2 s2 f=>?_
 have eN:Ex o1 H1 (o1 ++ [D]) (upd H1 D (.lst [])):=⟨⟨[D],rfl⟩,fun b w hb e=>by
  have ne:b ≠ D:=ne_of_none e hD
  exact ⟨by simp [hb,ne],by rw [upd_ne ne]; exact e⟩⟩
 refine c o2 H2 S2 (.l o1.length) _ ((e1.trans eN).trans e2) s2 ⟨D,?_,rfl⟩ f
 obtain ⟨r,rfl⟩:=e2.pre
 exact get_app (by rw [List.getElem?_concat_length])
theorem re_comp {caps:List (Option Nat)} {wi:TI} {g:TG} {tt:TT} {te:TE} {di:DI} {dg:DG} {dtt:DT} {dte:DE} (hi:RI wi di) (hg:RG g dg) (ht:RT tt dtt) (he':RE te dte):RE (tComp caps wi g tt te) (dComp caps di dg dtt dte):=fun h o H δ σ S R Q he hs q c=>by
 refine comp_core (fin:=fun n S2=>∃ (S0:Sto) (acc:List PyData),S2 = S0 ++ [acc]∧S0.length = n∧R (.d (.list acc)) S0) hi hg ht he' he hs q fun o1 H1 D o2 H2 S2 e1 hD e2 s2 ⟨S0,acc,eS,hl,f⟩=>?_
 subst eS
 have eN:Ex o1 H1 (o1 ++ [D]) (upd H1 D (.lst [])):=⟨⟨[D],rfl⟩,fun b w hb e=>by
  have ne:b ≠ D:=ne_of_none e hD
  exact ⟨by simp [hb,ne],by rw [upd_ne ne]; exact e⟩⟩
 have e12:=eN.trans e2
 obtain ⟨r,rfl⟩:=e2.pre
 have er:r = []:=by
  have:=s2.len
  simp only [List.length_append,List.length_singleton,hl] at this
  exact List.eq_nil_of_length_eq_zero (by omega)
 subst er
 rw [List.append_nil] at s2 e12
 have s0:RepS h o1 H2 S0:=s2.pop hl
 refine c o1 H2 S0 (.d (.list acc)) _ (e1.trans (Ex.pop (o':=o1) e12)) s0 ?_ f
 obtain ⟨vs,ev,l⟩:=s2.cont o1.length D acc (by rw [List.getElem?_concat_length]) (by rw [← hl,List.getElem?_concat_length])
 have nD:D ∉ o1:=by
  have:=(List.nodup_append.mp s2.nd).2.2
  intro m
  exact this D m D (by simp) rfl
 exact has_list.mpr ⟨D,vs,rfl,vx_iff.mpr ⟨s2.dis D (by simp),nD,ev⟩,l.mono vx_pop⟩
def fin (n:Nat) (R:RX):RX:=fun y S'=>match y with
 | .l k=>if k < n then R (.l k) (S'.take n) else ∃ ds,S'[k]? = some ds∧(R (.d (.list ds)) (S'.take n)∨R (.l n) (S'.take n ++ [ds]))
 | y=>R y (S'.take n)
theorem cn_fin {h o:List Addr} {H:Hp} {S:Sto} {R:RX} {Q:VK} (hs:RepS h o H S) (c:Cn h o H R Q):Cn h o H (fin S.length R) Q:=fun o' H' S' y v e s' hy q=>by
 obtain ⟨r,rfl⟩:=e.pre
 have eS:S' = S'.take S.length ++ S'.drop S.length:=(List.take_append_drop _ _).symm
 have hl:(S'.take S.length).length = o.length:=by
  have:=s'.len
  rw [List.length_append] at this
  rw [List.length_take,this,hs.len]
  omega
 have s0:RepS h o H' (S'.take S.length):=by
  rw [eS] at s'
  exact s'.pop hl
 have e0:Ex o H o H':=Ex.pop (o':=o) e
 cases y with
 | d d=>exact c o H' _ (.d d) v e0 s0 (Has.mono vx_pop d v hy) q
 | o w=>exact c o H' _ (.o w) v e0 s0 hy q
 | x C fs=>exact c o H' _ (.x C fs) v e0 s0 (HasE.mono vx_pop hy) q
 | l k =>
  unfold fin at q
  by_cases hk:k < S.length
  ·simp only [hk,↓reduceIte] at q
   obtain ⟨a,ea,rfl⟩:=hy
   exact c o H' _ (.l k) _ e0 s0 ⟨a,by rw [List.getElem?_append_left (by rw [← hs.len]; exact hk)] at ea; exact ea,rfl⟩ q
  ·simp only [hk,↓reduceIte] at q
   obtain ⟨ds,eds,q⟩:=q
   obtain ⟨a,ea,rfl⟩:=hy
   obtain ⟨vs,ev,l⟩:=s'.cont k a ds ea eds
   have na:a ∉ o:=fun m=>by
    obtain ⟨j,ej⟩:=List.mem_iff_getElem?.mp m
    have hj:j < o.length:=(List.getElem?_eq_some_iff.mp ej).1
    have:=nodup_get s'.nd (get_app (t:=r) ej) ea
    rw [hs.len] at hk
    omega
   have nh:a ∉ h:=s'.dis a (List.mem_of_getElem? ea)
   rcases q with q | q
   ·exact c o H' _ (.d (.list ds)) _ e0 s0 (has_list.mpr ⟨a,vs,rfl,vx_iff.mpr ⟨nh,na,ev⟩,l.mono vx_pop⟩) q
   ·have hn:H a = none:=by
     cases eh:H a with
     | none=>rfl
     | some u=>exact absurd (List.mem_of_getElem? ea) (e.kp a u na eh).1
    have e1:Ex o H (o ++ [a]) H':=⟨⟨[a],rfl⟩,fun b u hb eb=>⟨by simp only [List.mem_append,List.mem_singleton,not_or]; exact ⟨hb,ne_of_none eb hn⟩,(e0.kp b u hb eb).2⟩⟩
    have sub:Same (vx h (o ++ r) H') (vx h (o ++ [a]) H'):=fun b u eb=>by
     obtain ⟨z1,z2,z3⟩:=vx_iff.mp eb
     refine vx_iff.mpr ⟨z1,?_,z3⟩
     simp only [List.mem_append,List.mem_singleton,not_or]
     exact ⟨fun m=>z2 (List.mem_append_left _ m),fun z=>z2 (by rw [z]; exact List.mem_of_getElem? ea)⟩
    refine c (o ++ [a]) H' _ (.l S.length) _ e1 ⟨by rw [List.length_append,List.length_append,hl]; rfl,nodup_snoc hs.nd na,fun b hb=>?_,s0.hal,fun j b es q1 q2=>?_⟩ ⟨a,by rw [hs.len,List.getElem?_concat_length],rfl⟩ q
    ·rcases List.mem_append.mp hb with hb | hb
     ·exact hs.dis b hb
     ·rw [List.mem_singleton.mp hb]; exact nh
    ·by_cases hj:j < o.length
     ·rw [List.getElem?_append_left hj] at q1
      rw [List.getElem?_append_left (by rw [hl]; exact hj),List.getElem?_take_of_lt (by rw [hs.len]; exact hj)] at q2
      obtain ⟨ws,e3,l3⟩:=s'.cont j b es (get_app q1) q2
      exact ⟨ws,e3,l3.mono sub⟩
     ·have hj':j = o.length:=by
       obtain ⟨q,_⟩:=List.getElem?_eq_some_iff.mp q1
       rw [List.length_append,List.length_singleton] at q
       omega
      subst hj'
      rw [List.getElem?_concat_length] at q1
      rw [← hl,List.getElem?_concat_length] at q2
      cases q1
      cases q2
      exact ⟨vs,ev,l.mono sub⟩
def dEnd (n:Nat) (R:RX):DEnds:={ nx:=fun _ S'=>fin n R (.d .none) S',rt:=fin n R }
theorem eok {h o:List Addr} {H:Hp} {S:Sto} {R:RX} {Q:VK} (hs:RepS h o H S) (c:Cn h o H R Q):EOk h o H (dEnd S.length R) { nx:=fun _ H'=>Q .non H',rt:=Q } :=
 ⟨fun o' H' δ' S' σ' e he hs' q=>cn_fin hs c o' H' S' _ _ e hs' xN q,cn_fin hs c,fun _ _ _ _ _ _ _ _ q=>q.elim,fun _ _ _ _ _ _ _ _ q=>q.elim⟩
section
variable {P:Program} {w:World} {K:PySem.W.Frag} {mg:Str→Option Value} {base:Heap} {x a b c d e:Str} {st:Stmt} {N:List Str} {k:Nat}
end
def isPen (p:List PyData):Prop:=∃ l g s:Int,p = [.int l,.int g,.int s]∧0 ≤ l
end L2
set_option Elab.async false
set_option linter.all false
set_option maxRecDepth 100000
set_option maxHeartbeats 1000000
namespace L2
open PySem PySem.Spec PyProof.Rows
def rAll (K:PySem.W.Frag):List V→Hp→VK→Prop:=fun xs H Q=>∃ (p:Addr) (bs:List Bool),xs = [.ref p]∧SqL K H p (bs.map V.bl)∧Q (.bl (bs.all id)) H
theorem bt_all:bootBuiltins "all" = some (.builtin "all"):=by decide +kernel
section
variable {X:Cx}
theorem bools_at:∀ {bs:List Bool} {us:List Value} {i:Nat} {v:Value},Vals (bs.map V.bl) us→us[i]? = some v→∃ b,bs[i]? = some b∧v = .bool b
 | [],_,i,v,.nil,e=>by simp at e
 | b :: bs,_,0,v,.cons r _,e=>by
  rw [List.getElem?_cons_zero] at e
  cases e
  exact ⟨b,rfl,r⟩
 | b :: bs,_,i + 1,v,.cons _ t,e=>by
  obtain ⟨c,e1,e2⟩:=bools_at (i:=i) (v:=v) t (by simpa using e)
  exact ⟨c,by simpa using e1,e2⟩
theorem all_rng (bs:List Bool):((List.range bs.length).all fun i=>(bs[i]?).getD true) = bs.all id:=by
 rw [Bool.eq_iff_iff,List.all_eq_true,List.all_eq_true]
 constructor
 ·intro h b hb
  obtain ⟨i,hi⟩:=List.mem_iff_getElem?.mp hb
  have hl:=(List.getElem?_eq_some_iff.mp hi).1
  have:=h i (List.mem_range.mpr hl)
  rw [hi] at this
  exact this
 ·intro h i hi
  have hl:=List.mem_range.mp hi
  rw [List.getElem?_eq_getElem hl]
  exact h _ (List.getElem_mem hl)
theorem call_allQ (hc:X.calm = true):CallR X (.builtin "all") (rAll X.K):=by
 intro pins s σ H xs us Q I r h
 obtain ⟨p,bs,rfl,hq,q⟩:=h
 obtain ⟨u,rfl,rx⟩:=vals1 r
 cases (show u = Value.ref p from rx)
 obtain ⟨its,rv,pl,_⟩:=I.list hq
 have hl:=pl.isList
 have hlt:p < s.heap.objs.size:=by
  obtain ⟨_,e,_⟩:=hl
  exact Heap.lt_size e
 refine call_all_walk (x:=Value.ref p) (wpAny_pyIter_list hl ?_)
 refine ⟨s.heap.objs.size,[s.heap.objs.size,p],[s.heap.objs.size],its.toArray.size,_,_,fun i=>(bs[i]?).getD true,rfl,
  Walks.list (A:=X.A.in1) (I.ok.hd hc) _ p (Nat.ne_of_lt hlt) its.toArray,⟨⟨_,Heap.get?_push_size _ rfl,rfl,rfl⟩,hl.push _⟩,fun i v s' Q' E' hP hQ=>?_,fun h' tk hk=>?_⟩
 ·obtain ⟨b,e,rfl⟩:=bools_at (i:=i) (v:=v) rv (by simpa using hP)
  have hQ':Q' b s':=by simpa [e] using hQ
  exact wpAny_truthy_bool hQ'
 ·have hz:its.toArray.size = bs.length:=by
   have:=rv.length
   rw [List.length_map] at this
   simp [this]
  rw [hz,all_rng]
  refine ⟨.bl _,H,I.kept (t':=tk) fun b o e=>hk b o (fun hm=>?_) (Heap.get?_push_of_some _ e),rfl,q⟩
  rw [List.mem_singleton.mp hm] at e
  exact Nat.lt_irrefl _ (Heap.lt_size e)
end
def dSum:List XV→Sto→RX→Prop:=fun xs S R=>arg1 xs fun x=>∃ ds,asLs S x = some ds∧∃ ns:List Int,ds = ns.map PyData.int∧R (.d (.int ns.sum)) S
theorem hasL_blsV {H:Hp}:∀ {ns:List Bool} {vs:List V},HasL H (ns.map PyData.bool) vs→vs = ns.map V.bl
 | [],vs,h=>hasL_nil.mp h
 | n :: ns,vs,h=>by
  obtain ⟨v,r,rfl,h1,h2⟩:=hasL_cons.mp h
  rw [has_bool.mp h1,hasL_blsV h2]
  rfl
def dAll:List XV→Sto→RX→Prop:=fun xs S R=>arg1 xs fun x=>∃ ds,asLs S x = some ds∧∃ ns:List Bool,ds = ns.map PyData.bool∧R (.d (.bool (ns.all id))) S
theorem rc_all {K:PySem.W.Frag}:RC (rAll K) dAll:=fun h o H S xs vs R Q hs hx q c=>by
 obtain ⟨x,rfl,ds,hd,ns,rfl,q1⟩:=arg1_ex q
 obtain ⟨v,rfl,hx1⟩:=hxs1 hx
 obtain ⟨a,ws,rfl,ea,l⟩:=hx_lst hs hd hx1
 rw [hasL_blsV l] at ea
 exact ⟨a,ns,rfl,.of ea,c o H S _ _ Ex.refl hs (xB _) q1⟩
section
variable {S:Sto} {i:Int} {b:Bool} {z:Str} {ds:List PyData} {d:PyData} {k:Nat} {x y:XV} {R:RX} {c:String} {p:List PyData} {n:Nat} {v:V}
theorem asI_d {K:Int→Prop}:asI (.d (.int i)) K = K i:=rfl
theorem asB_d {K:Bool→Prop}:asB (.d (.bool b)) K = K b:=rfl
theorem asT_d {K:List PyData→Prop}:asT (.d (.tuple ds)) K = K ds:=rfl
theorem asD_d {K:PyData→Prop}:asD (.d d) K = K d:=rfl
theorem asLs_d:asLs S (.d (.list ds)) = some ds:=rfl
theorem asQ_d:asQ S (.d (.list ds)) = some ds:=rfl
theorem asQ_t:asQ S (.d (.tuple ds)) = some ds:=rfl
theorem asDat_d:asDat S (.d d) = some d:=rfl
theorem asDat_l:asDat S (.l k) = (S[k]?).map .list:=rfl
theorem ret0_d:ret0 S R (.d d) [] = R (.d d) S:=rfl
theorem ret0_l:ret0 S R (.l 0) [ds] = R (.l S.length) (S ++ [ds]):=rfl
theorem retP_d:retP k S R (.d d) [p] = R (.d d) (S.set k p):=rfl
theorem fin_d:fin n R (.d d) S = R (.d d) (S.take n):=rfl
theorem fin_l:fin n R (.l k) S = if k < n then R (.l k) (S.take n) else ∃ ds,S[k]? = some ds∧(R (.d (.list ds)) (S.take n)∨R (.l n) (S.take n ++ [ds])):=rfl
theorem arg1_x {K:XV→Prop}:arg1 [x] K = K x:=rfl
theorem arg2_x {K:XV→XV→Prop}:arg2 [x,y] K = K x y:=rfl
theorem asTy_x {K:String→Prop}:asTy (.o (.ty c)) K ↔ K c:=⟨fun ⟨_,e,q⟩=>by cases e; exact q,fun q=>⟨c,rfl,q⟩⟩
theorem asIB_b {K:Int→Prop}:asIB (.d (.bool b)) K = K (if b then 1 else 0):=rfl
theorem dEnd_rt:(dEnd n R).rt x S = fin n R x S:=rfl
theorem datas_nil:datas [] = some []:=rfl
theorem datas_cons {r:List XV}:datas (.d d :: r) = (datas r).map (d :: ·):=rfl
end
theorem atI_0 {α:Type} {a:α} {l:List α}:atI (a :: l) 0 = some a:=atI_nat (j:=0) rfl
theorem atI_1 {α:Type} {a b:α} {l:List α}:atI (a :: b :: l) 1 = some b:=atI_nat (j:=1) rfl
theorem atI_2 {α:Type} {a b c:α} {l:List α}:atI (a :: b :: c :: l) 2 = some c:=atI_nat (j:=2) rfl
def Shp (n:Nat) (d:PyData):Prop:=d.canLay0 = true∧d.depth ≤ n
theorem shp_int {n:Nat} {i:Int}:Shp n (.int i):=⟨rfl,Nat.zero_le _⟩
theorem shp_all {n:Nat}:∀ {ds:List PyData},(∀ d ∈ ds,Shp n d)→PyData.canLayAll0 ds = true∧PyData.depthAll ds ≤ n
 | [],_=>⟨by simp only [PyData.canLayAll0],by simp only [PyData.depthAll]; exact Nat.zero_le _⟩
 | d :: ds,h=>by
  obtain ⟨h1,h2⟩:=h d List.mem_cons_self
  obtain ⟨h3,h4⟩:=shp_all (ds:=ds) fun e m=>h e (List.mem_cons_of_mem _ m)
  simp only [PyData.canLayAll0,PyData.depthAll,h1,h3,Bool.and_true,true_and]
  omega
theorem shp_list {n:Nat} {ds:List PyData} (h:∀ d ∈ ds,Shp n d):Shp (n + 1) (.list ds):=by
 obtain ⟨h1,h2⟩:=shp_all h
 exact ⟨by simp only [PyData.canLay0]; exact h1,by simp only [PyData.depth]; omega⟩
theorem shp_tup {n:Nat} {ds:List PyData} (h:∀ d ∈ ds,Shp n d):Shp (n + 1) (.tuple ds):=by
 obtain ⟨h1,h2⟩:=shp_all h
 exact ⟨by simp only [PyData.canLay0]; exact h1,by simp only [PyData.depth]; omega⟩
theorem shp_map {α:Type} {n:Nat} {f:α→PyData} {l:List α} (h:∀ x ∈ l,Shp n (f x)):∀ d ∈ l.map f,Shp n d:=fun d m=>by
 obtain ⟨x,hx,rfl⟩:=List.mem_map.mp m
 exact h x hx
theorem Shp.ok {n:Nat} {d:PyData} (h:Shp n d) (hn:n ≤ 64:=by decide):SeqAt.shaped d = true:=by
 unfold SeqAt.shaped
 rw [h.1,decide_eq_true (Nat.le_trans h.2 hn)]
 rfl
theorem loop_inv {g:DG} {b:DS} {E:DEnds}:∀ {ds:List PyData} {δ:XE} {S:Sto} (I:Nat→XE→Sto→Prop),I 0 δ S →
  (∀ i d δ S (N:XE→Sto→Prop),ds[i]? = some d→I i δ S→(∀ δ' S',I (i + 1) δ' S'→N δ' S')→g (.d d) δ S fun δ1 S1=>b { nx:=N,ct:=N,bk:=E.nx,rt:=E.rt } δ1 S1) →
  (∀ δ S,I ds.length δ S→E.nx δ S)→dLoop g b ds E δ S
 | [],δ,S,I,h0,_,fin=>fin δ S h0
 | d :: ds,δ,S,I,h0,step,fin=>by
  show g (.d d) δ S fun δ1 S1=>b _ δ1 S1
  refine step 0 d δ S _ rfl h0 fun δ' S' h1=>?_
  exact loop_inv (ds:=ds) (fun i=>I (i + 1)) h1 (fun i e δ S N hi=>step (i + 1) e δ S N (by simpa using hi)) fin
theorem set_last {α:Type} {l:List α} {a b:α} {n:Nat} (h:l.length = n):(l ++ [a]).set n b = l ++ [b]:=by
 subst h
 rw [List.set_append_right _ _ (Nat.le_refl _),Nat.sub_self]
 rfl
theorem rep_nil {H:Hp}:RepS [] [] H []:=⟨rfl,List.nodup_nil,fun _ h=>(nomatch h),fun _ h=>(nomatch h),fun _ _ _ e=>(by simp at e)⟩
theorem Ex.same_nil {o':List Addr} {H H':Hp} (e:Ex [] H o' H'):Same H H':=fun b u q=>(e.kp b u (by simp) q).2
theorem cells_d {K:PySem.W.Frag} {a:Addr} {ns:List Int} {N:Int} {j m:Nat} {tb:TS} {db:DS} {D:Ends} {σ:St} {H:Hp} (hb:RS tb db) (h0:σ[0]? = some (some (.ref a))) (hl:σ.length = m + 1) (hS:SqL K H a (ns.map V.int)) (hlen:ns.length ≤ 63)
  (turn:∀ n:Int,db { nx:=fun δ _=>δ[0]? = some (some (.o (.ref a)))∧δ.length = m + 1,ct:=fun δ _=>δ[0]? = some (some (.o (.ref a)))∧δ.length = m + 1,rt:=fun _ _=>False } ((some (.o (.ref a)) :: List.replicate m none).set j (some (.d (.int n)))) [])
  (hj:j ≠ 0) (done:∀ (σ:St) (H1:Hp),Same H H1→D.nx σ H1) :
  tFor (iList K (tOp rCat (tLst (tCons (tC2 (pCell K) (tVar 0) (tC (.int 0))) tNil)) (tSl (rSlL K) (tVar 0) (tPart (tC (.int 1))) (tPart (tC (.int N)))))) (gName j) tb D σ H:=by
 refine for_cells (a:=a) (ns:=ns) (fun σ=>σ[0]? = some (some (.ref a))∧σ.length = m + 1) h0 hS hlen ⟨h0,hl⟩ ?_ fun σ H1 _ s=>done σ H1 s
 rintro n σ1 H1 H2 ⟨z0,z1⟩ s1 s2
 refine hb [] [] H2 _ _ [] _ _ ⟨by simp [z1],fun i x e=>?_⟩ rep_nil (turn n) ⟨?_,fun _ _ _ _ _ _ _ _ q=>q.elim,fun _ _ _ _ _ _ _ _ q=>q.elim,?_⟩
 ·rw [List.getElem?_set] at e ⊢
  by_cases hij:j = i
  ·rw [if_pos hij] at e ⊢
   by_cases hjl:j < m + 1
   ·rw [if_pos (by simpa using hjl)] at e
    rw [if_pos (by rw [z1]; exact hjl)]
    cases e
    exact ⟨.int n,rfl,xI n⟩
   ·rw [if_neg (by simpa using hjl)] at e
    cases e
  ·rw [if_neg hij] at e ⊢
   cases i with
   | zero =>
    cases e
    exact ⟨.ref a,z0,rfl⟩
   | succ i =>
    rw [List.getElem?_cons_succ,List.getElem?_replicate] at e
    split at e <;> cases e
 ·rintro o' H' δ' S' σ' e he hs ⟨q1,q2⟩
  obtain ⟨v,ev,hv⟩:=he.get 0 _ q1
  cases hv
  exact ⟨s2.trans e.same_nil,ev,by rw [← he.len]; exact q2⟩
 ·rintro o' H' δ' S' σ' e he hs ⟨q1,q2⟩
  obtain ⟨v,ev,hv⟩:=he.get 0 _ q1
  cases hv
  exact ⟨s2.trans e.same_nil,ev,by rw [← he.len]; exact q2⟩
theorem pre_d {a:Addr} {m:Nat} {t u:TS} {dt:DS} {D:Ends} {σ:St} {H:Hp} (ht:RS t dt) (h0:σ[0]? = some (some (.ref a))) (hl:σ.length = m + 1)
  (go:dt { nx:=fun δ _=>δ[0]? = some (some (.o (.ref a)))∧δ.length = m + 1,rt:=fun _ _=>False } (some (.o (.ref a)) :: List.replicate m none) [])
  (next:∀ (σ:St) (H1:Hp),σ[0]? = some (some (.ref a))→σ.length = m + 1→Same H H1→u D σ H1):tSeq t u D σ H:=by
 refine ht [] [] H _ _ [] _ _ ⟨by simp [hl],fun i x e=>?_⟩ rep_nil go ⟨?_,fun _ _ _ _ _ _ _ _ q=>q.elim,fun _ _ _ _ _ _ _ _ q=>q.elim,fun _ _ _ _ _ _ _ _ q=>q.elim⟩
 ·cases i with
  | zero =>
   cases e
   exact ⟨.ref a,h0,rfl⟩
  | succ i =>
   rw [List.getElem?_cons_succ,List.getElem?_replicate] at e
   split at e <;> cases e
 ·rintro o' H' δ' S' σ' e he hs ⟨q1,q2⟩
  obtain ⟨v,ev,hv⟩:=he.get 0 _ q1
  cases hv
  exact next σ' H' ev (by rw [← he.len]; exact q2) e.same_nil
end L2
set_option Elab.async false
set_option linter.all false
set_option maxRecDepth 100000
set_option maxHeartbeats 1000000
namespace L2
open PySem PySem.Spec PyProof.Rows
theorem turn_long {P:Program} {w:World} {K:PySem.W.Frag} {tg:Expr} (it:Addr) (lo:Int) (n:Nat):Turn P w K tg (Itr lo n) [it] it (fun i h=>IsLongIter h it (lo + (i:Nat) * 1) ((n:Int) - (i:Nat)) 1) where
 mem:=by simp
 obj:=fun i h st b hb=>by
  have e:b = it:=by simpa using hb
  subst e
  exact ⟨_,st,fun v z=>by
   have z':Data.fields _ = Data.cell v:=z
   cases z'⟩
 keep:=fun i h h' st k=>k it (by simp) _ st
 item:=by
  intro X hP hw hK hc i pins s σ H E I hf st hg
  subst hP hw hK
  obtain ⟨f0,f1,f2,f3,f4,f5⟩:=hf it (by simp)
  have W:=Walks.longrange (prog:=X.prog) (w:=X.w) (I.ok.hd hc) it lo 1 n
  refine W.item i s _ _ hg st fun v h' tk hv st' kk=>?_
  obtain ⟨t,rfl⟩:=hv
  have I1:Inv X pins σ H { s with heap:=h',toks:=tk }:=I.turned (fun b o hb e=>kk b o (by simpa using hb) e) f0 f1 f3 f4 f5
  refine ⟨_,rfl,go_of (s:={ s with heap:=h',toks:=tk }) (n:="longrange_iterator") st' rfl rfl (by decide) ⟨.int (lo + i),H,I1,⟨t,?_⟩,⟨rfl,rfl⟩,st',fun b hb=>(hf b hb).1⟩⟩
  rw [Int.mul_one]
 done:=by
  intro X hP hw hK hc i pins s σ H E I hf st hg
  subst hP hw hK
  obtain ⟨f0,f1,f2,f3,f4,f5⟩:=hf it (by simp)
  exact wpAny_pyNext_long_end (I.ok.hd hc) st (by have:n ≤ i:=hg; omega) fun h' eb=>⟨rfl,I.turned (t':=s.toks) (fun b o hb e=>eb b o hb e) f0 f1 f3 f4 f5⟩
 self:=fun _ _ _ _ _ st h=>wpAny_pyIter_longiter st h
section
variable {X:Cx} {tg:Expr}
theorem range_itX {pins:List (Addr × Obj)} {σ:St} {H:Hp} {s:Shared} {R:It→Hp→Prop} {E:Value→Shared→Prop} {lo hi:Int} {t u v:Tok} {tk:Nat} (I:Inv X pins σ H s)
  (q:R (Itr lo (hi - lo).toNat) H):wpAny (model X.prog X.w) X.A (pyIter (.ref s.heap.objs.size)) (PIE X pins σ tg R) E { s with heap:=s.heap.push { cls:=.type "range",data:=.fields #[.int lo t,.int hi u,.int 1 v] },toks:=tk }:=by
 have I1:Inv X pins σ H { s with heap:=s.heap.push { cls:=.type "range",data:=.fields #[.int lo t,.int hi u,.int 1 v] },toks:=tk }:=I.kept fun b o e=>Heap.get?_push_of_some _ e
 have e1:lo + ((0:Nat):Int) * 1 = lo:=by simp
 have e2:(((hi - lo).toNat:Nat):Int) - ((0:Nat):Int) = Builtin.Range.rangeSize lo hi 1:=by rw [rangeSize_one]; split <;> omega
 cases hsm:Builtin.Range.small lo hi 1 with
 | true =>
  refine wpAny_pyIter_range (IsRange.new ..) hsm ?_
  refine ⟨(s.heap.push { cls:=.type "range",data:=.fields #[.int lo t,.int hi u,.int 1 v] }).objs.size,[(s.heap.push { cls:=.type "range",data:=.fields #[.int lo t,.int hi u,.int 1 v] }).objs.size],_,_,H,rfl,
   I1.kept (t':=tk) fun b o e=>Heap.get?_push_of_some _ e,turn_range _ lo (hi - lo).toNat,?_,fun b hb=>?_,q⟩
  ·show IsRangeIter _ _ (lo + ((0:Nat):Int) * 1) ((((hi - lo).toNat:Nat):Int) - ((0:Nat):Int)) 1
   rw [e1,e2]
   exact Heap.get?_push_size _ rfl
  ·have e:b = (s.heap.push { cls:=.type "range",data:=.fields #[.int lo t,.int hi u,.int 1 v] }).objs.size:=by simpa using hb
   subst e
   exact I1.fpOk (Nat.le_refl _) (I1.hok.fresh (Nat.le_refl _))
 | false =>
  refine wpAny_pyIter_longrange (IsRange.new ..) hsm ?_
  refine ⟨(s.heap.push { cls:=.type "range",data:=.fields #[.int lo t,.int hi u,.int 1 v] }).objs.size,[(s.heap.push { cls:=.type "range",data:=.fields #[.int lo t,.int hi u,.int 1 v] }).objs.size],_,_,H,rfl,
   I1.kept (t':=tk) fun b o e=>Heap.get?_push_of_some _ e,turn_long _ lo (hi - lo).toNat,?_,fun b hb=>?_,q⟩
  ·show IsLongIter _ _ (lo + ((0:Nat):Int) * 1) ((((hi - lo).toNat:Nat):Int) - ((0:Nat):Int)) 1
   rw [e1,e2]
   exact Heap.get?_push_size _ rfl
  ·have e:b = (s.heap.push { cls:=.type "range",data:=.fields #[.int lo t,.int hi u,.int 1 v] }).objs.size:=by simpa using hb
   subst e
   exact I1.fpOk (Nat.le_refl _) (I1.hok.fresh (Nat.le_refl _))
def iRngX1 (ta:TA):TI:=fun σ H R=>ta σ H fun vs H1=>∃ j:Int,vs = [.int j]∧R (Itr 0 j.toNat) H1
theorem pi_range1X {a:Expr} {ta:TA} {p pos:Pos} (hg:Gl X "range") (hm:X.mg "range" = none) (ha:PA X [a] ta) (hs:starEach [a] X.env = [(false,eval a X.env)]:=by rfl):PI X tg (.Call (.Name "range" p) [a] [] pos) (iRngX1 ta):=by
 intro pins s σ H R I h
 refine Call_ (ld_blt I hg hm boot_range (PyProof.Rows.callWith_type1 (thn (ha pos pins s σ H _ I h) fun us s1 ⟨vs,H1,I1,r1,q1⟩=>?_) hs rfl))
 obtain ⟨j,e,q⟩:=q1
 subst e
 cases r1 with
 | cons r rr =>
  cases rr
  obtain ⟨t,rfl⟩:=r
  exact call_range_1 (range_itX I1 (by simpa using q))
end
def diRngX1 (a:DA):DI:=fun δ S R=>a δ S fun xs S1=>arg1 xs fun x=>asI x fun j=>R (intsD 0 j.toNat) S1
def diRngX2 (a:DA):DI:=fun δ S R=>a δ S fun xs S1=>arg2 xs fun x y=>asI x fun i=>asI y fun j=>R (intsD i (j - i).toNat) S1
theorem ri_rng1X {ta:TA} {da:DA} (ha:RA ta da):RI (iRngX1 ta) (diRngX1 da):=fun h o H δ σ S R Q he hs q c =>
 ha h o H δ σ S _ _ he hs q fun o1 H1 S1 xs vs e1 s1 x1 d0=>by
  obtain ⟨x,rfl,d2⟩:=arg1_ex d0
  obtain ⟨j,rfl,d1⟩:=asI_ex d2
  obtain ⟨v,rfl,hv⟩:=hxs1 x1
  rw [hx_int hv]
  exact ⟨j,rfl,c o1 H1 S1 _ _ e1 s1 walkX_rng d1⟩
section
variable {P:Program} {w:World} {K:PySem.W.Frag} {mg:Str→Option Value} {base:Heap} {x a b c d:Str} {st:Stmt} {N:List Str} {k:Nat}
end
end L2
set_option Elab.async false
set_option linter.all false
set_option maxRecDepth 100000
set_option maxHeartbeats 1000000
namespace L2
open PySem PySem.Spec PyProof.Rows
open Sem (wp)
open AutoSeq1 (wpAny_loadPart')
section
variable {X:Cx} {pins:List (Addr × Obj)} {σ:St} {H:Hp} {s:Shared} {h':Heap}
theorem Inv.turnLaid {t':Nat} {ch:List Addr} {T:Addr} {o:HO} (I:Inv X pins σ H s) (k:∀ b u,b ∉ ch→s.heap.get? b = some u→h'.get? b = some u) (hf:∀ b ∈ ch,FpOk X pins H b) (hT:s.heap.objs.size ≤ T)
  (new:ObjOk X.prog X.w (upd H T o) h' T o):Inv X pins σ (upd H T o) { s with heap:=h',toks:=t' }:=by
 have hn:H T = none:=I.hok.fresh hT
 have nch:∀ b u,H b = some u→b ∉ ch:=fun b u e m=>by rw [(hf b m).1] at e; cases e
 have neT:∀ b u,s.heap.get? b = some u→b ≠ T:=fun b u e z=>absurd (Nat.lt_of_lt_of_le (Heap.lt_size e) hT) (by rw [z]; exact Nat.lt_irrefl _)
 have up:∀ b u,H b = some u→upd H T o b = some u:=fun b u e=>(upd_ne (ne_of_none e hn)).trans e
 refine I.step (g':=s.gens) (d':=s.drawn) (ch:=ch) (fun b hb=>?_) (fun b u _ _ hc e _=>k b u hc e) (fun b u _ _ hc e _=>⟨u.slots,k b u hc e⟩) (fun b u _ e n=>(upd_ne (neT b u e)).trans n)
  (fun b u hc e=>⟨u,k b u hc e⟩) (fun b xs e=>up b _ e) (fun b u v e=>up b _ e) (fun b ps e=>⟨#[],by rw [up b _ e]; simp⟩) (fun m hm=>?_) (fun b u e=>?_) I.bare
 ·obtain ⟨_,f1,_,f3,f4,f5⟩:=hf b hb
  exact ⟨f3,f1,f4,f5⟩
 ·obtain ⟨ob,es,ep,ho,r⟩:=hm
  exact ⟨ob,es,ep,k _ ob (fun z=>(hf _ z).2.1 rfl) ho,r⟩
 ·by_cases hb:b = T
  ·subst hb
   rw [upd_same] at e
   cases e
   exact new
  ·rw [upd_ne hb] at e
   refine (I.hok b u e).stay (fun c v hc q=>k c v ?_ q) (fun c q=>up c _ q) fun c xs q=>up c _ q
   rcases hc with z | z
   ·rw [z]; exact nch b u e
   ·exact nch c _ z
theorem Inv.turnedN {t':Nat} {ch:List Addr} (I:Inv X pins σ H s) (k:∀ b u,b ∉ ch→s.heap.get? b = some u→h'.get? b = some u) (hf:∀ b ∈ ch,FpOk X pins H b):Inv X pins σ H { s with heap:=h',toks:=t' }:=by
 have nch:∀ b u,H b = some u→b ∉ ch:=fun b u e m=>by rw [(hf b m).1] at e; cases e
 refine I.step (g':=s.gens) (d':=s.drawn) (ch:=ch) (fun b hb=>?_) (fun b u _ _ hc e _=>k b u hc e) (fun b u _ _ hc e _=>⟨u.slots,k b u hc e⟩) (fun b u _ e n=>n)
  (fun b u hc e=>⟨u,k b u hc e⟩) (fun b xs e=>e) (fun b u v e=>e) (fun b ps e=>⟨#[],by rw [e]; simp⟩) (fun m hm=>?_) (fun b u e=>?_) I.bare
 ·obtain ⟨_,f1,_,f3,f4,f5⟩:=hf b hb
  exact ⟨f3,f1,f4,f5⟩
 ·obtain ⟨ob,es,ep,ho,r⟩:=hm
  exact ⟨ob,es,ep,k _ ob (fun z=>(hf _ z).2.1 rfl) ho,r⟩
 ·refine (I.hok b u e).stay (fun c v hc q=>k c v ?_ q) (fun _ q=>q) fun _ _ q=>q
  rcases hc with z | z
  ·rw [z]; exact nch b u e
  ·exact nch c _ z
end
section
variable {prog:Program} {w:World} {A:Around} {E:Value→Shared→Prop} {s:Shared}
theorem nextOf_tup {j t:Addr} {i:Nat} {vs:Array Value} {x:Value} {Q:Value→Shared→Prop} (hj:s.heap.IsTupleIter j t i) (ht:s.heap.IsTuple t vs) (hx:vs[i]? = some x)
  (hQ:∀ g,g.IsTupleIter j t (i + 1)→Heap.SameBut j s.heap g→Q x { s with heap:=g }):wpAny (model prog w) A (Builtin.SmallTypes.nextOf (.ref j)) Q E s:=by
 obtain ⟨oj,ej,cj,dj⟩:=id hj
 obtain ⟨ot,et,_,nt,dt⟩:=ht
 unfold Builtin.SmallTypes.nextOf
 refine wpAny_bind (wpAny_callSpecial?_slot (name:=Str.ofString "__next__") hj.typeIs F.slot_tuple_iterator_next (wpAny_call_entry F.slot_tuple_iterator_next hj.typeIs F.entry_tuple_iterator_next ?_ (F.args_tuple_iterator_next_1 _)))
 show wpAny _ _ (field (.ref j) 0 >>= _) _ _ s
 refine wpAny_bind (wpAny_field ej dj (x:=.ref t) rfl ?_)
 show wpAny _ _ (ite ((Value.ref t == Value.none) = true) _ _) _ _ s
 refine (if_neg (show ¬ ((Value.ref t == Value.none) = true) from Bool.false_ne_true)) ▸ ?_
 show wpAny _ _ (field (.ref j) 1 >>= _) _ _ s
 refine wpAny_bind (wpAny_field ej dj (x:=.int i 0) rfl ?_)
 refine wpAny_bind (m:=seqItems? (.ref t)) (wpAny_seqItems et dt ?_)
 simp only [hx,Int.toNat_natCast]
 refine wpAny_bind (wpAny_setField ej dj (by simp) (wpAny_pure ⟨x,rfl,wpAny_pure (hQ _ ⟨_,Heap.get?_update_self _ ej (Obj.isFreed_of_fields (Obj.data_mapFields dj _)),(Obj.cls_mapFields ..).trans cj,?_⟩ (Heap.SameBut.update ..))⟩))
 rw [Obj.data_mapFields dj]
 simp [rawInt]
theorem nextOf_tup_end {j t:Addr} {i:Nat} {vs:Array Value} {Q:Value→Shared→Prop} (hh:A.handled = none) (hj:s.heap.IsTupleIter j t i) (ht:s.heap.IsTuple t vs) (hx:vs[i]? = none)
  (hE:∀ g e,Heap.ExtBut j s.heap g→(∃ o,g.get? e = some o∧o.cls = .type "StopIteration")→E (.ref e) { s with heap:=g }):wpAny (model prog w) A (Builtin.SmallTypes.nextOf (.ref j)) Q E s:=by
 obtain ⟨oj,ej,cj,dj⟩:=id hj
 obtain ⟨ot,et,_,nt,dt⟩:=ht
 unfold Builtin.SmallTypes.nextOf
 refine wpAny_bind (wpAny_callSpecial?_slot (name:=Str.ofString "__next__") hj.typeIs F.slot_tuple_iterator_next (wpAny_call_entry F.slot_tuple_iterator_next hj.typeIs F.entry_tuple_iterator_next ?_ (F.args_tuple_iterator_next_1 _)))
 show wpAny _ _ (field (.ref j) 0 >>= _) _ _ s
 refine wpAny_bind (wpAny_field ej dj (x:=.ref t) rfl ?_)
 show wpAny _ _ (ite ((Value.ref t == Value.none) = true) _ _) _ _ s
 refine (if_neg (show ¬ ((Value.ref t == Value.none) = true) from Bool.false_ne_true)) ▸ ?_
 show wpAny _ _ (field (.ref j) 1 >>= _) _ _ s
 refine wpAny_bind (wpAny_field ej dj (x:=.int i 0) rfl ?_)
 refine wpAny_bind (m:=seqItems? (.ref t)) (wpAny_seqItems et dt ?_)
 simp only [hx,Int.toNat_natCast]
 refine wpAny_bind (wpAny_rule (wpAny_bind (wpAny_setField ej dj (by simp) ?_)))
 show wpAny _ _ (newExc (.type "StopIteration") [] >>= _) _ _ _
 refine wpAny_bind ?_
 simp only [newExc,newTuple]
 refine wpAny_bind (wpAny_newObj_type ?_ (by size_fits)); refine wpAny_bind (m:=firstArgMember _ _) (wpAny_of_eq (a:=Value.none) (by first | rfl | (simp only [firstArgMember]; rfl)) ?_)
 refine wpAny_newObj_type ?_ (by size_fits); simp only [raiseNew]
 refine wpAny_bind (wpAny_handled ?_)
 first | rw [show A.in1.handled = none from hh] | rw [hh]
 exact wpAny_bind (wpAny_pure (wpAny_throw (hE _ _ (((Heap.SameBut.update ..).extBut.push _).push _) ⟨_,Heap.get?_push_size _ rfl,rfl⟩)))
theorem enum_core {e j:Addr} {i:Nat} {x old:Value} {J:Heap→Prop} {Q:Value→Shared→Prop} (he:IsEnum s.heap e j i old) (hne:e ≠ j)
  (hn:∀ (Q':Value→Shared→Prop) (E':Value→Shared→Prop),(∀ g,J g→Heap.SameBut j s.heap g→Q' x { s with heap:=g })→wpAny (model prog w) A (Builtin.SmallTypes.nextOf (.ref j)) Q' E' s)
  (hJ:∀ g g',J g→(∀ o,g.get? j = some o→g'.get? j = some o)→J g')
  (hQ:∀ g,IsEnumOut g e j ((i:Int) + 1) x s.heap.objs.size→J g→g.get? s.heap.objs.size = some { cls:=.type "tuple",data:=.seq #[.int i s.toks,x] } →
   (∀ b o,b ≠ e→b ≠ j→s.heap.get? b = some o→g.get? b = some o)→Q (.ref s.heap.objs.size) { s with heap:=g,toks:=s.toks + 1 }) :
  wpAny (model prog w) A (Builtin.«enumerate.__next__» ⟨[.ref e],[]⟩) (fun fin s'=>∃ v,fin = .done (.ret v)∧Q v s') E s:=by
 obtain ⟨h0,gs,dr,tk,os⟩:=s
 show wpAny _ _ (field (.ref e) 2 >>= _) _ _ _
 refine wpAny_bind (wpAny_field he rfl (x:=.ref j) rfl (wpAny_bind (hn _ _ fun g1 J1 b1=>?_)))
 replace b1:Heap.SameBut j h0 g1:=b1
 have e1:IsEnum g1 e j i old:=(b1.2 e hne).trans he
 show wpAny _ _ (field (.ref e) 3 >>= _) _ _ ⟨g1,gs,dr,tk,os⟩
 refine wpAny_bind (wpAny_field e1 rfl (x:=rawInt i) rfl ?_)
 show wpAny _ _ (field (.ref e) 4 >>= _) _ _ ⟨g1,gs,dr,tk,os⟩
 refine wpAny_bind (wpAny_field e1 rfl (x:=.none) rfl ?_)
 show wpAny _ _ (mkInt i >>= _) _ _ ⟨g1,gs,dr,tk,os⟩
 refine wpAny_bind (wpAny_mkInt ?_)
 show wpAny _ _ (setField (.ref e) 3 (rawInt ((i:Int) + 1)) >>= _) _ _ ⟨g1,gs,dr,tk + 1,os⟩
 refine wpAny_bind (wpAny_setField_rec e1 (by simp) fun g2 e2 b2=>?_)
 replace b2:Heap.SameBut e g1 g2:=b2
 replace e2:IsEnum g2 e j ((i:Int) + 1) old:=e2
 show wpAny _ _ (setField (.ref e) 4 .none >>= _) _ _ ⟨g2,gs,dr,tk + 1,os⟩
 refine wpAny_bind (wpAny_setField_rec e2 (by simp) fun g3 e3 b3=>?_)
 replace b3:Heap.SameBut e g2 g3:=b3
 replace e3:IsEnum g3 e j ((i:Int) + 1) old:=e3
 show wpAny _ _ (newTuple [.int i tk,x] >>= _) _ _ ⟨g3,gs,dr,tk + 1,os⟩
 refine wpAny_bind (wpAny_newTuple ?_)
 have sz:g3.objs.size = h0.objs.size:=by rw [b3.1,b2.1,b1.1]
 have lt:e < h0.objs.size:=Heap.lt_size he
 have e4:IsEnum (g3.push { cls:=.type "tuple",data:=.seq #[.int i tk,x] }) e j ((i:Int) + 1) old:=Heap.get?_push_of_some _ e3
 have J3:J g3:=hJ _ _ (hJ _ _ J1 fun o q=>b2.extBut j o (Ne.symm hne) q) fun o q=>b3.extBut j o (Ne.symm hne) q
 have J4:J (g3.push { cls:=.type "tuple",data:=.seq #[.int i tk,x] }):=hJ _ _ J3 fun o q=>Heap.get?_push_of_some _ q
 have t4:(g3.push { cls:=.type "tuple",data:=.seq #[.int i tk,x] }).get? h0.objs.size = some { cls:=.type "tuple",data:=.seq #[.int i tk,x] }:=by rw [← sz]; exact Heap.get?_push_size _ rfl
 have k4:∀ b o,b ≠ e→b ≠ j→h0.get? b = some o→(g3.push { cls:=.type "tuple",data:=.seq #[.int i tk,x] }).get? b = some o:=fun b o n1 n2 q=>Heap.get?_push_of_some _ (b3.extBut b o n1 (b2.extBut b o n1 (b1.extBut b o n2 q)))
 generalize g3.push { cls:=.type "tuple",data:=.seq #[.int i tk,x] } = g4 at e4 J4 t4 k4 ⊢
 show wpAny _ _ (Builtin.SmallTypes.ownedTupleIsFree (.ref e) >>= _) _ _ ⟨g4,gs,dr,tk + 1,os⟩
 rw [sz]
 refine wpAny_bind ?_
 unfold Builtin.SmallTypes.ownedTupleIsFree
 refine wpAny_bind (wpAny_field e4 rfl (x:=.none) rfl (wpAny_pure ?_))
 simp only [if_true]
 refine wpAny_bind (wpAny_rule (wpAny_bind (wpAny_field e4 rfl (x:=old) rfl (wpAny_bind (wpAny_setField_rec e4 (by simp) fun g5 e5 b5=>?_)))))
 replace b5:Heap.SameBut e g4 g5:=b5
 replace e5:IsEnum g5 e j ((i:Int) + 1) x:=e5
 show wpAny _ _ (Builtin.SmallTypes.ownedTupleHandOut (.ref e) (.ref h0.objs.size) >>= _) _ _ ⟨g5,gs,dr,tk + 1,os⟩
 refine wpAny_bind ?_
 unfold Builtin.SmallTypes.ownedTupleHandOut
 refine wpAny_bind (wpAny_setField_rec e5 (by simp) fun g6 e6 b6=>?_)
 replace b6:Heap.SameBut e g5 g6:=b6
 replace e6:IsEnumOut g6 e j ((i:Int) + 1) x h0.objs.size:=e6
 refine wpAny_setField_rec e6 (by simp) fun g7 e7 b7=>?_
 replace b7:Heap.SameBut e g6 g7:=b7
 replace e7:IsEnumOut g7 e j ((i:Int) + 1) x h0.objs.size:=e7
 have k7:∀ b o,b ≠ e→g4.get? b = some o→g7.get? b = some o:=fun b o n q=>b7.extBut b o n (b6.extBut b o n (b5.extBut b o n q))
 exact wpAny_bind (wpAny_letGo (wpAny_pure ⟨_,rfl,hQ g7 e7 (hJ _ _ J4 fun o q=>k7 j o (Ne.symm hne) q) (k7 _ _ (Nat.ne_of_gt lt) t4) fun b o n1 n2 q=>k7 b o n1 (k4 b o n1 n2 q)⟩))
theorem enum_next {e j:Addr} {i:Nat} {x old:Value} {J:Heap→Prop} {Q:Option Value→Shared→Prop} (he:IsEnum s.heap e j i old) (hne:e ≠ j)
  (hn:∀ (A:Around) (Q':Value→Shared→Prop) (E':Value→Shared→Prop),(∀ g,J g→Heap.SameBut j s.heap g→Q' x { s with heap:=g })→wpAny (model prog w) A (Builtin.SmallTypes.nextOf (.ref j)) Q' E' s)
  (hJ:∀ g g',J g→(∀ o,g.get? j = some o→g'.get? j = some o)→J g')
  (hQ:∀ g,IsEnumOut g e j ((i:Int) + 1) x s.heap.objs.size→J g→g.get? s.heap.objs.size = some { cls:=.type "tuple",data:=.seq #[.int i s.toks,x] } →
   (∀ b o,b ≠ e→b ≠ j→s.heap.get? b = some o→g.get? b = some o)→Q (some (.ref s.heap.objs.size)) { s with heap:=g,toks:=s.toks + 1 }):wpAny (model prog w) A (pyNext (.ref e)) Q E s:=by
 have ty:s.TypeIs (.ref e) "enumerate":=⟨_,he,rfl⟩
 unfold pyNext
 exact wpAny_bind (wpAny_attempt (wpAny_callSpecial?_slot (name:=Str.ofString "__next__") ty F.slot_enumerate_next (wpAny_call_entry F.slot_enumerate_next ty F.entry_enumerate_next (enum_core he hne (hn _) hJ fun g a b c k=>wpAny_pure (hQ g a b c k)) (F.args_enumerate_next_1 _))))
theorem enum_stop {e j:Addr} {i:Nat} {old:Value} {Q:Option Value→Shared→Prop} (hh:A.handled = none) (he:IsEnum s.heap e j i old)
  (hn:∀ (A:Around) (Q':Value→Shared→Prop) (E':Value→Shared→Prop),A.handled = none→(∀ g x,Heap.ExtBut j s.heap g→(∃ o,g.get? x = some o∧o.cls = .type "StopIteration")→E' (.ref x) { s with heap:=g })→wpAny (model prog w) A (Builtin.SmallTypes.nextOf (.ref j)) Q' E' s)
  (hQ:∀ g,Heap.ExtBut j s.heap g→Q none { s with heap:=g }):wpAny (model prog w) A (pyNext (.ref e)) Q E s:=by
 have ty:s.TypeIs (.ref e) "enumerate":=⟨_,he,rfl⟩
 unfold pyNext
 refine wpAny_bind (wpAny_attempt (wpAny_callSpecial?_slot (name:=Str.ofString "__next__") ty F.slot_enumerate_next (wpAny_call_entry F.slot_enumerate_next ty F.entry_enumerate_next ?_ (F.args_enumerate_next_1 _))))
 show wpAny _ _ (field (.ref e) 2 >>= _) _ _ _
 refine wpAny_bind (wpAny_field he rfl (x:=.ref j) rfl (wpAny_bind (hn _ _ _ hh fun g x b hx=>?_)))
 obtain ⟨o,ho,hc⟩:=hx
 exact wpAny_bind (wpAny_isInstance (T:="StopIteration") (b:=true) ⟨o,ho,hc⟩ isSubtype_stop (wpAny_pure (hQ _ b)))
theorem mk_enum (t:Addr) (vs:Array Value) (n:Nat) (dct:Option Addr) (sl:Array (Option Value)):Meets (Builtin.«enumerate.__new__» ⟨[.type "enumerate",.ref t],[]⟩) (fun _ R s=>s.heap.get? t = some { cls:=.type "tuple",dict:=dct,data:=.seq vs n,slots:=sl } ∧
   R (.ok (.ret (.ref (s.heap.push { cls:=.type "tuple_iterator",data:=.fields #[.ref t,.int 0 0] }).objs.size)))
    { s with heap:=(s.heap.push { cls:=.type "tuple_iterator",data:=.fields #[.ref t,.int 0 0] }).push { cls:=.type "enumerate",data:=.fields #[.none,.bool false,.ref s.heap.objs.size,rawInt 0,.none,.none] } }) :=
 .of_wp fun prog w A R s hyp=>by
  obtain ⟨g0,gs,dr,tk,os⟩:=s
  obtain ⟨ht,hyp⟩:=hyp
  have sub:=sub_enumerate
  have hT:Heap.IsTuple (Shared.heap ⟨g0,gs,dr,tk,os⟩) t vs:=⟨_,ht,rfl,n,rfl⟩
  wp_walk using wpAny_loadPart' ht
  refine wpAny_stack_any fun _=>wpAny_pure ?_
  split
  ·rename_i c _ _ _ _ _
   cases (c == Value.type "enumerate") <;> (wp_walk using wpAny_loadPart' ht,wpAny_pyIter_tuple hT; exact ⟨_,rfl,hyp⟩)
  ·wp_walk using wpAny_loadPart' ht,wpAny_pyIter_tuple hT
   exact ⟨_,rfl,hyp⟩
theorem call_enum_tup {t:Addr} {vs:Array Value} {Q:Value→Shared→Prop} (hT:s.heap.IsTuple t vs)
  (hyp:∀ g,IsEnum g (s.heap.objs.size + 1) s.heap.objs.size 0 .none→g.IsTupleIter s.heap.objs.size t 0→(∀ b o,s.heap.get? b = some o→g.get? b = some o)→Q (.ref (s.heap.objs.size + 1)) { s with heap:=g }):wpAny (model prog w) A (call (.type "enumerate") [.ref t]) Q E s:=by
 obtain ⟨⟨c,dct,dt,sl⟩,ht,hc,n,hd⟩:=hT
 replace hc:c = .type "tuple":=hc
 replace hd:dt = .seq vs n:=hd
 subst hc hd
 refine callType_new F.called_enumerate (by decide) (F.typeCall_enumerate_1 _) (F.newCall_enumerate_1 _) (fun ob=>F.args_object_init_2 ob _) F.entry_enumerate_new (mk_enum t vs n dct sl) ⟨ht,?_⟩
 have sz:(s.heap.push { cls:=.type "tuple_iterator",data:=.fields #[.ref t,.int 0 0] }).objs.size = s.heap.objs.size + 1:=Heap.size_push ..
 show _∧_
 rw [sz]
 have he:=Heap.get?_push_size (s.heap.push { cls:=.type "tuple_iterator",data:=.fields #[.ref t,.int 0 0] }) (o:={ cls:=.type "enumerate",data:=.fields #[.none,.bool false,.ref s.heap.objs.size,rawInt 0,.none,.none] }) rfl
 rw [sz] at he
 exact ⟨⟨_,he,rfl⟩,hyp _ he ⟨_,Heap.get?_push_of_some _ (Heap.get?_push_size _ rfl),rfl,rfl⟩ fun b o q=>Heap.get?_push_of_some _ (Heap.get?_push_of_some _ q)⟩
end
def Ite (Sq:Hp→Addr→List V→Prop) (a:Addr):It :=
 ⟨fun i H=>∃ xs x,Sq H a xs∧xs[i]? = some x,fun i H x H'=>∃ p v,H p = none∧x = .ref p∧H' = upd H p (.tup [.int i,v])∧∀ xs,Sq H a xs→xs[i]? = some v,fun i H=>∃ xs,Sq H a xs∧xs.length ≤ i⟩
theorem turn_enumT {P:Program} {w:World} {K:PySem.W.Frag} {elts:List Expr} {n:Nat} {pos:Pos} (a e j:Addr) (hej:e ≠ j):Turn P w K (.Tuple elts n pos) (Ite (SqT K) a) [e,j] e (fun i h=>(∃ old,IsEnum h e j i old)∧h.IsTupleIter j a i) where
 mem:=by simp
 obj:=fun i h ⟨⟨old,he⟩,hj⟩ b hb=>by
  rcases List.mem_cons.mp hb with rfl | hb
  ·exact ⟨_,he,fun v z=>by
    have z':Data.fields _ = Data.cell v:=z
    cases z'⟩
  ·rw [List.mem_singleton.mp hb]
   obtain ⟨o,q,c,d⟩:=hj
   exact ⟨o,q,fun v z=>by rw [d] at z; cases z⟩
 keep:=fun i h h' ⟨⟨old,he⟩,hj⟩ k=>⟨⟨old,k e (by simp) _ he⟩,hj.at fun o q=>k j (by simp) o q⟩
 item:=by
  intro X hP hw hK hc i pins s σ H E I hf ⟨⟨old,he⟩,hj⟩ hg
  subst hP hw hK
  obtain ⟨xs,x,hq,hx⟩:=hg
  obtain ⟨its,rv,p,hz⟩:=I.tuple hq
  obtain ⟨u,hu,ru⟩:=rv.get hx
  have hT:s.heap.IsTuple a its.toArray:=p
  refine enum_next (J:=fun g=>g.IsTupleIter j a (i + 1)) he hej (fun A' Q' E' k=>nextOf_tup hj hT (x:=u) (by simpa using hu) k) (fun g g' z k=>z.at k) fun g e1 j1 t1 k1=>?_
  refine ⟨_,rfl,wpAny_letOwnedTupleGo_enum (s:={ s with heap:=g,toks:=s.toks + 1 }) e1 fun g' e2 b2=>?_⟩
  have lt:e < s.heap.objs.size:=Heap.lt_size he
  have ltj:j < s.heap.objs.size:=by
   obtain ⟨_,q,_⟩:=hj
   exact Heap.lt_size q
  have t2:g'.get? s.heap.objs.size = some { cls:=.type "tuple",data:=.seq #[.int i s.toks,u] }:=(b2.2 _ (Nat.ne_of_gt lt)).trans t1
  have neT:H s.heap.objs.size = none:=I.hok.fresh (Nat.le_refl _)
  refine ⟨.ref s.heap.objs.size,upd H s.heap.objs.size (.tup [.int i,x]),I.turnLaid (ch:=[e,j]) (t':=s.toks + 1) (fun b o nb q=>(b2.2 b fun z=>nb (by simp [z])).trans (k1 b o (fun z=>nb (by simp [z])) (fun z=>nb (by simp [z])) q)) hf (Nat.le_refl _) ?_,rfl,
   ⟨_,x,neT,rfl,rfl,fun ys hy=>by rw [I.tuple_inj hy hq]; exact hx⟩,⟨⟨u,by simpa using e2⟩,j1.at fun o q=>(b2.2 j (Ne.symm hej)).trans q⟩,fun b hb=>?_⟩
  ·refine ⟨⟨by show 2 ≤ sizeLine; decide,_,t2,rfl⟩,[.int i s.toks,u],.cons ⟨s.toks,rfl⟩ (.cons ru .nil),⟨_,t2,rfl,_,rfl⟩⟩
  ·rcases List.mem_cons.mp hb with rfl | hb
   ·rw [upd_ne (Nat.ne_of_lt lt)]
    exact (hf _ (by simp)).1
   ·rw [List.mem_singleton.mp hb,upd_ne (Nat.ne_of_lt ltj)]
    exact (hf _ (by simp)).1
 done:=by
  intro X hP hw hK hc i pins s σ H E I hf ⟨⟨old,he⟩,hj⟩ hg
  subst hP hw hK
  obtain ⟨xs,hq,hx⟩:=hg
  obtain ⟨its,rv,p,hz⟩:=I.tuple hq
  have hT:s.heap.IsTuple a its.toArray:=p
  have hl:=rv.length
  exact enum_stop (I.ok.hd hc) he (fun A' Q' E' h0 k=>nextOf_tup_end h0 hj hT (by simp; omega) k) fun g b=>⟨rfl,I.turnedN (ch:=[e,j]) (t':=s.toks) (fun b' o nb q=>b b' o (fun z=>nb (by simp [z])) q) hf⟩
 self:=fun _ _ _ _ _ st h=>by
  obtain ⟨⟨old,he⟩,_⟩:=st
  exact wpAny_pyIter_enum he h
theorem turn_enumL {P:Program} {w:World} {K:PySem.W.Frag} {elts:List Expr} {n:Nat} {pos:Pos} (a e j:Addr) (hej:e ≠ j):Turn P w K (.Tuple elts n pos) (Ite (SqL K) a) [e,j] e (fun i h=>(∃ old,IsEnum h e j i old)∧h.IsListIter j a i) where
 mem:=by simp
 obj:=fun i h ⟨⟨old,he⟩,hj⟩ b hb=>by
  rcases List.mem_cons.mp hb with rfl | hb
  ·exact ⟨_,he,fun v z=>by
    have z':Data.fields _ = Data.cell v:=z
    cases z'⟩
  ·rw [List.mem_singleton.mp hb]
   obtain ⟨o,q,c,d⟩:=hj
   exact ⟨o,q,fun v z=>by rw [d] at z; cases z⟩
 keep:=fun i h h' ⟨⟨old,he⟩,hj⟩ k=>⟨⟨old,k e (by simp) _ he⟩,hj.at fun o q=>k j (by simp) o q⟩
 item:=by
  intro X hP hw hK hc i pins s σ H E I hf ⟨⟨old,he⟩,hj⟩ hg
  subst hP hw hK
  obtain ⟨xs,x,hq,hx⟩:=hg
  obtain ⟨its,rv,p,hz⟩:=I.list hq
  obtain ⟨u,hu,ru⟩:=rv.get hx
  have hT:s.heap.IsList a its.toArray:=p.isList
  refine enum_next (J:=fun g=>g.IsListIter j a (i + 1)) he hej (fun A' Q' E' k=>wpAny_nextOf_list_item hj hT (x:=u) (by simpa using hu) k) (fun g g' z k=>z.at k) fun g e1 j1 t1 k1=>?_
  refine ⟨_,rfl,wpAny_letOwnedTupleGo_enum (s:={ s with heap:=g,toks:=s.toks + 1 }) e1 fun g' e2 b2=>?_⟩
  have lt:e < s.heap.objs.size:=Heap.lt_size he
  have ltj:j < s.heap.objs.size:=by
   obtain ⟨_,q,_⟩:=hj
   exact Heap.lt_size q
  have t2:g'.get? s.heap.objs.size = some { cls:=.type "tuple",data:=.seq #[.int i s.toks,u] }:=(b2.2 _ (Nat.ne_of_gt lt)).trans t1
  have neT:H s.heap.objs.size = none:=I.hok.fresh (Nat.le_refl _)
  refine ⟨.ref s.heap.objs.size,upd H s.heap.objs.size (.tup [.int i,x]),I.turnLaid (ch:=[e,j]) (t':=s.toks + 1) (fun b o nb q=>(b2.2 b fun z=>nb (by simp [z])).trans (k1 b o (fun z=>nb (by simp [z])) (fun z=>nb (by simp [z])) q)) hf (Nat.le_refl _) ?_,rfl,
   ⟨_,x,neT,rfl,rfl,fun ys hy=>by rw [I.list_inj hy hq]; exact hx⟩,⟨⟨u,by simpa using e2⟩,j1.at fun o q=>(b2.2 j (Ne.symm hej)).trans q⟩,fun b hb=>?_⟩
  ·refine ⟨⟨by show 2 ≤ sizeLine; decide,_,t2,rfl⟩,[.int i s.toks,u],.cons ⟨s.toks,rfl⟩ (.cons ru .nil),⟨_,t2,rfl,_,rfl⟩⟩
  ·rcases List.mem_cons.mp hb with rfl | hb
   ·rw [upd_ne (Nat.ne_of_lt lt)]
    exact (hf _ (by simp)).1
   ·rw [List.mem_singleton.mp hb,upd_ne (Nat.ne_of_lt ltj)]
    exact (hf _ (by simp)).1
 done:=by
  intro X hP hw hK hc i pins s σ H E I hf ⟨⟨old,he⟩,hj⟩ hg
  subst hP hw hK
  obtain ⟨xs,hq,hx⟩:=hg
  obtain ⟨its,rv,p,hz⟩:=I.list hq
  have hT:s.heap.IsList a its.toArray:=p.isList
  have hl:=rv.length
  exact enum_stop (I.ok.hd hc) he (fun A' Q' E' h0 k=>wpAny_nextOf_list_end h0 hj hT (by simp; omega) k) fun g b=>⟨rfl,I.turnedN (ch:=[e,j]) (t':=s.toks) (fun b' o nb q=>b b' o (fun z=>nb (by simp [z])) q) hf⟩
 self:=fun _ _ _ _ _ st h=>by
  obtain ⟨⟨old,he⟩,_⟩:=st
  exact wpAny_pyIter_enum he h
section
variable {X:Cx} {elts:List Expr} {n:Nat} {tpos:Pos}
theorem boot_enumerate:bootBuiltins "enumerate" = some (.type "enumerate"):=by decide +kernel
end
def enumD (i:Nat):List PyData→List PyData
 | []=>[]
 | d :: ds=>.tuple [.int i,d] :: enumD (i + 1) ds
theorem enumD_length:∀ (ds:List PyData) (i:Nat),(enumD i ds).length = ds.length
 | [],_=>rfl
 | d :: ds,i=>by simp [enumD,enumD_length ds (i + 1)]
theorem enumD_get:∀ (ds:List PyData) (i k:Nat) (d:PyData),(enumD i ds)[k]? = some d→∃ e,ds[k]? = some e∧d = .tuple [.int ((i + k:Nat):Int),e]
 | [],_,_,_,h=>by simp [enumD] at h
 | c :: ds,i,0,d,h=>by
  have e:PyData.tuple [.int i,c] = d:=by simpa [enumD] using h
  exact ⟨c,rfl,by rw [← e]; rfl⟩
 | c :: ds,i,k + 1,d,h=>by
  obtain ⟨e,h1,h2⟩:=enumD_get ds (i + 1) k d (by simpa [enumD] using h)
  exact ⟨e,by simpa using h1,by rw [h2]; congr 3; omega⟩
theorem pe_globI {X:Cx} {x:Str} {i:Int} {pos:Pos} (hg:Gl X x) (hm:∃ t,X.mg x = some (.int i t)) (hd:(x == ("__debug__":Str)) = false:=by decide):PE X (.Name x pos) (tC (.int i)):=by
 obtain ⟨t,e⟩:=hm
 exact pe_glob hg e ⟨t,rfl⟩ hd
end L2
set_option Elab.async false
set_option linter.all false
set_option maxRecDepth 100000
set_option maxHeartbeats 1000000
namespace L2
open PySem PySem.Spec PyProof.Rows
def dIx:D2:=fun x y S R=>asI y fun i=>match x with
 | .d (.tuple ds)=>∃ d,atI ds i = some d∧R (.d d) S
 | .d (.list ds)=>∃ d,atI ds i = some d∧R (.d d) S
 | .l k=>∃ ds,S[k]? = some ds∧∃ d,atI ds i = some d∧R (.d d) S
 | .d (.str z)=>z.length ≤ sizeLine∧∃ c,atI z.cps.toList i = some c∧R (.d (.str ⟨#[c]⟩)) S
 | _=>False
theorem ro_ixS:RO rIxS (fun x y S R=>asS x fun z=>asI y fun i=>z.length ≤ sizeLine∧∃ c,atI z.cps.toList i = some c∧R (.d (.str ⟨#[c]⟩)) S):=fun h o H S x y v u R Q hs hx hy q c=>by
 replace q:=asS_ex q
 obtain ⟨z,rfl,q⟩:=q
 replace q:=asI_ex q
 obtain ⟨i,rfl,hz,k,ek,q⟩:=q
 exact ⟨z,i,k,hx_str hx,hx_int hy,hz,ek,c o H S _ _ Ex.refl hs (xS _) q⟩
theorem ro_ix {K:PySem.W.Frag}:RO (rIx K) dIx:=fun h o H S x y v u R Q hs hx hy q c=>by
 replace q:=asI_ex q
 obtain ⟨i,rfl,q⟩:=q
 split at q
 ·exact .inr (.inl (ro_ixT h o H S _ _ v u R Q hs hx hy q c))
 ·exact .inl (ro_ixL h o H S _ _ v u R Q hs hx hy ⟨_,rfl,q⟩ c)
 ·exact .inl (ro_ixL h o H S _ _ v u R Q hs hx hy q c)
 ·exact .inr (.inr (ro_ixS h o H S _ _ v u R Q hs hx hy q c))
 ·exact q.elim
section
variable {S:Sto} {R:RX} {ds:List PyData} {i:Int} {k:Nat} {z:Str}
theorem dIx_t:dIx (.d (.tuple ds)) (.d (.int i)) S R = ∃ d,atI ds i = some d∧R (.d d) S:=rfl
theorem dIx_l:dIx (.d (.list ds)) (.d (.int i)) S R = ∃ d,atI ds i = some d∧R (.d d) S:=rfl
theorem dIx_k:dIx (.l k) (.d (.int i)) S R = ∃ ds,S[k]? = some ds∧∃ d,atI ds i = some d∧R (.d d) S:=rfl
end
def rSlG (K:PySem.W.Frag):V→Option Int→Option Int→Hp→VK→Prop:=fun x a b H Q=>rSlL K x a b H Q∨(rSlT K x a b H Q∨rSlS x a b H Q)
theorem sl_seq {X:Cx}:SlR X (rSlG X.K):=sl_list.or (sl_tup.or sl_str)
def dSlG:D3:=fun x i j S R=>match x with
 | .d (.tuple ds)=>¬ (HT.sIx ds.length 0 i = 0∧HT.sIx ds.length ds.length j = ds.length)∧R (.d (.tuple (cutL ds i j))) S
 | .d (.list ds)=>R (.d (.list (cutL ds i j))) S
 | .l k=>∃ ds,S[k]? = some ds∧R (.d (.list (cutL ds i j))) S
 | .d (.str z)=>z.length ≤ sizeLine∧R (.d (.str (PySem.Txt.slice z i j))) S
 | _=>False
theorem rl_seq {K:PySem.W.Frag}:RL (rSlG K) dSlG:=fun h o H S x v a b R Q hs hx q c=>by
 unfold dSlG at q
 split at q
 ·exact .inr (.inl (rl_tup h o H S _ v a b R Q hs hx q c))
 ·exact .inl (rl_list h o H S _ v a b R Q hs hx ⟨_,rfl,q⟩ c)
 ·exact .inl (rl_list h o H S _ v a b R Q hs hx q c)
 ·exact .inr (.inr ⟨_,hx_str hx,q.1,c o H S _ _ Ex.refl hs (xS _) q.2⟩)
 ·exact q.elim
section
variable {S:Sto} {R:RX} {ds:List PyData} {i j:Option Int} {k:Nat} {z:Str}
theorem dSlG_l:dSlG (.d (.list ds)) i j S R = R (.d (.list (cutL ds i j))) S:=rfl
end
def rCatT0 (K:PySem.W.Frag):R2:=fun x y H Q=>∃ a b ys,x = .ref a∧y = .ref b∧SqT K H a []∧SqT K H b ys∧Q (.ref b) H
theorem op_catT0 {X:Cx}:OpR X (binaryOp .Add) (rCatT0 X.K):=by
 intro pins s σ H x y v u Q I rx ry h
 obtain ⟨a,b,ys,rfl,rfl,ha,hb,q⟩:=h
 cases rx
 cases ry
 obtain ⟨its,r1,p1,_⟩:=I.tuple ha
 obtain ⟨its2,r2,p2,_⟩:=I.tuple hb
 cases r1
 obtain ⟨⟨c1,d1,e1,l1⟩,o1,w1,n1,k1⟩:=id p1
 obtain ⟨⟨c2,d2,e2,l2⟩,o2,w2,n2,k2⟩:=id p2
 simp only at w1 k1 w2 k2
 subst w1 k1 w2 k2
 exact concat_meets ⟨_,o1,rfl⟩ ⟨_,o2,rfl⟩ noFill_tuple_add seq_tuple_add PySem.F.slot_tuple_add PySem.F.entry_tuple_add (PySem.F.args_tuple_add_2 _ _) (tuple_addW0 a b _ _ n1 n2 d1 d2 l1 l2 (by simp)) ⟨o1,o2,⟨.ref b,H,I,rfl,q⟩⟩
def rAddG (K:PySem.W.Frag):R2:=fun x y H Q=>rI0 (fun i j=>.int (i + j)) x y H Q∨(rCat x y H Q∨(rCatT K x y H Q∨(rCatT0 K x y H Q∨∃ i j,x = .str i∧y = .str j∧i.length + j.length ≤ sizeLine∧Q (.str (i ++ j)) H)))
theorem op_addG {X:Cx}:OpR X (binaryOp .Add) (rAddG X.K):=op_add.or (op_cat.or (op_catT.or (op_catT0.or op_add_str)))
def dAdd:D2:=fun x y S R=>match x,y with
 | .d (.int i),.d (.int j)=>R (.d (.int (i + j))) S
 | .d (.tuple ds),.d (.tuple es)=>ds.length + es.length ≤ 1000∧R (.d (.tuple (ds ++ es))) S
 | .d (.str a),.d (.str b)=>a.length + b.length ≤ sizeLine∧R (.d (.str (a ++ b))) S
 | x,y=>asL S x fun ds=>asL S y fun es=>ds.length + es.length ≤ 1000∧R (.d (.list (ds ++ es))) S
theorem ro_add {K:PySem.W.Frag}:RO (rAddG K) dAdd:=fun h o H S x y v u R Q hs hx hy q c=>by
 unfold dAdd at q
 split at q
 ·exact .inl (ro_I0 h o H S _ _ v u R Q hs hx hy q c)
 ·rename_i ds es
  cases ds with
  | cons d ds=>exact .inr (.inr (.inl (ro_catT h o H S _ _ v u R Q hs hx hy ⟨by simp,q⟩ c)))
  | nil =>
   obtain ⟨a,vs,rfl,ea,l⟩:=hx_tup hx
   obtain ⟨b,us,rfl,eb,l'⟩:=hx_tup hy
   rw [hasL_nil.mp l] at ea
   exact .inr (.inr (.inr (.inl ⟨a,b,us,rfl,rfl,.of ea,.of eb,c o H S (.d (.tuple es)) _ Ex.refl hs hy q.2⟩)))
 ·exact .inr (.inr (.inr (.inr ⟨_,_,hx_str hx,hx_str hy,q.1,c o H S _ _ Ex.refl hs (xS _) q.2⟩)))
 ·exact .inr (.inl (ro_cat h o H S _ _ v u R Q hs hx hy q c))
section
variable {S:Sto} {R:RX} {ds es:List PyData} {i j:Int} {k l:Nat} {a b:Str}
theorem dAdd_i:dAdd (.d (.int i)) (.d (.int j)) S R = R (.d (.int (i + j))) S:=rfl
theorem dAdd_t:dAdd (.d (.tuple ds)) (.d (.tuple es)) S R = (ds.length + es.length ≤ 1000∧R (.d (.tuple (ds ++ es))) S):=rfl
theorem dAdd_ll:dAdd (.d (.list ds)) (.d (.list es)) S R ↔ (ds.length + es.length ≤ 1000∧R (.d (.list (ds ++ es))) S):=⟨fun ⟨_,e,_,e',q⟩=>by cases e; cases e'; exact q,fun q=>⟨_,rfl,_,rfl,q⟩⟩
theorem dAdd_kl:dAdd (.l k) (.d (.list es)) S R ↔ ∃ ds,S[k]? = some ds∧ds.length + es.length ≤ 1000∧R (.d (.list (ds ++ es))) S:=⟨fun ⟨_,e,_,e',q⟩=>by cases e'; exact ⟨_,e,q⟩,fun ⟨_,e,q⟩=>⟨_,e,_,rfl,q⟩⟩
end
def rMulG:R2:=fun x y H Q=>rI IntMulOk (fun i j=>.int (i * j)) x y H Q∨(rMulS x y H Q∨rRep x y H Q)
theorem op_mulG {X:Cx}:OpR X (binaryOp .Mult) rMulG:=op_mulX.or (op_mulS.or op_rep)
def dMul:D2:=fun x y S R=>asI y fun j=>match x with
 | .d (.int i)=>IntMulOk i j∧R (.d (.int (i * j))) S
 | .d (.str z)=>z.length ≤ 1000∧j ≤ 1000∧-1000 ≤ j∧R (.d (.str (PySem.Txt.mul z j))) S
 | .d (.list ds)=>j ≤ 1000∧-1000 ≤ j∧ds.length * j.toNat ≤ 1000∧R (.d (.list (List.replicate j.toNat ds).flatten)) S
 | _=>False
theorem HasL.rep {H:Hp} {ds:List PyData} {vs:List V} (l:HasL H ds vs):∀ n:Nat,HasL H (List.replicate n ds).flatten (List.replicate n vs).flatten
 | 0=>hasL_nil.mpr rfl
 | n + 1=>by
  rw [List.replicate_succ,List.replicate_succ,List.flatten_cons,List.flatten_cons]
  exact l.append (HasL.rep l n)
theorem ro_mul:RO rMulG dMul:=fun h o H S x y v u R Q hs hx hy q c=>by
 replace q:=asI_ex q
 obtain ⟨j,rfl,q⟩:=q
 split at q
 ·exact .inl (ro_I h o H S _ _ v u R Q hs hx hy q c)
 ·exact .inr (.inl ⟨_,_,hx_str hx,hx_int hy,q.1,q.2.1,q.2.2.1,c o H S _ _ Ex.refl hs (xS _) q.2.2.2⟩)
 ·obtain ⟨a,vs,rfl,ea,l⟩:=hx_lst (x:=.d (.list _)) hs rfl hx
  obtain ⟨h1,h2,h3,q⟩:=q
  exact .inr (.inr ⟨a,j,vs,rfl,hx_int hy,ea,by omega,by omega,by rw [l.length]; exact Nat.le_of_lt (small1000 h3),mkLst hs (l.rep j.toNat) c q⟩)
 ·exact q.elim
section
variable {S:Sto} {R:RX} {i j:Int} {z:Str} {ds:List PyData}
theorem dMul_i:dMul (.d (.int i)) (.d (.int j)) S R = (IntMulOk i j∧R (.d (.int (i * j))) S):=rfl
end
def rFdG:R2:=fun x y H Q=>rI CDivX (fun i j=>.int (i / j)) x y H Q∨rI CDivN (fun i j=>.int (i.fdiv j)) x y H Q
theorem op_fdG {X:Cx}:OpR X (binaryOp .FloorDiv) rFdG:=op_fdivX.or op_fdivN
def dFd:D2:=fun x y S R=>asI x fun i=>asI y fun j=>(CDivX i j∧R (.d (.int (i / j))) S)∨(CDivN i j∧R (.d (.int (i.fdiv j))) S)
theorem ro_fd:RO rFdG dFd:=fun h o H S x y v u R Q hs hx hy q c=>by
 replace q:=asI_ex q
 obtain ⟨i,rfl,q⟩:=q
 replace q:=asI_ex q
 obtain ⟨j,rfl,q⟩:=q
 rcases q with q | q
 ·exact .inl (ro_I (C:=CDivX) (g:=fun i j=>i / j) h o H S _ _ v u R Q hs hx hy q c)
 ·exact .inr (ro_I (C:=CDivN) (g:=fun i j=>i.fdiv j) h o H S _ _ v u R Q hs hx hy q c)
def truX (S:Sto):XV→Option Bool
 | .d .none=>some false
 | .d (.bool b)=>some b
 | .d (.int i)=>some (i != 0)
 | .d (.str z)=>if z.length ≤ sizeLine then some ((z.length:Int) != 0) else none
 | .d (.list ds)=>some (!ds.isEmpty)
 | .d (.tuple ds)=>some (!ds.isEmpty)
 | .l k=>(S[k]?).map fun ds=>!ds.isEmpty
 | _=>none
def dTru (a:DE):DT:=fun δ S R=>a δ S fun x S1=>∃ k,truX S1 x = some k∧R k S1
theorem isEmpty_has {H:Hp} {ds:List PyData} {vs:List V} (l:HasL H ds vs):(!ds.isEmpty) = !vs.isEmpty:=by
 have:=l.length
 cases ds <;> cases vs <;> simp_all
theorem rt_tru {K:PySem.W.Frag} {ta:TE} {da:DE} (ha:RE ta da):RT (fun σ H Q=>ta σ H fun x H'=>∃ k,TruV K x H' k∧Q k H') (dTru da):=fun h o H δ σ S R Q he hs q c =>
 ha h o H δ σ S _ _ he hs q fun o1 H1 S1 x v e1 s1 x1 ⟨k,ek,d1⟩=>by
  refine ⟨k,?_,c o1 H1 S1 k e1 s1 d1⟩
  unfold truX at ek
  split at ek
  ·cases ek; rw [(has_none (H:=vx h o1 H1)).mp x1]; rfl
  ·cases ek; rw [hx_bool x1]; rfl
  ·cases ek; rw [hx_int x1]; rfl
  ·split at ek
   ·rename_i hz
    cases ek; rw [hx_str x1]; exact ⟨hz,rfl⟩
   ·cases ek
  ·obtain ⟨a,vs,rfl,ea,l⟩:=hx_lst (x:=.d (.list _)) s1 rfl x1
   cases ek
   exact .inl ⟨vs,.of ea,isEmpty_has l⟩
  ·obtain ⟨a,vs,rfl,ea,l⟩:=hx_tup x1
   cases ek
   exact .inr (.inl ⟨vs,.of ea,isEmpty_has l⟩)
  ·rename_i j _
   cases hj:S1[j]? with
   | none=>rw [hj] at ek; cases ek
   | some ds =>
    rw [hj] at ek
    cases ek
    obtain ⟨a,vs,rfl,ea,l⟩:=hx_lst (x:=.l j) s1 hj x1
    exact .inl ⟨vs,.of ea,isEmpty_has l⟩
  ·cases ek
section
variable {S:Sto} {b:Bool} {i:Int} {ds:List PyData} {k:Nat}
theorem truX_b:truX S (.d (.bool b)) = some b:=rfl
theorem truX_l:truX S (.d (.list ds)) = some (!ds.isEmpty):=rfl
end
def dNever:DS:=fun _ _ _=>False
theorem rs_never:RS tNever dNever:=fun h o H δ σ S E D he hs q c=>q.elim
def iSeq (K:PySem.W.Frag) (tl:TE):TI:=fun σ H R=>tl σ H fun x H1=>∃ a,x = .ref a∧(((∃ xs,SqL K H1 a xs)∧R (Itl K a) H1)∨((∃ xs,SqT K H1 a xs)∧R (Itt K a) H1))
theorem pi_seq {X:Cx} {tg:Expr} {l:Expr} {tl:TE} (hl:PE X l tl):PI X tg l (iSeq X.K tl):=by
 intro pins s σ H R I h
 refine thn (hl pins s σ H _ I h) fun v s1 ⟨x,H1,I1,r1,q1⟩=>?_
 obtain ⟨a,e,⟨⟨xs,hq⟩,q⟩ | ⟨⟨xs,hq⟩,q⟩⟩:=q1
 ·subst e
  cases r1
  obtain ⟨its,rv,p,hz⟩:=I1.list hq
  refine wpAny_pyIter_list p.isList ?_
  refine ⟨s1.heap.objs.size,[s1.heap.objs.size],_,_,H1,rfl,I1.kept (t':=s1.toks) fun b o e=>Heap.get?_push_of_some _ e,turn_list a _,⟨_,Heap.get?_push_size _ rfl,rfl,rfl⟩,fun b hb=>?_,q⟩
  have e:b = s1.heap.objs.size:=by simpa using hb
  subst e
  exact I1.fpOk (Nat.le_refl _) (I1.hok.fresh (Nat.le_refl _))
 ·subst e
  cases r1
  obtain ⟨its,rv,p,hz⟩:=I1.tuple hq
  refine wpAny_pyIter_tuple (show s1.heap.IsTuple a its.toArray from p) ?_
  refine ⟨s1.heap.objs.size,[s1.heap.objs.size],_,_,H1,rfl,I1.kept (t':=s1.toks) fun b o e=>Heap.get?_push_of_some _ e,turn_tuple a _,⟨_,Heap.get?_push_size _ rfl,rfl,rfl⟩,fun b hb=>?_,q⟩
  have e:b = s1.heap.objs.size:=by simpa using hb
  subst e
  exact I1.fpOk (Nat.le_refl _) (I1.hok.fresh (Nat.le_refl _))
def seqD:XV→Option (List PyData)
 | .d (.list ds)=>some ds
 | .d (.tuple ds)=>some ds
 | _=>none
theorem seqD_l {ds:List PyData}:seqD (.d (.list ds)) = some ds:=rfl
theorem seqD_t {ds:List PyData}:seqD (.d (.tuple ds)) = some ds:=rfl
def diSeq (e:DE):DI:=fun δ S R=>e δ S fun x S1=>∃ ds,seqD x = some ds∧R ds S1
theorem ri_seq {K:PySem.W.Frag} {te:TE} {de:DE} (he':RE te de):RI (iSeq K te) (diSeq de):=fun h o H δ σ S R Q he hs q c =>
 he' h o H δ σ S _ _ he hs q fun o1 H1 S1 x v e1 s1 x1 ⟨ds,ex,d1⟩=>by
  unfold seqD at ex
  split at ex
  ·cases ex
   obtain ⟨a,vs,rfl,ea,l⟩:=has_list.mp (show Has _ _ _ from x1)
   have hl:=l.length
   refine ⟨a,rfl,.inl ⟨⟨vs,.of (vx_full _ _ ea)⟩,c o1 H1 S1 ds _ e1 s1 ⟨fun i o2 H2 e2 hi=>⟨vs,.of (vx_full _ _ (e2.vx _ _ ea)),by omega⟩,fun i d o2 H2 e2 hi=>?_,fun i d o2 H2 x H3 S2 e2 s2 hi y=>?_⟩ d1⟩⟩
   ·obtain ⟨v,ev,_⟩:=l.get hi
    exact ⟨vs,v,.of (vx_full _ _ (e2.vx _ _ ea)),ev⟩
   ·obtain ⟨v,ev,hv⟩:=l.get hi
    have e3:H3 = H2:=y.1
    subst e3
    have ex:=y.2 vs (.of (vx_full _ _ (e2.vx _ _ ea)))
    rw [ev] at ex
    cases ex
    exact ⟨Same.refl _,hv.mono e2.vx⟩
  ·cases ex
   obtain ⟨a,vs,rfl,ea,l⟩:=has_tuple.mp (show Has _ _ _ from x1)
   have hl:=l.length
   refine ⟨a,rfl,.inr ⟨⟨vs,.of (vx_full _ _ ea)⟩,c o1 H1 S1 ds _ e1 s1 ⟨fun i o2 H2 e2 hi=>⟨vs,.of (vx_full _ _ (e2.vx _ _ ea)),by omega⟩,fun i d o2 H2 e2 hi=>?_,fun i d o2 H2 x H3 S2 e2 s2 hi y=>?_⟩ d1⟩⟩
   ·obtain ⟨v,ev,_⟩:=l.get hi
    exact ⟨vs,v,.of (vx_full _ _ (e2.vx _ _ ea)),ev⟩
   ·obtain ⟨v,ev,hv⟩:=l.get hi
    have e3:H3 = H2:=y.1
    subst e3
    have ex:=y.2 vs (.of (vx_full _ _ (e2.vx _ _ ea)))
    rw [ev] at ex
    cases ex
    exact ⟨Same.refl _,hv.mono e2.vx⟩
  ·cases ex
def dFrz (dt:DS):DS:=fun E δ S=>dt { E with nx:=fun δ' S'=>∃ S0 ds,S' = S0 ++ [ds]∧S.length ≤ S0.length∧E.nx (δ'.map (frz S0.length ds)) S0 } δ S
theorem rs_frz {t:TS} {dt:DS} (ht:RS t dt):RS t (dFrz dt):=fun h o H δ σ S E D he hs q c=>by
 refine ht h o H δ σ S _ D he hs q ⟨fun o' H' δ' S' σ' e he' hs' ⟨S0,ds,eS,hl,n⟩=>?_,c.rt,c.bk,c.ct⟩
 subst eS
 obtain ⟨r,rfl⟩:=e.pre
 have hL:=hs'.len
 simp only [List.length_append,List.length_singleton] at hL
 have hS:=hs.len
 have rne:r ≠ []:=fun z=>by subst z; simp at hL; omega
 obtain ⟨r0,a,rfl⟩:∃ r0 a,r = r0 ++ [a]:=⟨r.dropLast,r.getLast rne,(List.dropLast_concat_getLast rne).symm⟩
 have hS0:S0.length = (o ++ r0).length:=by simp at hL ⊢; omega
 rw [← List.append_assoc] at hs' he' e
 have nd:=List.nodup_append.mp hs'.nd
 have na:a ∉ o ++ r0:=fun m=>nd.2.2 a m a (by simp) rfl
 have nh:a ∉ h:=hs'.dis a (by simp)
 refine c.nx (o ++ r0) H' _ S0 σ' ⟨⟨r0,rfl⟩,fun b u hb eb=>?_⟩ ⟨by rw [List.length_map]; exact he'.len,fun i x ex=>?_⟩ (hs'.pop hS0) n
 ·obtain ⟨z1,z2⟩:=e.kp b u hb eb
  exact ⟨fun m=>z1 (List.mem_append_left _ m),z2⟩
 ·rw [List.getElem?_map] at ex
  obtain ⟨y,ey,ex⟩:=Option.map_eq_some_iff.mp ex
  match y,ey,ex with
  | none,ey,ex=>cases ex
  | some (.d d),ey,ex =>
   cases ex
   obtain ⟨v,e1,e2⟩:=he'.get i _ ey
   exact ⟨v,e1,Has.mono vx_pop d v e2⟩
  | some (.o w),ey,ex =>
   cases ex
   exact he'.get i _ ey
  | some (.x C fs),ey,ex =>
   cases ex
   obtain ⟨v,e1,e2⟩:=he'.get i _ ey
   exact ⟨v,e1,HasE.mono vx_pop e2⟩
  | some (.l k),ey,ex =>
   obtain ⟨v,e1,b,eb,rfl⟩:=he'.get i _ ey
   unfold frz at ex
   by_cases hk:k = S0.length
   ·simp only [hk,↓reduceIte] at ex
    cases ex
    rw [hk,hS0,List.getElem?_concat_length] at eb
    cases eb
    obtain ⟨vs,ev,l⟩:=hs'.cont k a ds (by rw [hk,hS0,List.getElem?_concat_length]) (by rw [hk,List.getElem?_concat_length])
    exact ⟨_,e1,has_list.mpr ⟨a,vs,rfl,vx_iff.mpr ⟨nh,na,ev⟩,l.mono vx_pop⟩⟩
   ·simp only [hk,↓reduceIte] at ex
    cases ex
    have hlt:=(List.getElem?_eq_some_iff.mp eb).1
    simp only [List.length_append,List.length_singleton] at hlt
    simp only [List.length_append] at hS0
    rw [List.getElem?_append_left (by simp only [List.length_append]; omega)] at eb
    exact ⟨_,e1,b,eb,rfl⟩
section
variable {t1 t2 t3 t4 t5 t6 t7 t8:TS} {d:DS}
theorem rs_as2 (h:RS (tSeq (tSeq t1 t2) t3) d):RS (tSeq t1 (tSeq t2 t3)) d:=h
end
end L2
set_option Elab.async false
set_option linter.all false
set_option maxRecDepth 100000
set_option maxHeartbeats 1000000
namespace L2
open PySem PySem.Spec PyProof.Rows
abbrev PN:=List XV→Sto→RX→Prop
def lfN (q:PN):List V→Hp→VK→Prop:=fun vs H Q=>∃ h o S xs R,RepS h o H S∧HasXs h o H xs vs∧q xs S R∧Cn h o H R Q
def spN (ps:List Str) (q:PN):Sp:=fun vs H Q _=>vs.length = ps.length∧lfN q vs H Q
theorem HasXs.len {h o:List Addr} {H:Hp}:∀ {xs:List XV} {vs:List V},HasXs h o H xs vs→vs.length = xs.length
 | [],vs,q=>by rw [show vs = [] from q]; rfl
 | x :: xs,vs,⟨v,r,e,_,l⟩=>by rw [e,List.length_cons,List.length_cons,HasXs.len l]
theorem HasXs.get {h o:List Addr} {H:Hp}:∀ {xs:List XV} {vs:List V} {i:Nat} {x:XV},HasXs h o H xs vs→xs[i]? = some x→∃ v,vs[i]? = some v∧HasX h o H x v
 | [],_,i,_,_,e=>by simp at e
 | y :: xs,vs,0,x,⟨v,r,e1,q,l⟩,e=>by
  rw [List.getElem?_cons_zero] at e
  cases e
  subst e1
  exact ⟨v,rfl,q⟩
 | y :: xs,vs,i + 1,x,⟨v,r,e1,q,l⟩,e=>by
  subst e1
  rw [List.getElem?_cons_succ] at e ⊢
  exact HasXs.get l e
theorem repE_start {h o:List Addr} {H:Hp} {xs:List XV} {vs:List V} {n:Nat} (q:HasXs h o H xs vs):RepE h o H (xs.map some ++ List.replicate n none) (vs.map some ++ List.replicate n none):=by
 have hl:=q.len
 refine ⟨by simp [hl],fun i x e=>?_⟩
 by_cases hi:i < xs.length
 ·rw [List.getElem?_append_left (by rw [List.length_map]; exact hi),List.getElem?_map] at e
  obtain ⟨y,ey,e⟩:=Option.map_eq_some_iff.mp e
  cases e
  obtain ⟨v,ev,hv⟩:=q.get ey
  exact ⟨v,by rw [List.getElem?_append_left (by rw [List.length_map,hl]; exact hi),List.getElem?_map,ev]; rfl,hv⟩
 ·rw [List.getElem?_append_right (by rw [List.length_map]; omega),List.getElem?_replicate] at e
  split at e <;> cases e
section
variable {P:Program} {w:World} {K:PySem.W.Frag} {mg:Str→Option Value} {base:Heap} {x:Str} {st:Stmt} {N ps:List Str} {k:Nat}
theorem Df.dN {q:PN} (D:Dd K mg x st ps) (S:FnScope N ps (defScope st)) (n:Nat) (hn:N.length = ps.length + n)
  (hbody:∀ (f:Addr) (cdv:Value) (A:Around) (outer:List Env) (s:Shared) (H:Hp) (E:XK),Room k (A.deeper (envOfC x (defScope st) s.heap.objs.size f cdv)) →
   ∃ t dt,PSs (cxOf CX0 P w K mg base N x (defScope st) f cdv A outer s H E).nox (defBody st) t∧RS t dt∧∀ xs S R,q xs S R→dt (dEnd S.length R) (xs.map some ++ List.replicate n none) S):Df P w K mg base x ps (k + 1) (spN ps q):=by
 refine Df.of D S (fun vs H Q E h=>h.1) fun f cdv A outer s H vs Q E hr ⟨hl,h,o,S',xs,R,hs',hx,hq,c⟩=>?_
 obtain ⟨t,dt,h1,h2,h3⟩:=hbody f cdv A outer s H E hr
 refine ⟨t,h1,h2 h o H _ _ S' _ _ ?_ hs' (h3 xs S' R hq) (eok hs' c)⟩
 have e:N.length - vs.length = n:=by omega
 unfold start
 rw [e]
 exact repE_start hx
end
section
variable {X:Cx} {x:Str} {ps:List Str} {k j:Nat} {pos pos':Pos} {e:Expr} {es:List Expr} {t:TA}
theorem pe_dfN {q:PN} (D:Df X.prog X.w X.K X.mg X.base x ps k (spN ps q)) (hr:Room j X.A) (hk:k ≤ j) (ha:PA X (e :: es) t) (hg:Gl X x:=by rfl) (hdb:(x == ("__debug__":Str)) = false:=by decide)
  (q1:starEach (e :: es) X.env = (false,eval e X.env) :: starEach es X.env:=by rfl) (q2:((backTo pos (starEach es X.env)).any fun x=>x.fst) = false:=by rfl):PE X (.Call (.Name x pos') (e :: es) [] pos) (tCall (spN ps q) [] E0 t):=by
 obtain ⟨f,fd,F,hm,kp,hb⟩:=D.ex
 exact pe_call (dvs:=[]) (ds:=[]) (E:=E0) F (hr.mono hk) hg hm kp hb .nil pass0 ha hdb q1 q2
end
def dCall (m:Nat) (q:PN) (da:DA):DE:=fun δ S R=>da δ S fun xs S1=>∃ ds,datas xs = some ds∧ds.length = m∧q (ds.map XV.d) [] (ret0 S1 R)
theorem hxs0 {h o:List Addr} {H:Hp}:∀ {ds:List PyData} {vs:List V},HasXs h o H (ds.map XV.d) vs→HasXs (h ++ o) [] H (ds.map XV.d) vs
 | [],_,q=>q
 | d :: ds,vs,⟨v,r,e,q,l⟩=>⟨v,r,e,hx0 q,hxs0 l⟩
theorem re_call {ps:List Str} {q:PN} {m:Nat} {t:TA} {da:DA} (ha:RA t da) (hm:ps.length = m:=by rfl):RE (tCall (spN ps q) [] E0 t) (dCall m q da):=fun h o H δ σ S R Q he hs w c =>
 ha h o H δ σ S _ _ he hs w fun o1 H1 S1 xs vs e1 s1 x1 ⟨ds,e,hl,d1⟩=>by
  have ex:=datas_eq e
  subst ex
  have hv:=x1.len
  rw [List.append_nil]
  exact ⟨by rw [hv,List.length_map,hl,hm],h ++ o1,[],[],_,_,rep0 s1,hxs0 x1,d1,cn0 s1 (c.pre e1)⟩
def dCallP (i m:Nat) (q:PN) (da:DA):DE:=fun δ S R=>da δ S fun xs S1=>∃ k,xs[i]? = some (.l k)∧∃ p,S1[k]? = some p∧∃ ds,datas (xs.set i (.d .none)) = some ds∧ds.length = m∧q ((ds.map XV.d).set i (.l 0)) [p] (retP k S1 R)
theorem hxsP {h o:List Addr} {H:Hp} {k:Nat} {a:Addr} (ea:o[k]? = some a):∀ {xs:List XV} {vs:List V} {ds:List PyData} {i:Nat},HasXs h o H xs vs→xs[i]? = some (.l k)→datas (xs.set i (.d .none)) = some ds→HasXs (h ++ o.filter (fun b=>b ≠ a)) [a] H ((ds.map XV.d).set i (.l 0)) vs
 | [],_,_,i,_,e,_=>by simp at e
 | x :: xs,vs,ds,0,⟨v,r,e1,q,l⟩,e,ed=>by
  rw [List.getElem?_cons_zero] at e
  cases e
  rw [List.set_cons_zero] at ed
  obtain ⟨ds',rfl⟩:∃ ds',ds = .none :: ds':=by
   unfold datas at ed
   cases hd:datas xs with
   | none=>rw [hd] at ed; cases ed
   | some y=>rw [hd] at ed; cases ed; exact ⟨y,rfl⟩
  have ed':datas xs = some ds':=by
   unfold datas at ed
   cases hd:datas xs with
   | none=>rw [hd] at ed; cases ed
   | some y=>rw [hd] at ed; cases ed; rfl
  have ex:=datas_eq ed'
  subst ex
  obtain ⟨b,eb,rfl⟩:=q
  rw [ea] at eb
  cases eb
  exact ⟨_,r,e1,⟨a,rfl,rfl⟩,go (ea:=ea) l⟩
 | x :: xs,vs,ds,i + 1,⟨v,r,e1,q,l⟩,e,ed=>by
  rw [List.getElem?_cons_succ] at e
  rw [List.set_cons_succ] at ed
  match x,q,ed with
  | .d d,q,ed =>
   unfold datas at ed
   cases hd:datas (xs.set i (.d .none)) with
   | none=>rw [hd] at ed; cases ed
   | some ds' =>
    rw [hd] at ed
    cases ed
    exact ⟨v,r,e1,hxP ea q,hxsP ea l e hd⟩
  | .l j,q,ed=>cases ed
  | .o w,q,ed=>cases ed
  | .x _ _,q,ed=>cases ed
where
 go {h o:List Addr} {H:Hp} {k:Nat} {a:Addr} {ea:o[k]? = some a}:∀ {ds:List PyData} {vs:List V},HasXs h o H (ds.map XV.d) vs→HasXs (h ++ o.filter (fun b=>b ≠ a)) [a] H (ds.map XV.d) vs
 | [],_,q=>q
 | d :: ds,vs,⟨v,r,e,q,l⟩=>⟨v,r,e,hxP ea q,go (ea:=ea) l⟩
theorem datas_len:∀ {xs:List XV} {ds:List PyData},datas xs = some ds→xs.length = ds.length:=fun e=>by
 rw [datas_eq e,List.length_map]
theorem re_callP {ps:List Str} {q:PN} {i m:Nat} {t:TA} {da:DA} (ha:RA t da) (hm:ps.length = m:=by rfl):RE (tCall (spN ps q) [] E0 t) (dCallP i m q da):=fun h o H δ σ S R Q he hs w c =>
 ha h o H δ σ S _ _ he hs w fun o1 H1 S1 xs vs e1 s1 x1 ⟨k,ek,p,ep,ds,e,hl,d1⟩=>by
  have hv:=x1.len
  have hd:=datas_len e
  rw [List.length_set] at hd
  obtain ⟨v,_,a,ea,_⟩:=x1.get ek
  rw [List.append_nil]
  exact ⟨by rw [hv,hd,hl,hm],_,[a],[p],_,_,repP s1 ea ep,hxsP ea x1 ek e,d1,cnP s1 ea ep (c.pre e1)⟩
end L2
set_option Elab.async false
set_option linter.all false
set_option maxRecDepth 100000
set_option maxHeartbeats 1000000
namespace L2
open PySem PySem.Spec PyProof.Rows
def rLenG (K:PySem.W.Frag):List V→Hp→VK→Prop:=fun xs H Q=>rLen K xs H Q∨∃ z,xs = [.str z]∧z.length ≤ sizeLine∧Q (.int z.length) H
theorem call_lenG {X:Cx}:CallR X (.builtin "len") (rLenG X.K):=call_len_seq.or call_len_str
def lenX (S:Sto):XV→Option Nat
 | .d (.tuple ds)=>some ds.length
 | .d (.list ds)=>some ds.length
 | .l k=>(S[k]?).map List.length
 | .d (.str z)=>if z.length ≤ sizeLine then some z.length else none
 | _=>none
def dLenG:List XV→Sto→RX→Prop:=fun xs S R=>arg1 xs fun x=>∃ n,lenX S x = some n∧R (.d (.int n)) S
theorem rc_lenG {K:PySem.W.Frag}:RC (rLenG K) dLenG:=fun h o H S xs vs R Q hs hx q c=>by
 obtain ⟨x,rfl,n,hd,q1⟩:=arg1_ex q
 unfold lenX at hd
 split at hd
 ·cases hd
  exact .inl (rc_len h o H S _ vs R Q hs hx ⟨_,rfl,q1⟩ c)
 ·cases hd
  exact .inl (rc_len h o H S _ vs R Q hs hx ⟨_,rfl,q1⟩ c)
 ·rename_i k
  cases hk:S[k]? with
  | none=>rw [hk] at hd; cases hd
  | some ds =>
   rw [hk] at hd
   cases hd
   exact .inl (rc_len h o H S _ vs R Q hs hx ⟨ds,hk,q1⟩ c)
 ·split at hd
  ·rename_i hz
   cases hd
   obtain ⟨v,rfl,hx1⟩:=hxs1 hx
   exact .inr ⟨_,by rw [hx_str hx1],hz,c o H S _ _ Ex.refl hs (xI _) q1⟩
  ·cases hd
 ·cases hd
section
variable {S:Sto} {ds:List PyData} {k:Nat} {z:Str}
theorem lenX_t:lenX S (.d (.tuple ds)) = some ds.length:=rfl
theorem lenX_l:lenX S (.d (.list ds)) = some ds.length:=rfl
theorem lenX_k:lenX S (.l k) = (S[k]?).map List.length:=rfl
end
section
variable {S:Sto} {ds:List PyData} {k:Nat} {a b:Str} {x:XV} {R:RX}
end
section
variable {X:Cx} {elts:List Expr} {n:Nat} {tpos:Pos}
def iEnumG (K:PySem.W.Frag) (ta:TA):TI:=fun σ H R=>ta σ H fun vs H1=>∃ a,vs = [.ref a]∧(((∃ xs,SqT K H1 a xs)∧R (Ite (SqT K) a) H1)∨((∃ xs,SqL K H1 a xs)∧R (Ite (SqL K) a) H1))
theorem pi_enumG {a:Expr} {ta:TA} {p pos:Pos} (hg:Gl X "enumerate") (hm:X.mg "enumerate" = none) (ha:PA X [a] ta) (hs:starEach [a] X.env = [(false,eval a X.env)]:=by rfl):PI X (.Tuple elts n tpos) (.Call (.Name "enumerate" p) [a] [] pos) (iEnumG X.K ta):=by
 intro pins s σ H R I h
 refine Call_ (ld_blt I hg hm boot_enumerate (PyProof.Rows.callWith_type1 (thn (ha pos pins s σ H _ I h) fun us s1 ⟨vs,H1,I1,r1,q1⟩=>?_) hs rfl))
 obtain ⟨b,e,⟨⟨xs,hq⟩,q⟩ | ⟨⟨xs,hq⟩,q⟩⟩:=q1
 ·subst e
  cases r1 with
  | cons r rr =>
   cases rr
   cases r
   obtain ⟨its,rv,pl,hz⟩:=I1.tuple hq
   refine call_enum_tup (show s1.heap.IsTuple b its.toArray from pl) fun g he hj k=>?_
   refine wpAny_pyIter_enum (s:={ s1 with heap:=g }) he ?_
   have I2:Inv X pins σ H1 { s1 with heap:=g }:=I1.kept (t':=s1.toks) k
   refine ⟨s1.heap.objs.size + 1,[s1.heap.objs.size + 1,s1.heap.objs.size],_,_,H1,rfl,I2,turn_enumT b _ _ (Nat.succ_ne_self _),⟨⟨_,he⟩,hj⟩,fun c hc=>?_,q⟩
   rcases List.mem_cons.mp hc with rfl | hc
   ·exact I1.fpOk (Nat.le_succ _) (I1.hok.fresh (Nat.le_succ _))
   ·rw [List.mem_singleton.mp hc]
    exact I1.fpOk (Nat.le_refl _) (I1.hok.fresh (Nat.le_refl _))
 ·subst e
  cases r1 with
  | cons r rr =>
   cases rr
   cases r
   obtain ⟨its,rv,pl,hz⟩:=I1.list hq
   refine call_enumerate_list pl.isList fun g he hj _ k=>?_
   refine wpAny_pyIter_enum (s:={ s1 with heap:=g }) he ?_
   have I2:Inv X pins σ H1 { s1 with heap:=g }:=I1.kept (t':=s1.toks) k
   refine ⟨s1.heap.objs.size + 1,[s1.heap.objs.size + 1,s1.heap.objs.size],_,_,H1,rfl,I2,turn_enumL b _ _ (Nat.succ_ne_self _),⟨⟨_,he⟩,hj⟩,fun c hc=>?_,q⟩
   rcases List.mem_cons.mp hc with rfl | hc
   ·exact I1.fpOk (Nat.le_succ _) (I1.hok.fresh (Nat.le_succ _))
   ·rw [List.mem_singleton.mp hc]
    exact I1.fpOk (Nat.le_refl _) (I1.hok.fresh (Nat.le_refl _))
end
def diEnumG (a:DA):DI:=fun δ S R=>a δ S fun xs S1=>arg1 xs fun x=>∃ ds,seqD x = some ds∧R (enumD 0 ds) S1
theorem ri_enumG {K:PySem.W.Frag} {ta:TA} {da:DA} (ha:RA ta da):RI (iEnumG K ta) (diEnumG da):=fun h o H δ σ S R Q he hs q c =>
 ha h o H δ σ S _ _ he hs q fun o1 H1 S1 xs vs e1 s1 x1 d0=>by
  obtain ⟨x,rfl,ds,hd,d1⟩:=arg1_ex d0
  obtain ⟨v,rfl,hv⟩:=hxs1 x1
  have core:∀ {Sq:Hp→Addr→List V→Prop} {a:Addr} {ws:List V},(∀ {o2 H2},ExH h o1 H1 o2 H2→Sq H2 a ws)→HasL (vx h o1 H1) ds ws→WalkX h o1 H1 (Ite Sq a) (enumD 0 ds):=by
   intro Sq a ws ea' l
   have hl:=l.length
   refine ⟨fun i o2 H2 e2 hi=>⟨ws,ea' e2,by rw [enumD_length] at hi; omega⟩,fun i d o2 H2 e2 hi=>?_,fun i d o2 H2 x H3 S2 e2 s2 hi y=>?_⟩
   ·obtain ⟨e,h1,rfl⟩:=enumD_get ds 0 i d hi
    obtain ⟨u,eu,_⟩:=l.get h1
    exact ⟨ws,u,ea' e2,eu⟩
   ·obtain ⟨e,h1,rfl⟩:=enumD_get ds 0 i d hi
    obtain ⟨u,eu,hu⟩:=l.get h1
    obtain ⟨p,v,hp,rfl,rfl,hy⟩:=y
    have ev:=hy ws (ea' e2)
    rw [eu] at ev
    cases ev
    refine ⟨Same.laid hp,has_tuple.mpr ⟨p,_,rfl,s2.laid hp,hasL_cons.mpr ⟨_,_,rfl,?_,hasL_cons.mpr ⟨_,_,rfl,(hu.mono e2.vx).mono (vx_same (Same.laid hp)),hasL_nil.mpr rfl⟩⟩⟩⟩
    rw [Nat.zero_add]
    exact has_int.mpr rfl
  unfold seqD at hd
  split at hd
  ·cases hd
   obtain ⟨a,ws,rfl,ea,l⟩:=has_list.mp (show Has (vx h o1 H1) (.list ds) v from hv)
   exact ⟨a,rfl,.inr ⟨⟨ws,.of (vx_full _ _ ea)⟩,c o1 H1 S1 _ _ e1 s1 (core (fun e2=>.of (vx_full _ _ (e2.vx _ _ ea))) l) d1⟩⟩
  ·cases hd
   obtain ⟨a,ws,rfl,ea,l⟩:=has_tuple.mp (show Has (vx h o1 H1) (.tuple ds) v from hv)
   exact ⟨a,rfl,.inl ⟨⟨ws,.of (vx_full _ _ ea)⟩,c o1 H1 S1 _ _ e1 s1 (core (fun e2=>.of (vx_full _ _ (e2.vx _ _ ea))) l) d1⟩⟩
  ·cases hd
def dPop:XV→List XV→Sto→RX→Prop:=fun x xs S R=>∃ k,x = .l k∧∃ ds,S[k]? = some ds∧xs = []∧∃ d,ds[ds.length - 1]? = some d∧R (.d d) (S.set k ds.dropLast)
abbrev lawE (a:Addr) (m:Nat):DEnds:={ nx:=fun δ _=>δ[0]? = some (some (.o (.ref a)))∧δ.length = m + 1,ct:=fun δ _=>δ[0]? = some (some (.o (.ref a)))∧δ.length = m + 1,rt:=fun _ _=>False }
abbrev preE (a:Addr) (m:Nat):DEnds:={ nx:=fun δ _=>δ[0]? = some (some (.o (.ref a)))∧δ.length = m + 1,rt:=fun _ _=>False }
section
variable {a:Addr} {m:Nat} {t1 t2 t3 t4 u:TS} {dt:DS} {D:Ends} {σ:St} {H:Hp}
theorem pre_dd1 (ht:RS t1 dt) (h0:σ[0]? = some (some (.ref a))) (hl:σ.length = m + 1) (go:dt (preE a m) (some (.o (.ref a)) :: List.replicate m none) [])
  (next:∀ (σ:St) (H1:Hp),σ[0]? = some (some (.ref a))→σ.length = m + 1→Same H H1→u D σ H1):tSeq t1 u D σ H:=pre_d ht h0 hl go next
end
end L2
set_option Elab.async false
set_option linter.all false
set_option maxRecDepth 100000
set_option maxHeartbeats 1000000
namespace L2
open PySem PySem.Spec PyProof.Rows
open Sem (wp)
def ItK (t:Bool) (h:Heap) (j a:Addr) (k:Nat):Prop:=match t with
 | true=>h.IsTupleIter j a k
 | false=>h.IsListIter j a k
def SqK (t:Bool) (h:Heap) (a:Addr) (xs:Array Value):Prop:=match t with
 | true=>h.IsTuple a xs
 | false=>h.IsList a xs
theorem ItK.at {t:Bool} {h g:Heap} {j a:Addr} {k:Nat} (q:ItK t h j a k) (f:∀ o,h.get? j = some o→g.get? j = some o):ItK t g j a k:=by
 cases t
 ·exact Heap.IsListIter.at (show h.IsListIter j a k from q) f
 ·exact Heap.IsTupleIter.at (show h.IsTupleIter j a k from q) f
theorem ItK.here {t:Bool} {h:Heap} {j a:Addr} {k:Nat} (q:ItK t h j a k):∃ o,h.get? j = some o∧∀ v,o.data ≠ .cell v:=by
 cases t <;> (obtain ⟨o,e,c,d⟩:=q; exact ⟨o,e,fun v z=>by rw [d] at z; cases z⟩)
theorem SqK.at {t:Bool} {h g:Heap} {a:Addr} {xs:Array Value} (q:SqK t h a xs) (f:∀ o,h.get? a = some o→g.get? a = some o):SqK t g a xs:=by
 cases t <;> (obtain ⟨o,e,r⟩:=q; exact ⟨o,f o e,r⟩)
theorem SqK.here {t:Bool} {h:Heap} {a:Addr} {xs:Array Value} (q:SqK t h a xs):∃ o,h.get? a = some o:=by
 cases t <;> (obtain ⟨o,e,r⟩:=q; exact ⟨o,e⟩)
section
variable {prog:Program} {w:World} {A:Around} {E:Value→Shared→Prop} {s:Shared}
theorem nextK {t:Bool} {j a:Addr} {k:Nat} {xs:Array Value} {x:Value} {Q:Value→Shared→Prop} (hj:ItK t s.heap j a k) (ha:SqK t s.heap a xs) (hx:xs[k]? = some x)
  (hQ:∀ g,ItK t g j a (k + 1)→Heap.SameBut j s.heap g→Q x { s with heap:=g }):wpAny (model prog w) A (Builtin.SmallTypes.nextOf (.ref j)) Q E s:=by
 cases t
 ·exact wpAny_nextOf_list_item hj ha hx hQ
 ·exact nextOf_tup hj ha hx hQ
theorem nextK_end {t:Bool} {j a:Addr} {k:Nat} {xs:Array Value} {Q:Value→Shared→Prop} (hh:A.handled = none) (hj:ItK t s.heap j a k) (ha:SqK t s.heap a xs) (hx:xs[k]? = none)
  (hE:∀ g e,Heap.ExtBut j s.heap g→(∃ o,g.get? e = some o∧o.cls = .type "StopIteration")→E (.ref e) { s with heap:=g }):wpAny (model prog w) A (Builtin.SmallTypes.nextOf (.ref j)) Q E s:=by
 cases t
 ·exact wpAny_nextOf_list_end hh hj ha hx hE
 ·exact nextOf_tup_end hh hj ha hx hE
theorem iterK {t:Bool} {a:Addr} {xs:Array Value} {Q:Value→Shared→Prop} (ha:SqK t s.heap a xs) (hQ:Q (.ref s.heap.objs.size) { s with heap:=s.heap.push { cls:=.type (if t then "tuple_iterator" else "list_iterator"),data:=.fields #[.ref a,.int 0 0] } }):wpAny (model prog w) A (pyIter (.ref a)) Q E s:=by
 cases t
 ·exact wpAny_pyIter_list ha hQ
 ·exact wpAny_pyIter_tuple ha hQ
theorem upPair {T:Addr} {c d x:Value} {k:Nat} {Q:Unit→Shared→Prop} (hT:IsPair s.heap T c d) (hQ:∀ g,g.get? T = some { cls:=.type "tuple",data:=.seq ((#[c,d]:Array Value).setIfInBounds k x) }→Heap.SameBut T s.heap g→Q () { s with heap:=g }) :
  wpAny (model prog w) A (updateSeq T (·.setIfInBounds k x)) Q E s:=wpAny_updateSeq_pair hT hQ
structure ZAp (z p r i j a b:Addr):Prop where
 pz:p ≠ z
 rz:r ≠ z
 iz:i ≠ z
 jz:j ≠ z
 pr:p ≠ r
 pi:p ≠ i
 pj:p ≠ j
 ri:r ≠ i
 rj:r ≠ j
 ij:i ≠ j
 az:a ≠ z
 ar:a ≠ r
 ai:a ≠ i
 aj:a ≠ j
 bz:b ≠ z
 br:b ≠ r
 bi:b ≠ i
 bj:b ≠ j
theorem zipK_step {t u:Bool} {z p r i j a b:Addr} {k m:Nat} {xs ys:Array Value} {x y c d:Value} {Q:Value→Shared→Prop} (D:ZAp z p r i j a b) (hz:IsZip s.heap z p r .none) (hp:IsPair s.heap p (.ref i) (.ref j)) (hr:IsPair s.heap r c d)
  (hi:ItK t s.heap i a k) (hj:ItK u s.heap j b m) (ha:SqK t s.heap a xs) (hb:SqK u s.heap b ys) (hx:xs[k]? = some x) (hy:ys[m]? = some y)
  (hQ:∀ g,IsZip g z p r (rawInt s.heap.objs.size)→IsPair g r x y→ItK t g i a (k + 1)→ItK u g j b (m + 1)→IsPair g s.heap.objs.size x y →
   (∀ q o,q ≠ z→q ≠ r→q ≠ i→q ≠ j→s.heap.get? q = some o→g.get? q = some o)→Q (.ref s.heap.objs.size) { s with heap:=g }) :
  wpAny (model prog w) A (Builtin.«zip.__next__» ⟨[.ref z],[]⟩) (fun fn s'=>∃ v,fn = .done (.ret v)∧Q v s') E s:=by
 obtain ⟨h0,gs,dr,tk,os⟩:=s
 show wpAny _ _ (field (.ref z) 2 >>= _) _ _ ⟨h0,gs,dr,tk,os⟩
 refine wpAny_bind (wpAny_field hz rfl (x:=.bool false) rfl ?_)
 show wpAny _ _ (field (.ref z) 3 >>= _) _ _ ⟨h0,gs,dr,tk,os⟩
 refine wpAny_bind (wpAny_field hz rfl (x:=.ref p) rfl (wpAny_bind (wpAny_seqItems hp rfl ?_)))
 show wpAny _ _ (Builtin.SmallTypes.ownedTupleIsFree (.ref z) >>= _) _ _ ⟨h0,gs,dr,tk,os⟩
 refine wpAny_bind ?_
 unfold Builtin.SmallTypes.ownedTupleIsFree
 refine wpAny_bind (wpAny_field hz rfl (x:=.none) rfl (wpAny_pure ?_))
 simp only [if_true]
 refine wpAny_bind (wpAny_rule (wpAny_bind (wpAny_field hz rfl (x:=.ref r) rfl (wpAny_bind (wpAny_setField_rec hz (by simp) fun g1 z1 b1=>?_)))))
 replace z1:IsZip g1 z p r .ellipsis:=z1
 replace b1:Heap.SameBut z h0 g1:=b1
 refine wpAny_bind ?_
 simp only [List.zipIdx_cons,List.zipIdx_nil,List.forIn_cons,List.forIn_nil]
 refine wpAny_bind (wpAny_bind (wpAny_onRaise ?_))
 show wpAny _ _ (Builtin.SmallTypes.nextOf (.ref i) >>= _) _ _ ⟨g1,gs,dr,tk,os⟩
 refine wpAny_bind (nextK (s:=⟨g1,gs,dr,tk,os⟩) (hi.at fun o e=>b1.extBut i o D.iz e) (ha.at fun o e=>b1.extBut a o D.az e) hx fun g2 i2 b2=>wpAny_pure ?_)
 replace b2:Heap.SameBut i g1 g2:=b2
 have r2:IsPair g2 r c d:=b2.extBut r _ D.ri (b1.extBut r _ D.rz hr)
 refine wpAny_bind (wpAny_seqItems (s:=⟨g2,gs,dr,tk,os⟩) r2 rfl (wpAny_bind (upPair (s:=⟨g2,gs,dr,tk,os⟩) r2 fun g3 r3 b3=>?_)))
 replace r3:IsPair g3 r x d:=r3
 replace b3:Heap.SameBut r g2 g3:=b3
 refine wpAny_bind (wpAny_letGo (wpAny_pure (wpAny_bind (wpAny_bind (wpAny_onRaise ?_)))))
 show wpAny _ _ (Builtin.SmallTypes.nextOf (.ref j) >>= _) _ _ ⟨g3,gs,dr,tk,os⟩
 have k13:∀ q o,q ≠ z→q ≠ r→q ≠ i→h0.get? q = some o→g3.get? q = some o:=fun q o n1 n2 n3 e=>b3.extBut q o n2 (b2.extBut q o n3 (b1.extBut q o n1 e))
 refine wpAny_bind (nextK (s:=⟨g3,gs,dr,tk,os⟩) (hj.at fun o e=>k13 j o D.jz (Ne.symm D.rj) (Ne.symm D.ij) e) (hb.at fun o e=>k13 b o D.bz D.br D.bi e) hy fun g4 j4 b4=>wpAny_pure ?_)
 replace b4:Heap.SameBut j g3 g4:=b4
 have r4:IsPair g4 r x d:=b4.extBut r _ D.rj r3
 refine wpAny_bind (wpAny_seqItems (s:=⟨g4,gs,dr,tk,os⟩) r4 rfl (wpAny_bind (upPair (s:=⟨g4,gs,dr,tk,os⟩) r4 fun g5 r5 b5=>?_)))
 replace r5:IsPair g5 r x y:=r5
 replace b5:Heap.SameBut r g4 g5:=b5
 refine wpAny_bind (wpAny_letGo (wpAny_pure (wpAny_pure (wpAny_bind (wpAny_seqItems (s:=⟨g5,gs,dr,tk,os⟩) r5 rfl (wpAny_bind (wpAny_newTuple ?_)))))))
 have sz:g5.objs.size = h0.objs.size:=by rw [b5.1,b4.1,b3.1,b2.1,b1.1]
 have z5:IsZip g5 z p r .ellipsis:=b5.extBut z _ (Ne.symm D.rz) (b4.extBut z _ (Ne.symm D.jz) (b3.extBut z _ (Ne.symm D.rz) (b2.extBut z _ (Ne.symm D.iz) z1)))
 have k5:∀ q o,q ≠ z→q ≠ r→q ≠ i→q ≠ j→h0.get? q = some o→g5.get? q = some o:=fun q o n1 n2 n3 n4 e=>b5.extBut q o n2 (b4.extBut q o n4 (k13 q o n1 n2 n3 e))
 have i5:ItK t g5 i a (k + 1):=ItK.at i2 fun o e=>b5.extBut i o (Ne.symm D.ri) (b4.extBut i o D.ij (b3.extBut i o (Ne.symm D.ri) e))
 have j5:ItK u g5 j b (m + 1):=ItK.at j4 fun o e=>b5.extBut j o (Ne.symm D.rj) e
 have zl:z < g5.objs.size:=Heap.lt_size z5
 show wpAny _ _ (Builtin.SmallTypes.ownedTupleHandOut (.ref z) (.ref g5.objs.size) >>= _) _ _ _
 refine wpAny_bind ?_
 unfold Builtin.SmallTypes.ownedTupleHandOut
 have z6:IsZip (g5.push { cls:=.type "tuple",data:=.seq #[x,y] }) z p r .ellipsis:=Heap.get?_push_of_some _ z5
 refine wpAny_bind (wpAny_setField_rec z6 (by simp) fun g7 z7 b7=>?_)
 replace z7:IsZip g7 z p r (rawInt g5.objs.size):=z7
 replace b7:Heap.SameBut z (g5.push { cls:=.type "tuple",data:=.seq #[x,y] }) g7:=b7
 refine wpAny_setField_rec z7 (by simp) fun g8 z8 b8=>?_
 replace z8:IsZip g8 z p r (rawInt g5.objs.size):=z8
 replace b8:Heap.SameBut z g7 g8:=b8
 have up:∀ q o,q ≠ z→g5.get? q = some o→g8.get? q = some o:=fun q o n e=>b8.extBut q o n (b7.extBut q o n (Heap.get?_push_of_some _ e))
 have t8:IsPair g8 g5.objs.size x y:=b8.extBut _ _ (Nat.ne_of_gt zl) (b7.extBut _ _ (Nat.ne_of_gt zl) (Heap.get?_push_size _ rfl))
 rw [sz] at z8 t8
 refine wpAny_pure ⟨_,rfl,?_⟩
 show Q (.ref g5.objs.size) _
 rw [sz]
 exact hQ g8 z8 (up r _ D.rz r5) (i5.at fun o e=>up i o D.iz e) (j5.at fun o e=>up j o D.jz e) t8 fun q o n1 n2 n3 n4 e=>up q o n1 (k5 q o n1 n2 n3 n4 e)
theorem zipK_stop {t u:Bool} {z p r i j a b:Addr} {k m:Nat} {xs ys:Array Value} {c d:Value} {Q:Fin→Shared→Prop} (hh:A.handled = none) (D:ZAp z p r i j a b) (hz:IsZip s.heap z p r .none) (hp:IsPair s.heap p (.ref i) (.ref j)) (hr:IsPair s.heap r c d)
  (hi:ItK t s.heap i a k) (hj:ItK u s.heap j b m) (ha:SqK t s.heap a xs) (hb:SqK u s.heap b ys) (hend:xs[k]? = none∨ys[m]? = none)
  (hE:∀ g e,(∀ q o,q ≠ z→q ≠ r→q ≠ i→q ≠ j→s.heap.get? q = some o→g.get? q = some o)→(∃ o,g.get? e = some o∧o.cls = .type "StopIteration")→E (.ref e) { s with heap:=g }) :
  wpAny (model prog w) A (Builtin.«zip.__next__» ⟨[.ref z],[]⟩) Q E s:=by
 obtain ⟨h0,gs,dr,tk,os⟩:=s
 show wpAny _ _ (field (.ref z) 2 >>= _) _ _ ⟨h0,gs,dr,tk,os⟩
 refine wpAny_bind (wpAny_field hz rfl (x:=.bool false) rfl ?_)
 show wpAny _ _ (field (.ref z) 3 >>= _) _ _ ⟨h0,gs,dr,tk,os⟩
 refine wpAny_bind (wpAny_field hz rfl (x:=.ref p) rfl (wpAny_bind (wpAny_seqItems hp rfl ?_)))
 show wpAny _ _ (Builtin.SmallTypes.ownedTupleIsFree (.ref z) >>= _) _ _ ⟨h0,gs,dr,tk,os⟩
 refine wpAny_bind ?_
 unfold Builtin.SmallTypes.ownedTupleIsFree
 refine wpAny_bind (wpAny_field hz rfl (x:=.none) rfl (wpAny_pure ?_))
 simp only [if_true]
 refine wpAny_bind (wpAny_rule (wpAny_bind (wpAny_field hz rfl (x:=.ref r) rfl (wpAny_bind (wpAny_setField_rec hz (by simp) fun g1 z1 b1=>?_)))))
 replace z1:IsZip g1 z p r .ellipsis:=z1
 replace b1:Heap.SameBut z h0 g1:=b1
 refine wpAny_bind ?_
 simp only [List.zipIdx_cons,List.zipIdx_nil,List.forIn_cons,List.forIn_nil]
 refine wpAny_bind (wpAny_bind (wpAny_onRaise ?_))
 show wpAny _ _ (Builtin.SmallTypes.nextOf (.ref i) >>= _) _ _ ⟨g1,gs,dr,tk,os⟩
 have notz:∀ {g:Heap} {e:Addr} {o:Obj},IsZip g z p r .ellipsis→g.get? e = some o→o.cls = .type "StopIteration"→e ≠ z:=fun h1 h2 h3 w=>by
  subst w
  rw [h1] at h2
  cases h2
  simp at h3
 cases hx:xs[k]? with
 | none =>
  refine wpAny_bind (nextK_end (s:=⟨g1,gs,dr,tk,os⟩) hh (hi.at fun o e=>b1.extBut i o D.iz e) (ha.at fun o e=>b1.extBut a o D.az e) hx fun g2 e b2 he=>?_)
  obtain ⟨oe,e1,e2⟩:=he
  have z2:IsZip g2 z p r .ellipsis:=b2 z _ (Ne.symm D.iz) z1
  exact wpAny_setField_rec z2 (by simp) fun g3 _ b3=>hE g3 e (fun q o n1 _ n3 _ w=>b3.extBut q o n1 (b2 q o n3 (b1.extBut q o n1 w))) ⟨oe,b3.extBut e oe (notz z2 e1 e2) e1,e2⟩
 | some x =>
  have hy:ys[m]? = none:=hend.elim (fun w=>by rw [hx] at w; cases w) id
  refine wpAny_bind (nextK (s:=⟨g1,gs,dr,tk,os⟩) (hi.at fun o e=>b1.extBut i o D.iz e) (ha.at fun o e=>b1.extBut a o D.az e) hx fun g2 i2 b2=>wpAny_pure ?_)
  replace b2:Heap.SameBut i g1 g2:=b2
  have r2:IsPair g2 r c d:=b2.extBut r _ D.ri (b1.extBut r _ D.rz hr)
  refine wpAny_bind (wpAny_seqItems (s:=⟨g2,gs,dr,tk,os⟩) r2 rfl (wpAny_bind (upPair (s:=⟨g2,gs,dr,tk,os⟩) r2 fun g3 r3 b3=>?_)))
  replace b3:Heap.SameBut r g2 g3:=b3
  refine wpAny_bind (wpAny_letGo (wpAny_pure (wpAny_bind (wpAny_bind (wpAny_onRaise ?_)))))
  show wpAny _ _ (Builtin.SmallTypes.nextOf (.ref j) >>= _) _ _ ⟨g3,gs,dr,tk,os⟩
  have k13:∀ q o,q ≠ z→q ≠ r→q ≠ i→h0.get? q = some o→g3.get? q = some o:=fun q o n1 n2 n3 e=>b3.extBut q o n2 (b2.extBut q o n3 (b1.extBut q o n1 e))
  refine wpAny_bind (nextK_end (s:=⟨g3,gs,dr,tk,os⟩) hh (hj.at fun o e=>k13 j o D.jz (Ne.symm D.rj) (Ne.symm D.ij) e) (hb.at fun o e=>k13 b o D.bz D.br D.bi e) hy fun g4 e b4 he=>?_)
  obtain ⟨oe,e1,e2⟩:=he
  have z4:IsZip g4 z p r .ellipsis:=b4 z _ (Ne.symm D.jz) (b3.extBut z _ (Ne.symm D.rz) (b2.extBut z _ (Ne.symm D.iz) z1))
  exact wpAny_setField_rec z4 (by simp) fun g5 _ b5=>hE g5 e (fun q o n1 n2 n3 n4 w=>b5.extBut q o n1 (b4 q o n4 (k13 q o n1 n2 n3 w))) ⟨oe,b5.extBut e oe (notz z4 e1 e2) e1,e2⟩
abbrev zpA (t:Bool) (h:Heap) (a:Addr):Heap:=h.push { cls:=.type (if t then "tuple_iterator" else "list_iterator"),data:=.fields #[.ref a,.int 0 0] }
abbrev zpB (t u:Bool) (h:Heap) (a b:Addr):Heap:=(zpA t h a).push { cls:=.type (if u then "tuple_iterator" else "list_iterator"),data:=.fields #[.ref b,.int 0 0] }
abbrev zpC (t u:Bool) (h:Heap) (a b:Addr):Heap:=(zpB t u h a b).push { cls:=.type "tuple",data:=.seq #[.ref h.objs.size,.ref (zpA t h a).objs.size] }
abbrev zpD (t u:Bool) (h:Heap) (a b:Addr):Heap:=(zpC t u h a b).push { cls:=.type "tuple",data:=.seq #[.none,.none] }
abbrev zpE (t u:Bool) (h:Heap) (a b:Addr):Heap:=(zpD t u h a b).push { cls:=.type "zip",data:=.fields #[.none,.bool false,.bool false,.ref (zpB t u h a b).objs.size,.ref (zpC t u h a b).objs.size] }
theorem mk_zipK (t u:Bool) (a b:Addr) (xs ys:Array Value):Meets (Builtin.«zip.__new__» ⟨[.type "zip",.ref a,.ref b],[]⟩) (fun _ R s=>SqK t s.heap a xs∧SqK u s.heap b ys ∧
   ∀ g,IsZip g (s.heap.objs.size + 4) (s.heap.objs.size + 2) (s.heap.objs.size + 3) .none→IsPair g (s.heap.objs.size + 2) (.ref s.heap.objs.size) (.ref (s.heap.objs.size + 1))→IsPair g (s.heap.objs.size + 3) .none .none →
    ItK t g s.heap.objs.size a 0→ItK u g (s.heap.objs.size + 1) b 0→(∀ q o,s.heap.get? q = some o→g.get? q = some o)→R (.ok (.ret (.ref (s.heap.objs.size + 4)))) { s with heap:=g }) :=
 .of_wp fun prog w A R s hyp=>by
  obtain ⟨g0,gs,dr,tk,os⟩:=s
  obtain ⟨ha,hb,hyp⟩:=hyp
  have sub:=sub_zip
  have hA:SqK t (Shared.heap ⟨g0,gs,dr,tk,os⟩) a xs:=ha
  have hB:SqK u (Shared.heap ⟨g0.push { cls:=.type (if t then "tuple_iterator" else "list_iterator"),data:=.fields #[.ref a,.int 0 0] },gs,dr,tk,os⟩) b ys:=SqK.at hb fun o e=>Heap.get?_push_of_some _ e
  wp_walk using iterK hA,iterK hB
  refine ⟨_,rfl,?_⟩
  have z1:(zpA t g0 a).objs.size = g0.objs.size + 1:=Heap.size_push ..
  have z2:(zpB t u g0 a b).objs.size = g0.objs.size + 2:=by rw [Heap.size_push,z1]
  have z3:(zpC t u g0 a b).objs.size = g0.objs.size + 3:=by rw [Heap.size_push,z2]
  have z4:(zpD t u g0 a b).objs.size = g0.objs.size + 4:=by rw [Heap.size_push,z3]
  have f1:=Heap.get?_push_size g0 (o:={ cls:=.type (if t then "tuple_iterator" else "list_iterator"),data:=.fields #[.ref a,.int 0 0] }) (by cases t <;> rfl)
  have f2:=Heap.get?_push_size (zpA t g0 a) (o:={ cls:=.type (if u then "tuple_iterator" else "list_iterator"),data:=.fields #[.ref b,.int 0 0] }) (by cases u <;> rfl)
  have f3:=Heap.get?_push_size (zpB t u g0 a b) (o:={ cls:=.type "tuple",data:=.seq #[.ref g0.objs.size,.ref (zpA t g0 a).objs.size] }) rfl
  have f4:=Heap.get?_push_size (zpC t u g0 a b) (o:={ cls:=.type "tuple",data:=.seq #[.none,.none] }) rfl
  have f5:=Heap.get?_push_size (zpD t u g0 a b) (o:={ cls:=.type "zip",data:=.fields #[.none,.bool false,.bool false,.ref (zpB t u g0 a b).objs.size,.ref (zpC t u g0 a b).objs.size] }) rfl
  have c1:∀ q o,g0.get? q = some o→(zpA t g0 a).get? q = some o:=fun q o e=>Heap.get?_push_of_some _ e
  have c2:∀ q o,(zpA t g0 a).get? q = some o→(zpB t u g0 a b).get? q = some o:=fun q o e=>Heap.get?_push_of_some _ e
  have c3:∀ q o,(zpB t u g0 a b).get? q = some o→(zpC t u g0 a b).get? q = some o:=fun q o e=>Heap.get?_push_of_some _ e
  have c4:∀ q o,(zpC t u g0 a b).get? q = some o→(zpD t u g0 a b).get? q = some o:=fun q o e=>Heap.get?_push_of_some _ e
  have c5:∀ q o,(zpD t u g0 a b).get? q = some o→(zpE t u g0 a b).get? q = some o:=fun q o e=>Heap.get?_push_of_some _ e
  have y1:=c5 _ _ (c4 _ _ (c3 _ _ (c2 _ _ f1)))
  have y2:=c5 _ _ (c4 _ _ (c3 _ _ f2))
  have y3:=c5 _ _ (c4 _ _ f3)
  have y4:=c5 _ _ f4
  have y5:(zpE t u g0 a b).get? (zpD t u g0 a b).objs.size = some { cls:=.type "zip",data:=.fields #[.none,.bool false,.bool false,.ref (zpB t u g0 a b).objs.size,.ref (zpC t u g0 a b).objs.size] }:=f5
  have fin:R (.ok (.ret (.ref (zpD t u g0 a b).objs.size))) ⟨zpE t u g0 a b,gs,dr,tk,os⟩:=by
   rw [z4,z2,z3] at y5
   rw [z2,z1] at y3
   rw [z3] at y4
   rw [z1] at y2
   rw [z4]
   refine hyp _ y5 y3 y4 ?_ ?_ fun q o e=>c5 q o (c4 q o (c3 q o (c2 q o (c1 q o e))))
   ·cases t <;> exact ⟨_,y1,rfl,rfl⟩
   ·cases u <;> exact ⟨_,y2,rfl,rfl⟩
  exact fin
theorem call_zipK {t u:Bool} {a b:Addr} {xs ys:Array Value} {Q:Value→Shared→Prop} (ha:SqK t s.heap a xs) (hb:SqK u s.heap b ys)
  (hyp:∀ g,IsZip g (s.heap.objs.size + 4) (s.heap.objs.size + 2) (s.heap.objs.size + 3) .none→IsPair g (s.heap.objs.size + 2) (.ref s.heap.objs.size) (.ref (s.heap.objs.size + 1))→IsPair g (s.heap.objs.size + 3) .none .none →
    ItK t g s.heap.objs.size a 0→ItK u g (s.heap.objs.size + 1) b 0→(∀ q o,s.heap.get? q = some o→g.get? q = some o)→Q (.ref (s.heap.objs.size + 4)) { s with heap:=g }):wpAny (model prog w) A (call (.type "zip") [.ref a,.ref b]) Q E s:=by
 refine callType_new F.called_zip (by decide) (F.typeCall_zip_2 _ _) (F.newCall_zip_2 _ _) (fun ob=>F.args_object_init_3 ob _ _) F.entry_zip_new (mk_zipK t u a b xs ys) ⟨ha,hb,fun g h1 h2 h3 h4 h5 h6=>?_⟩
 exact ⟨⟨_,h1,rfl⟩,hyp g h1 h2 h3 h4 h5 h6⟩
end
def Itz (S1 S2:Hp→Addr→List V→Prop) (a b:Addr):It :=
 ⟨fun i H=>∃ xs ys x y,S1 H a xs∧S2 H b ys∧xs[i]? = some x∧ys[i]? = some y,fun i H x H'=>∃ p v u,H p = none∧x = .ref p∧H' = upd H p (.tup [v,u])∧(∀ xs,S1 H a xs→xs[i]? = some v)∧(∀ ys,S2 H b ys→ys[i]? = some u),fun i H=>∃ xs ys,S1 H a xs∧S2 H b ys∧(xs.length ≤ i∨ys.length ≤ i)⟩
def SqV (K:PySem.W.Frag) (t:Bool) (H:Hp) (a:Addr) (xs:List V):Prop:=match t with
 | true=>SqT K H a xs
 | false=>SqL K H a xs
theorem Inv.seqK {X:Cx} {pins:List (Addr × Obj)} {σ:St} {H:Hp} {s:Shared} {t:Bool} {a:Addr} {xs:List V} (I:Inv X pins σ H s) (h:SqV X.K t H a xs):∃ its:List Value,Vals xs its∧SqK t s.heap a its.toArray∧∀ ys,SqV X.K t H a ys→ys = xs:=by
 cases t
 ·obtain ⟨its,rv,p,_⟩:=I.list h
  exact ⟨its,rv,p.isList,fun ys hy=>I.list_inj hy h⟩
 ·obtain ⟨its,rv,p,_⟩:=I.tuple h
  exact ⟨its,rv,p,fun ys hy=>I.tuple_inj hy h⟩
theorem turn_zip {P:Program} {w:World} {K:PySem.W.Frag} {elts:List Expr} {n:Nat} {pos:Pos} (t u:Bool) (z p r i j a b:Addr) (D:ZAp z p r i j a b):Turn P w K (.Tuple elts n pos) (Itz (SqV K t) (SqV K u) a b) [z,p,r,i,j] z
  (fun k h=>IsZip h z p r .none∧IsPair h p (.ref i) (.ref j)∧(∃ c d,IsPair h r c d)∧ItK t h i a k∧ItK u h j b k) where
 mem:=by simp
 obj:=fun k h ⟨h1,h2,⟨c,d,h3⟩,h4,h5⟩ q hq=>by
  simp only [List.mem_cons,List.not_mem_nil,or_false] at hq
  rcases hq with rfl | rfl | rfl | rfl | rfl
  ·exact ⟨_,h1,fun v e=>by cases (show Data.fields _ = Data.cell v from e)⟩
  ·exact ⟨_,h2,fun v e=>by cases (show Data.seq _ _ = Data.cell v from e)⟩
  ·exact ⟨_,h3,fun v e=>by cases (show Data.seq _ _ = Data.cell v from e)⟩
  ·exact h4.here
  ·exact h5.here
 keep:=fun k h h' ⟨h1,h2,⟨c,d,h3⟩,h4,h5⟩ f=>⟨f z (by simp) _ h1,f p (by simp) _ h2,⟨c,d,f r (by simp) _ h3⟩,h4.at fun o e=>f i (by simp) o e,h5.at fun o e=>f j (by simp) o e⟩
 item:=by
  intro X hP hw hK hc k pins s σ H E I hf st hg
  subst hP hw hK
  obtain ⟨xs,ys,x,y,q1,q2,ex,ey⟩:=hg
  obtain ⟨its,rv,sq,inj⟩:=I.seqK q1
  obtain ⟨its2,rv2,sq2,inj2⟩:=I.seqK q2
  obtain ⟨v1,e1,r1⟩:=rv.get ex
  obtain ⟨v2,e2,r2⟩:=rv2.get ey
  obtain ⟨h1,h2,⟨c,d,h3⟩,h4,h5⟩:=st
  have ty:s.TypeIs (.ref z) "zip":=⟨_,h1,rfl⟩
  unfold pyNext
  refine wpAny_bind (wpAny_attempt (wpAny_callSpecial?_slot (name:=Str.ofString "__next__") ty F.slot_zip_next (wpAny_call_entry F.slot_zip_next ty F.entry_zip_next
   (zipK_step D h1 h2 h3 h4 h5 sq sq2 (by simpa using e1) (by simpa using e2) fun g a1 a2 a3 a4 a5 kk=>wpAny_pure ⟨_,rfl,?_⟩) (F.args_zip_next_1 _))))
  refine wpAny_letOwnedTupleGo_zip (s:={ s with heap:=g }) a1 fun g' z' b'=>?_
  have lt:∀ {q o},s.heap.get? q = some o→s.heap.objs.size ≠ q:=fun e=>Nat.ne_of_gt (Heap.lt_size e)
  have b'':Heap.SameBut z g g':=b'
  have pT:IsPair g' s.heap.objs.size v1 v2:=b''.extBut _ _ (lt h1) a5
  have hn:=I.hok.fresh (Nat.le_refl s.heap.objs.size)
  have kk':∀ q o,q ∉ [z,r,i,j]→s.heap.get? q = some o→g'.get? q = some o:=fun q o hq e=>by
   simp only [List.mem_cons,List.not_mem_nil,or_false,not_or] at hq
   exact b''.extBut q o hq.1 (kk q o hq.1 hq.2.1 hq.2.2.1 hq.2.2.2 e)
  have I1:Inv X pins σ (upd H s.heap.objs.size (.tup [x,y])) { s with heap:=g' }:=I.turnLaid (t':=s.toks) (ch:=[z,r,i,j]) kk' (fun q hq=>hf q (by
   simp only [List.mem_cons,List.not_mem_nil,or_false] at hq ⊢
   rcases hq with h | h | h | h
   ·exact .inl h
   ·exact .inr (.inr (.inl h))
   ·exact .inr (.inr (.inr (.inl h)))
   ·exact .inr (.inr (.inr (.inr h))))) (Nat.le_refl _) ⟨⟨by show 2 ≤ sizeLine; decide,_,pT,rfl⟩,[v1,v2],.cons r1 (.cons r2 .nil),⟨_,pT,rfl,_,rfl⟩⟩
  have fresh:∀ q,q ∈ [z,p,r,i,j]→q ≠ s.heap.objs.size:=fun q hq w=>by
   simp only [List.mem_cons,List.not_mem_nil,or_false] at hq
   obtain ⟨o1,w1,_⟩:=h4.here
   obtain ⟨o2,w2,_⟩:=h5.here
   rcases hq with h | h | h | h | h
   ·exact lt h1 (w.symm.trans h)
   ·exact lt h2 (w.symm.trans h)
   ·exact lt h3 (w.symm.trans h)
   ·exact lt w1 (w.symm.trans h)
   ·exact lt w2 (w.symm.trans h)
  refine ⟨.ref s.heap.objs.size,_,I1,rfl,⟨_,x,y,hn,rfl,rfl,fun zs hz=>by rw [inj zs hz]; exact ex,fun zs hz=>by rw [inj2 zs hz]; exact ey⟩,⟨z',kk' p _ (by simp [D.pz,D.pr,D.pi,D.pj]) h2,⟨_,_,b''.extBut r _ D.rz a2⟩,a3.at fun o e=>b''.extBut i o D.iz e,a4.at fun o e=>b''.extBut j o D.jz e⟩,fun q hq=>?_⟩
  rw [upd_ne (fresh q hq)]
  exact (hf q hq).1
 done:=by
  intro X hP hw hK hc k pins s σ H E I hf st hg
  subst hP hw hK
  obtain ⟨xs,ys,q1,q2,hl⟩:=hg
  obtain ⟨its,rv,sq,inj⟩:=I.seqK q1
  obtain ⟨its2,rv2,sq2,inj2⟩:=I.seqK q2
  obtain ⟨h1,h2,⟨c,d,h3⟩,h4,h5⟩:=st
  have l1:=rv.length
  have l2:=rv2.length
  have ty:s.TypeIs (.ref z) "zip":=⟨_,h1,rfl⟩
  unfold pyNext
  refine wpAny_bind (wpAny_attempt (wpAny_callSpecial?_slot (name:=Str.ofString "__next__") ty F.slot_zip_next (wpAny_call_entry F.slot_zip_next ty F.entry_zip_next
   (zipK_stop (I.ok.hd hc) D h1 h2 h3 h4 h5 sq sq2 (hl.elim (fun h=>.inl (by simp; omega)) fun h=>.inr (by simp; omega)) fun g e kk he=>?_) (F.args_zip_next_1 _))))
  obtain ⟨o,ho,hc'⟩:=he
  refine wpAny_bind (wpAny_isInstance (T:="StopIteration") (b:=true) ⟨o,ho,hc'⟩ isSubtype_stop (wpAny_pure ⟨rfl,?_⟩))
  refine I.turnedN (t':=s.toks) (ch:=[z,r,i,j]) (fun q o hq e=>?_) fun q hq=>hf q (by
   simp only [List.mem_cons,List.not_mem_nil,or_false] at hq ⊢
   rcases hq with h | h | h | h
   ·exact .inl h
   ·exact .inr (.inr (.inl h))
   ·exact .inr (.inr (.inr (.inl h)))
   ·exact .inr (.inr (.inr (.inr h))))
  simp only [List.mem_cons,List.not_mem_nil,or_false,not_or] at hq
  exact kk q o hq.1 hq.2.1 hq.2.2.1 hq.2.2.2 e
 self:=fun _ _ _ _ _ st h=>wpAny_pyIter_zip st.1 h
theorem nne {a b:Nat} (h:a < b∨b < a):(show Addr from a) ≠ (show Addr from b):=fun e=>by
 have e':a = b:=e
 omega
theorem zap_of (N a b:Nat) (ha:a < N) (hb:b < N):ZAp (N + 4) (N + 2) (N + 3) N (N + 1) a b:=by
 constructor <;> exact nne (by omega)
theorem five_le (N q:Nat) (hq:q = N + 4∨q = N + 2∨q = N + 3∨q = N∨q = N + 1):N ≤ q:=by omega
section
variable {X:Cx} {elts:List Expr} {n:Nat} {tpos:Pos}
theorem boot_zip:bootBuiltins "zip" = some (.type "zip"):=by decide +kernel
def iZipG (K:PySem.W.Frag) (ta:TA):TI:=fun σ H R=>ta σ H fun vs H1=>∃ a b t u,vs = [.ref a,.ref b]∧(∃ xs,SqV K t H1 a xs)∧(∃ ys,SqV K u H1 b ys)∧R (Itz (SqV K t) (SqV K u) a b) H1
theorem pi_zipG {e1 e2:Expr} {ta:TA} {p pos:Pos} (hg:Gl X "zip") (hm:X.mg "zip" = none) (ha:PA X [e1,e2] ta) (hs:starEach [e1,e2] X.env = [(false,eval e1 X.env),(false,eval e2 X.env)]:=by rfl) (hs2:starEach [e2] X.env = [(false,eval e2 X.env)]:=by rfl) :
  PI X (.Tuple elts n tpos) (.Call (.Name "zip" p) [e1,e2] [] pos) (iZipG X.K ta):=by
 intro pins s σ H R I h
 refine Call_ (ld_blt I hg hm boot_zip (PyProof.Rows.callWith_type1 (thn (ha pos pins s σ H _ I h) fun us s1 ⟨vs,H1,I1,r1,q1⟩=>?_) (by rw [hs,hs2]) (by rw [hs2]; rfl)))
 obtain ⟨a,b,t,u,e,⟨xs,q1⟩,⟨ys,q2⟩,q⟩:=q1
 subst e
 cases r1 with
 | cons r rr =>
  cases rr with
  | cons r' rr =>
   cases rr
   cases r
   cases r'
   obtain ⟨its,rv,sq,_⟩:=I1.seqK q1
   obtain ⟨its2,rv2,sq2,_⟩:=I1.seqK q2
   refine call_zipK sq sq2 fun g h1 h2 h3 h4 h5 k=>?_
   refine wpAny_pyIter_zip (s:={ s1 with heap:=g }) h1 ?_
   have I2:Inv X pins σ H1 { s1 with heap:=g }:=I1.kept (t':=s1.toks) k
   obtain ⟨oa,fa⟩:=sq.here
   obtain ⟨ob,fb⟩:=sq2.here
   have la:=Heap.lt_size fa
   have lb:=Heap.lt_size fb
   have D:ZAp (s1.heap.objs.size + 4) (s1.heap.objs.size + 2) (s1.heap.objs.size + 3) s1.heap.objs.size (s1.heap.objs.size + 1) a b:=zap_of _ _ _ la lb
   refine ⟨_,[s1.heap.objs.size + 4,s1.heap.objs.size + 2,s1.heap.objs.size + 3,s1.heap.objs.size,s1.heap.objs.size + 1],_,_,H1,rfl,I2,turn_zip t u _ _ _ _ _ a b D,⟨h1,h2,⟨_,_,h3⟩,h4,h5⟩,fun q hq=>?_,q⟩
   have hl:s1.heap.objs.size ≤ q:=by
    simp only [List.mem_cons,List.not_mem_nil,or_false] at hq
    exact five_le _ _ hq
   exact I1.fpOk hl (I1.hok.fresh hl)
end
def zipD:List PyData→List PyData→List PyData
 | d :: ds,e :: es=>.tuple [d,e] :: zipD ds es
 | _,_=>[]
theorem zipD_get:∀ (ds es:List PyData) (k:Nat) (x:PyData),(zipD ds es)[k]? = some x→∃ d e,ds[k]? = some d∧es[k]? = some e∧x = .tuple [d,e]
 | [],_,_,_,h=>by simp [zipD] at h
 | _ :: _,[],_,_,h=>by simp [zipD] at h
 | d :: ds,e :: es,0,x,h=>by
  have e':PyData.tuple [d,e] = x:=by simpa [zipD] using h
  exact ⟨d,e,rfl,rfl,e'.symm⟩
 | d :: ds,e :: es,k + 1,x,h=>by
  obtain ⟨d',e',h1,h2,h3⟩:=zipD_get ds es k x (by simpa [zipD] using h)
  exact ⟨d',e',by simpa using h1,by simpa using h2,h3⟩
theorem zipD_len:∀ (ds es:List PyData),(zipD ds es).length = min ds.length es.length
 | [],_=>by simp [zipD]
 | _ :: _,[]=>by simp [zipD]
 | d :: ds,e :: es=>by simp [zipD,zipD_len ds es]; try omega
theorem zipD_map {α β:Type} (f:α→PyData) (g:β→PyData):∀ (xs:List α) (ys:List β),zipD (xs.map f) (ys.map g) = (xs.zip ys).map fun q=>.tuple [f q.1,g q.2]
 | [],_=>by simp [zipD]
 | _ :: _,[]=>by simp [zipD]
 | x :: xs,y :: ys=>by simp [zipD,zipD_map f g xs ys]
def diZipG (a:DA):DI:=fun δ S R=>a δ S fun xs S1=>arg2 xs fun x y=>∃ ds,seqD x = some ds∧∃ es,seqD y = some es∧R (zipD ds es) S1
theorem seqD_has {K:PySem.W.Frag} {h o:List Addr} {H:Hp} {x:XV} {v:V} {ds:List PyData} (e:seqD x = some ds) (q:HasX h o H x v):∃ t a ws,v = .ref a∧HasL (vx h o H) ds ws∧∀ {o2 H2},ExH h o H o2 H2→SqV K t H2 a ws:=by
 unfold seqD at e
 split at e
 ·cases e
  obtain ⟨a,ws,rfl,ea,l⟩:=has_list.mp (show Has (vx h o H) (.list ds) v from q)
  exact ⟨false,a,ws,rfl,l,fun e2=>(SqL.of (vx_full _ _ (e2.vx _ _ ea)):SqL K _ a ws)⟩
 ·cases e
  obtain ⟨a,ws,rfl,ea,l⟩:=has_tuple.mp (show Has (vx h o H) (.tuple ds) v from q)
  exact ⟨true,a,ws,rfl,l,fun e2=>(SqT.of (vx_full _ _ (e2.vx _ _ ea)):SqT K _ a ws)⟩
 ·cases e
end L2
set_option Elab.async false
set_option linter.all false
set_option maxRecDepth 100000
set_option maxHeartbeats 1000000
namespace L2
open PySem PySem.Spec PyProof.Rows
open Sem (wp)
section
variable {prog:Program} {w:World} {A:Around} {R:Result→Shared→Prop} {I:Addr} {fp wr:List Addr} {n:Nat} {P:Nat→Value→Prop} {St:Nat→Heap→Prop}
end
section
variable {prog:Program} {w:World} {A:Around} {E:Value→Shared→Prop} {s:Shared}
end
theorem re_dict:RE (tFzE tDNewK) (dC (.dict [])):=fun h o H δ σ S R Q he hs q c p hp=>⟨p,[],rfl,upd_same,fun ob=>by
 have e:upd (upd H p (.dK [])) p (.frz ob (.dK [])) = upd H p (.frz ob (.dK [])):=upd_upd
 rw [e]
 refine c o _ S (.d (.dict [])) _ (Ex.of_same (Same.laid hp)) (hs.same (Same.laid hp)) ?_ q
 show Has _ _ _
 simp only [Has]
 exact ⟨p,[],rfl,⟨ob,[],hs.laid hp,rfl,rfl⟩,hasV_nil.mpr rfl⟩⟩
section
variable {S:Sto} {P:Sto→List PyData→Prop} {a b c d:List PyData} {x:List PyData}
theorem ex_snoc {S0:Sto}:(∃ T ds,S0 ++ [x] = T ++ [ds]∧P T ds) ↔ P S0 x:=by
 constructor
 ·rintro ⟨T,ds,e,q⟩
  obtain ⟨rfl,e2⟩:=List.append_inj' e rfl
  cases e2
  exact q
 ·exact fun q=>⟨S0,x,rfl,q⟩
theorem ex_snoc1:(∃ T ds,[a] = T ++ [ds]∧P T ds) ↔ P [] a:=ex_snoc (S0:=[])
end
section
variable {n k:Nat} {ds:List PyData} {d:PyData} {v:V}
end
section
variable {α:Type} {n:Nat} {g:DG} {tt:DT} {te:DE} {fin:Sto→Prop} {S0:Sto} {caps:XE}
theorem cmp_go {h:α→PyData} {f:α→PyData} (P:XE→Prop) (hn:S0.length = n) (l:List α) (τ:XE) (hP:P τ) (hl:l.length ≤ 1000)
  (el:∀ x ∈ l,∀ τ acc (R:XE→RX),P τ→(∀ τ',P τ'→R τ' (.d (f x)) (S0 ++ [acc]))→g (.d (h x)) τ (S0 ++ [acc]) fun τ1 S1=>te τ1 S1 (R τ1)) (hf:fin (S0 ++ [l.map f])):dCmp n g dNoIf te fin (l.map h) τ (S0 ++ [[]]):=by
 have go:∀ (l:List α) (acc:List PyData) (τ:XE),P τ→acc.length + l.length ≤ 1000→(∀ x ∈ l,∀ τ acc (R:XE→RX),P τ→(∀ τ',P τ'→R τ' (.d (f x)) (S0 ++ [acc]))→g (.d (h x)) τ (S0 ++ [acc]) fun τ1 S1=>te τ1 S1 (R τ1)) →
   fin (S0 ++ [acc ++ l.map f])→dCmp n g dNoIf te fin (l.map h) τ (S0 ++ [acc]):=by
  intro l
  induction l with
  | nil=>intro acc τ _ _ _ h; rw [List.map_nil,List.append_nil] at h; exact h
  | cons x l ih =>
   intro acc τ hP hl el hh
   show g (.d (h x)) τ (S0 ++ [acc]) fun τ1 S1=>dNoIf τ1 S1 fun b S2=>if b = true then te τ1 S2 fun x S3=>asD x fun e=>∃ acc,S3[n]? = some acc∧acc.length < 1000∧dCmp n g dNoIf te fin (l.map h) τ1 (S3.set n (acc ++ [e])) else dCmp n g dNoIf te fin (l.map h) τ1 S2
   simp only [dNoIf,↓reduceIte]
   rw [List.length_cons] at hl
   refine el x List.mem_cons_self τ acc (fun τ1 x S3=>asD x fun e=>∃ acc,S3[n]? = some acc∧acc.length < 1000∧dCmp n g dNoIf te fin (l.map h) τ1 (S3.set n (acc ++ [e]))) hP fun τ' hP'=>?_
   refine ⟨acc,by rw [← hn,List.getElem?_concat_length],by omega,?_⟩
   rw [set_last hn]
   refine ih (acc ++ [f x]) τ' hP' (by rw [List.length_append,List.length_singleton]; omega) (fun e m=>el e (List.mem_cons_of_mem _ m)) ?_
   rw [List.append_assoc]
   exact hh
 exact go l [] τ hP (by simpa using hl) el (by simpa using hf)
theorem cmp1 {h:α→PyData} (f:α→PyData) (hn:S0.length = n) (l:List α) {u:Option XV} (hl:l.length ≤ 1000)
  (el:∀ x ∈ l,∀ (u:Option XV) acc (R:XE→RX),(∀ u',R (u' :: caps) (.d (f x)) (S0 ++ [acc]))→g (.d (h x)) (u :: caps) (S0 ++ [acc]) fun τ1 S1=>te τ1 S1 (R τ1)) (hf:fin (S0 ++ [l.map f])):dCmp n g dNoIf te fin (l.map h) (u :: caps) (S0 ++ [[]]) :=
 cmp_go (fun τ=>∃ u,τ = u :: caps) hn l _ ⟨u,rfl⟩ hl (fun x m τ acc R ⟨u,e⟩ k=>by subst e; exact el x m u acc R fun u'=>k _ ⟨u',rfl⟩) hf
theorem cmf_go {h:α→PyData} {f:α→PyData} {p:α→Bool} (P:XE→Prop) (hn:S0.length = n) (l:List α) (τ:XE) (hP:P τ) (hl:l.length ≤ 1000)
  (el:∀ x ∈ l,∀ τ acc (R:XE→Bool→Sto→Prop),P τ→(∀ τ',P τ'→(p x = true→∀ T:RX,T (.d (f x)) (S0 ++ [acc])→te τ' (S0 ++ [acc]) T)→R τ' (p x) (S0 ++ [acc]))→g (.d (h x)) τ (S0 ++ [acc]) fun τ1 S1=>tt τ1 S1 (R τ1))
  (hf:fin (S0 ++ [(l.filter p).map f])):dCmp n g tt te fin (l.map h) τ (S0 ++ [[]]):=by
 have go:∀ (l:List α) (acc:List PyData) (τ:XE),P τ→acc.length + l.length ≤ 1000→(∀ x ∈ l,∀ τ acc (R:XE→Bool→Sto→Prop),P τ→(∀ τ',P τ'→(p x = true→∀ T:RX,T (.d (f x)) (S0 ++ [acc])→te τ' (S0 ++ [acc]) T)→R τ' (p x) (S0 ++ [acc]))→g (.d (h x)) τ (S0 ++ [acc]) fun τ1 S1=>tt τ1 S1 (R τ1)) →
   fin (S0 ++ [acc ++ (l.filter p).map f])→dCmp n g tt te fin (l.map h) τ (S0 ++ [acc]):=by
  intro l
  induction l with
  | nil=>intro acc τ _ _ _ h; rw [List.filter_nil,List.map_nil,List.append_nil] at h; exact h
  | cons x l ih =>
   intro acc τ hP hl el hh
   show g (.d (h x)) τ (S0 ++ [acc]) fun τ1 S1=>tt τ1 S1 fun b S2=>if b = true then te τ1 S2 fun x S3=>asD x fun e=>∃ acc,S3[n]? = some acc∧acc.length < 1000∧dCmp n g tt te fin (l.map h) τ1 (S3.set n (acc ++ [e])) else dCmp n g tt te fin (l.map h) τ1 S2
   rw [List.length_cons] at hl
   refine el x List.mem_cons_self τ acc (fun τ1 b S2=>if b = true then te τ1 S2 fun x S3=>asD x fun e=>∃ acc,S3[n]? = some acc∧acc.length < 1000∧dCmp n g tt te fin (l.map h) τ1 (S3.set n (acc ++ [e])) else dCmp n g tt te fin (l.map h) τ1 S2) hP fun τ' hP' ev=>?_
   cases hp:p x with
   | false =>
    rw [List.filter_cons_of_neg (by rw [hp]; exact Bool.false_ne_true)] at hh
    exact iteF (ih acc τ' hP' (by omega) (fun e m=>el e (List.mem_cons_of_mem _ m)) hh)
   | true =>
    rw [List.filter_cons_of_pos hp,List.map_cons] at hh
    refine iteT (ev hp _ ⟨acc,by rw [← hn,List.getElem?_concat_length],by omega,?_⟩)
    rw [set_last hn]
    exact ih (acc ++ [f x]) τ' hP' (by rw [List.length_append,List.length_singleton]; omega) (fun e m=>el e (List.mem_cons_of_mem _ m)) (by rw [List.append_assoc]; exact hh)
 exact go l [] τ hP (by simpa using hl) el (by simpa using hf)
theorem cmf1 {h:α→PyData} (f:α→PyData) (p:α→Bool) (hn:S0.length = n) (l:List α) {u:Option XV} (hl:l.length ≤ 1000)
  (el:∀ x ∈ l,∀ (u:Option XV) acc (R:XE→Bool→Sto→Prop),(∀ u',(p x = true→∀ T:RX,T (.d (f x)) (S0 ++ [acc])→te (u' :: caps) (S0 ++ [acc]) T)→R (u' :: caps) (p x) (S0 ++ [acc]))→g (.d (h x)) (u :: caps) (S0 ++ [acc]) fun τ1 S1=>tt τ1 S1 (R τ1)) (hf:fin (S0 ++ [(l.filter p).map f])):dCmp n g tt te fin (l.map h) (u :: caps) (S0 ++ [[]]) :=
 cmf_go (fun τ=>∃ u,τ = u :: caps) hn l _ ⟨u,rfl⟩ hl (fun x m τ acc R ⟨u,e⟩ k=>by subst e; exact el x m u acc R fun u' hh=>k _ ⟨u',rfl⟩ hh) hf
theorem cmf2 {h:α→PyData} (f:α→PyData) (p:α→Bool) (hn:S0.length = n) (l:List α) {u v:Option XV} (hl:l.length ≤ 1000)
  (el:∀ x ∈ l,∀ (u v:Option XV) acc (R:XE→Bool→Sto→Prop),(∀ u' v',(p x = true→∀ T:RX,T (.d (f x)) (S0 ++ [acc])→te (u' :: v' :: caps) (S0 ++ [acc]) T)→R (u' :: v' :: caps) (p x) (S0 ++ [acc]))→g (.d (h x)) (u :: v :: caps) (S0 ++ [acc]) fun τ1 S1=>tt τ1 S1 (R τ1)) (hf:fin (S0 ++ [(l.filter p).map f])):dCmp n g tt te fin (l.map h) (u :: v :: caps) (S0 ++ [[]]) :=
 cmf_go (fun τ=>∃ u v,τ = u :: v :: caps) hn l _ ⟨u,v,rfl⟩ hl (fun x m τ acc R ⟨u,v,e⟩ k=>by subst e; exact el x m u v acc R fun u' v' hh=>k _ ⟨u',v',rfl⟩ hh) hf
end
end L2
set_option Elab.async false
set_option linter.all false
set_option maxRecDepth 100000
set_option maxHeartbeats 1000000
namespace L2
open PySem PySem.Spec PyProof.Rows
section
variable {X:Cx} {e ek:Expr} {te tk:TE} {pos p2:Pos}
def rRev (K:PySem.W.Frag):V→Hp→VK→Prop:=fun x H Q=>∃ a xs,x = .ref a∧SqL K H a xs∧∀ p,H p = none→Q (.ref p) (upd H p (.lst xs.reverse))
def tRev (K:PySem.W.Frag) (te tk:TE):TE:=fun σ H Q=>te σ H fun x H1=>tk σ H1 fun y H2=>y = .int (-1)∧rRev K x H2 Q
theorem Vals.rev {xs:List V} {us:List Value} (r:Vals xs us):Vals xs.reverse us.reverse:=by
 induction r with
 | nil=>exact .nil
 | cons h _ ih =>
  rw [List.reverse_cons,List.reverse_cons]
  exact ih.append (.cons h .nil)
theorem pe_rev (he:PE X e te) (hk:PE X ek tk):PE X (.Subscript e (.Slice none none (some ek) p2) pos) (tRev X.K te tk):=by
 intro pins s σ H Q I h
 refine Subscript_ (thn (he pins s σ H _ I h) fun v s1 ⟨x,H1,I1,r1,q1⟩=>?_)
 refine wpAny_Slice ?_
 rw [evalPart_none]
 refine wpAny_pure (wpAny_pure ?_)
 rw [evalPart_some]
 refine thn (hk pins s1 σ H1 _ I1 q1) fun vk s3 ⟨y,H3,I3,ry,q3⟩=>?_
 obtain ⟨rfl,a,xs,rfl,hx,q⟩:=q3
 obtain ⟨t,rfl⟩:=ry
 cases r1
 have I4:Inv X pins σ H3 { s3 with heap:=s3.heap.push { cls:=.type "slice",data:=.fields #[.none,.none,.int (-1) t] } }:=I3.kept (t':=s3.toks) fun b ob q=>Heap.get?_push_of_some _ q
 obtain ⟨its,r,ht,hz⟩:=I4.list hx
 have hlen:=r.length
 show wpAny (model X.prog X.w) X.A (subscriptTail e (.Slice none none (some ek) p2) (.ref a) (.ref s3.heap.objs.size)) (EP X pins σ Q) X.xe { s3 with heap:=s3.heap.push { cls:=.type "slice",data:=.fields #[.none,.none,.int (-1) t] } }
 refine tail_any (ops:=[.ref a,.ref s3.heap.objs.size]) ht.isList.typeIs slot_list_getitem.lookup ?_ (by with_unfolding_all rfl)
 refine wpAny_getItem_list_slice ht.isList (Heap.IsSliceOf.new ..) .none .none (.int (-1) t) (by decide) ?_ (by rw [List.size_toArray] <;> omega)
 rw [PySem.W.krv_pick]
 refine ⟨.ref _,_,I4.laid (t':=s3.toks) (o:=.lst xs.reverse) (fun b ob q=>Heap.get?_push_of_some _ q) (Nat.le_refl _) ?_,rfl,q _ (I4.hok.fresh (Nat.le_refl _))⟩
 exact ⟨by rw [List.length_reverse]; exact hz,_,0,r.rev,Heap.get?_push_size _ rfl⟩
end
def dRevX (x:XV) (S:Sto) (R:RX):Prop:=match x with
 | .d (.list ds)=>R (.d (.list ds.reverse)) S
 | .l k=>∃ ds,S[k]? = some ds∧R (.d (.list ds.reverse)) S
 | _=>False
def dRev (e k:DE):DE:=fun δ S R=>e δ S fun x S1=>k δ S1 fun y S2=>y = .d (.int (-1))∧dRevX x S2 R
theorem re_rev {K:PySem.W.Frag} {te tk:TE} {de dk:DE} (he':RE te de) (hk':RE tk dk):RE (tRev K te tk) (dRev de dk):=fun h o H δ σ S R Q he hs q c =>
 he' h o H δ σ S _ _ he hs q fun o1 H1 S1 x v e1 s1 x1 d1=>hk' h o1 H1 δ σ S1 _ _ (he.mono e1) s1 d1 fun o2 H2 S2 y u e2 s2 y2 d2=>by
  obtain ⟨rfl,d2⟩:=d2
  refine ⟨hx_int y2,?_⟩
  have x2:=x1.mono e2
  unfold dRevX at d2
  split at d2
  ·obtain ⟨p,vs,rfl,ea,l⟩:=hx_lst s2 (x:=.d (.list _)) rfl x2
   exact ⟨p,vs,rfl,.of ea,mkLst s2 l.rev (Cn.pre c (e1.trans e2)) d2⟩
  ·obtain ⟨ds,e0,d2⟩:=d2
   obtain ⟨p,vs,rfl,ea,l⟩:=hx_lst s2 (x:=.l _) e0 x2
   exact ⟨p,vs,rfl,.of ea,mkLst s2 l.rev (Cn.pre c (e1.trans e2)) d2⟩
  ·exact d2.elim
section
variable {S:Sto} {R:RX} {ds:List PyData} {k:Nat}
theorem dRevX_l:dRevX (.d (.list ds)) S R = R (.d (.list ds.reverse)) S:=rfl
end
end L2
set_option Elab.async false
set_option linter.all false
set_option maxRecDepth 100000
set_option maxHeartbeats 1000000
namespace L2
open PySem PySem.Spec PyProof.Rows
section
open PySem.SeqAt
open PySem.AutoSeq1 (wpAny_loadPart')
open PySem.MeetsSeq PySem.MeetsSeq2 PySem.MeetsSeq3
end
end L2
set_option Elab.async false
set_option linter.all false
set_option maxRecDepth 100000
set_option maxHeartbeats 1000000
namespace L2
open PySem PySem.Spec PyProof.Rows
section
variable {prog:Program} {w:World} {A:Around} {E:Value→Shared→Prop} {s:Shared}
end
end L2
set_option Elab.async false
set_option linter.all false
set_option maxRecDepth 100000
set_option maxHeartbeats 1000000
namespace L2
open PySem PySem.Spec PyProof.Rows
section
variable {X:Cx} {scope:Scope} {cl:List (Str × Addr)} {N:List Str} {caps:List (Option Nat)} {tg iter elt:Expr} {ifs:List Expr} {pos:Pos} {wi:TI} {g:TG} {tt:TT} {te:TE}
end
end L2
set_option Elab.async false
set_option linter.all false
set_option maxRecDepth 100000
namespace L2
open PySem PySem.Spec PyProof.Rows
@[irreducible] def QSs (X:Cx) (st:List Stmt) (t:TS):Prop:=PSs X st t
theorem QSs.out {X:Cx} {st:List Stmt} {t:TS} (h:QSs X st t):PSs X st t:=by unfold QSs at h; exact h
@[irreducible] def QA (X:Cx) (es:List Expr) (t:TA):Prop:=PA X es t
theorem QA.out {X:Cx} {es:List Expr} {t:TA} (h:QA X es t):PA X es t:=by unfold QA at h; exact h
theorem QA.mk {X:Cx} {es:List Expr} {t:TA} (h:PA X es t):QA X es t:=by unfold QA; exact h
theorem qa_nil {X:Cx}:QA X [] tNil:=QA.mk pa_nil
theorem qa_cons {X:Cx} {e:Expr} {es:List Expr} {te:TE} {t:TA} (ha:PE X e te) (hr:QA X es t) (hs:starEach (e :: es) X.env = (false,eval e X.env) :: starEach es X.env:=by rfl):QA X (e :: es) (tCons te t):=QA.mk (pa_cons ha hr.out hs)
theorem pe_lstQ {X:Cx} {es:List Expr} {t:TA} {pos:Pos} (h:QA X es t):PE X (.List es pos) (tLst t):=pe_lst h.out
@[irreducible] def QS (X:Cx) (st:Stmt) (t:TS):Prop:=PS X st t
theorem QS.out {X:Cx} {st:Stmt} {t:TS} (h:QS X st t):PS X st t:=by unfold QS at h; exact h
end L2
set_option Elab.async false
set_option linter.all false
set_option maxRecDepth 100000
set_option maxHeartbeats 1000000
namespace L2
open PySem PySem.Spec PyProof.Rows
section
variable {X:Cx}
end
end L2
set_option Elab.async false
set_option linter.all false
set_option maxRecDepth 100000
set_option maxHeartbeats 2000000
namespace L2
open PySem PySem.Spec PyProof.Rows
section
variable {prog:Program} {w:World} {A:Around} {E:Value→Shared→Prop} {s:Shared}
end
end L2
set_option Elab.async false
set_option linter.all false
set_option maxRecDepth 100000
set_option maxHeartbeats 2000000
namespace L2
open PySem PySem.Spec PyProof.Rows
section
variable {X:Cx} {l e:Expr} {ta:TE} {tb:TA} {p pos pos':Pos}
end
end L2
namespace HT
open PySem PyProof.Rows
section
variable {prog:Program} {w:World} {A:Around} {E:Value→Shared→Prop} {s:Shared}
theorem tup_whole {t sl:Addr} {items:Array Value} {vl vu:Value} {lo hi:Option Int} {Q:Value→Shared→Prop} (ht:IsTup s.heap t items) (hs:s.heap.IsSliceOf sl vl vu .none) (pl:IsPart vl lo) (pu:IsPart vu hi)
  (hw:sIx items.size 0 lo = 0∧sIx items.size items.size hi = items.size) (h:Q (.ref t) s):wpAny (model prog w) A (getItem (.ref t) (.ref sl)) Q E s:=by
 obtain ⟨os,hos,hcs,hds⟩:=id hs
 have hTs:s.TypeIs (.ref sl) "slice":=⟨os,hos,hcs⟩
 unfold getItem
 try with_reducible refine wpAny_holding ?_
 first | refine wpAny_bind (wpAny_pure ?_) | skip
 refine wpAny_bind (wpAny_sequenceKey ht.typeIs (by decide) ?_)
 refine wpAny_bind (wpAny_callSpecial?_slot (name:=Str.ofString "__getitem__") ht.typeIs PyProof.Rows.slot_tuple_getitem
  (wpAny_call_entry PyProof.Rows.slot_tuple_getitem ht.typeIs entry_tuple_getitem ?_ (args_tuple_getitem _ _)))
 show wpAny _ _ (Builtin.Tuple.tupleItemsOf (.ref t) >>= _) _ _ s
 refine wpAny_bind (tupleItemsOf_ ht (wpAny_bind (wpAny_typeOf hTs ?_)))
 rw [if_pos (by decide)]
 refine wpAny_bind (sliceApplied_gen hs pl pu ?_)
 rw [hw.1,hw.2]
 show wpAny _ _ (if (((0:Nat):Int) == 0 && (1:Int) == 1 && (items.size - 0) == items.size) = true then _ else _) _ _ s
 rw [if_pos (by simp)]
 unfold Builtin.Tuple.tupleIsExact
 refine wpAny_bind (wpAny_bind (wpAny_typeOf ht.typeIs (wpAny_pure ?_)))
 rw [if_pos (by decide)]
 exact wpAny_bind (wpAny_rule (wpAny_pure ⟨_,rfl,wpAny_pure h⟩))
theorem pick_rev (xs:Array Value):((List.range xs.size).filterMap fun (k:Nat)=>xs[((xs.size:Int) - 1 + (k:Int) * (-1)).toNat]?).toArray = xs.toList.reverse.toArray:=by
 congr 1
 have e:∀ (l:List Nat),(∀ k ∈ l,k < xs.size)→l.filterMap (fun (k:Nat)=>xs[((xs.size:Int) - 1 + (k:Int) * (-1)).toNat]?) = l.map fun k=>xs.toList.getD (xs.size - 1 - k) .none:=by
  intro l
  induction l with
  | nil=>intro _; rfl
  | cons k l ih =>
   intro h
   have hk:=h k List.mem_cons_self
   have e1:((xs.size:Int) - 1 + (k:Int) * (-1)).toNat = xs.size - 1 - k:=by omega
   have e2:xs[xs.size - 1 - k]? = some (xs.toList.getD (xs.size - 1 - k) .none):=by
    rw [List.getD_eq_getElem?_getD,Array.getElem?_toList,Array.getElem?_eq_getElem (by omega)]
    rfl
   rw [List.filterMap_cons,e1,e2,List.map_cons,ih fun y m=>h y (List.mem_cons_of_mem _ m)]
 rw [e _ fun k m=>List.mem_range.mp m]
 refine List.ext_getElem (by simp) fun i h1 h2=>?_
 simp only [List.getElem_map,List.getElem_range,List.getElem_reverse,Array.length_toList]
 rw [List.getD_eq_getElem?_getD,List.getElem?_eq_getElem (by simp at h1 ⊢; omega)]
 rfl
theorem tup_rev {t sl:Addr} {items:Array Value} {tk:Tok} {Q:Value→Shared→Prop} (ht:IsTup s.heap t items) (hs:s.heap.IsSliceOf sl .none .none (.int (-1) tk)) (hsz:items.size ≤ sizeLine)
  (h:Q (.ref s.heap.objs.size) { s with heap:=s.heap.push { cls:=.type "tuple",data:=.seq items.toList.reverse.toArray } }):wpAny (model prog w) A (getItem (.ref t) (.ref sl)) Q E s:=by
 have fits:sizeOk (.seq items.toList.reverse.toArray):=by
  show items.toList.reverse.toArray.size ≤ sizeLine
  rw [List.size_toArray,List.length_reverse,Array.length_toList]
  exact hsz
 obtain ⟨os,hos,hcs,hds⟩:=id hs
 have hTs:s.TypeIs (.ref sl) "slice":=⟨os,hos,hcs⟩
 unfold getItem
 try with_reducible refine wpAny_holding ?_
 first | refine wpAny_bind (wpAny_pure ?_) | skip
 refine wpAny_bind (wpAny_sequenceKey ht.typeIs (by decide) ?_)
 refine wpAny_bind (wpAny_callSpecial?_slot (name:=Str.ofString "__getitem__") ht.typeIs PyProof.Rows.slot_tuple_getitem
  (wpAny_call_entry PyProof.Rows.slot_tuple_getitem ht.typeIs entry_tuple_getitem ?_ (args_tuple_getitem _ _)))
 show wpAny _ _ (Builtin.Tuple.tupleItemsOf (.ref t) >>= _) _ _ s
 refine wpAny_bind (tupleItemsOf_ ht (wpAny_bind (wpAny_typeOf hTs ?_)))
 rw [if_pos (by decide)]
 unfold Builtin.Slice.sliceApplied Builtin.Slice.sliceFields
 refine wpAny_bind (wpAny_bind (wpAny_bind (wpAny_field hos hds (x:=.none) rfl (wpAny_bind (wpAny_field hos hds (x:=.none) rfl (wpAny_bind (wpAny_field hos hds (x:=.int (-1) tk) rfl (wpAny_pure ?_))))))))
 refine wpAny_bind (slicePart_int ?_)
 show wpAny _ _ (if ((-1:Int) == 0) = true then _ else _) _ _ s
 rw [if_neg (by decide)]
 refine wpAny_bind (slicePart_none (wpAny_bind (slicePart_none (wpAny_bind (wpAny_pure ?_)))))
 have e1:Builtin.Slice.sliceAdjust none none (-1) (items.size:Int) = ((items.size:Int) - 1,-1):=rfl
 have e2:Builtin.Slice.slicePlaces ((items.size:Int) - 1) (-1) (-1) = items.size:=by
  unfold Builtin.Slice.slicePlaces
  rw [if_neg (by decide)]
  split
  ·rw [show (-(-1):Int) = 1 by decide,Int.ediv_one]
   omega
  ·have:items.size = 0:=by omega
   rw [this]
   rfl
 show wpAny _ _ (match Builtin.Slice.sliceAdjust none none (-1) (items.size:Int) with | (lo,hi)=>pure (lo,(-1:Int),Builtin.Slice.slicePlaces lo hi (-1))) _ _ s
 rw [e1]
 show wpAny _ _ (pure ((items.size:Int) - 1,(-1:Int),Builtin.Slice.slicePlaces ((items.size:Int) - 1) (-1) (-1))) _ _ s
 rw [e2]
 refine wpAny_pure ?_
 show wpAny _ _ (if (((items.size:Int) - 1 == 0 && (-1:Int) == 1 && items.size == items.size) = true) then _ else _) _ _ s
 rw [if_neg (by simp),pick_rev]
 first
  | exact wpAny_bind (m:=Builtin.Tuple.tupleExact _) (wpAny_newObj_type (wpAny_pure ⟨_,rfl,wpAny_pure h⟩) fits)
  | exact wpAny_bind (m:=Builtin.Tuple.tupleExact _) (wpAny_newObj_type (wpAny_bind (wpAny_pure (wpAny_pure ⟨_,rfl,wpAny_pure h⟩))) fits)
  | exact wpAny_bind (wpAny_bind (m:=Builtin.Tuple.tupleExact _) (wpAny_newObj_type (wpAny_pure (wpAny_pure ⟨_,rfl,wpAny_pure h⟩)) fits))
  | exact wpAny_bind (wpAny_bind (m:=Builtin.Tuple.tupleExact _) (wpAny_newObj_type (wpAny_pure ⟨_,rfl,wpAny_pure h⟩) fits))
end
end HT
namespace L2
open PySem PySem.Spec PyProof.Rows
section
variable {X:Cx} {e ek:Expr} {te tk:TE} {pos p2:Pos}
def tRevT (K:PySem.W.Frag) (te tk:TE):TE:=fun σ H Q=>te σ H fun x H1=>tk σ H1 fun y H2=>y = .int (-1)∧∃ a xs,x = .ref a∧SqT K H2 a xs∧∀ p,H2 p = none→Q (.ref p) (upd H2 p (.tup xs.reverse))
theorem pe_revT (he:PE X e te) (hk:PE X ek tk):PE X (.Subscript e (.Slice none none (some ek) p2) pos) (tRevT X.K te tk):=by
 intro pins s σ H Q I h
 refine Subscript_ (thn (he pins s σ H _ I h) fun v s1 ⟨x,H1,I1,r1,q1⟩=>?_)
 refine wpAny_Slice ?_
 rw [evalPart_none]
 refine wpAny_pure (wpAny_pure ?_)
 rw [evalPart_some]
 refine thn (hk pins s1 σ H1 _ I1 q1) fun vk s3 ⟨y,H3,I3,ry,q3⟩=>?_
 obtain ⟨rfl,a,xs,rfl,hx,q⟩:=q3
 obtain ⟨t,rfl⟩:=ry
 cases r1
 have I4:Inv X pins σ H3 { s3 with heap:=s3.heap.push { cls:=.type "slice",data:=.fields #[.none,.none,.int (-1) t] } }:=I3.kept (t':=s3.toks) fun b ob q=>Heap.get?_push_of_some _ q
 obtain ⟨its,r,ht,hz⟩:=I4.tuple hx
 have hlen:=r.length
 show wpAny (model X.prog X.w) X.A (subscriptTail e (.Slice none none (some ek) p2) (.ref a) (.ref s3.heap.objs.size)) (EP X pins σ Q) X.xe { s3 with heap:=s3.heap.push { cls:=.type "slice",data:=.fields #[.none,.none,.int (-1) t] } }
 refine tail_any (ops:=[.ref a,.ref s3.heap.objs.size]) ht.typeIs PyProof.Rows.slot_tuple_getitem.lookup ?_ (by with_unfolding_all rfl)
 refine HT.tup_rev ht (Heap.IsSliceOf.new ..) (by rw [List.size_toArray]; omega) ?_
 refine ⟨.ref _,_,I4.laid (t':=s3.toks) (o:=.tup xs.reverse) (fun b ob q=>Heap.get?_push_of_some _ q) (Nat.le_refl _) ?_,rfl,q _ (I4.hok.fresh (Nat.le_refl _))⟩
 exact ⟨⟨by rw [List.length_reverse]; exact hz,_,Heap.get?_push_size _ rfl,rfl⟩,_,r.rev,IsTup.new _ _⟩
def rSlW (K:PySem.W.Frag):V→Option Int→Option Int→Hp→VK→Prop:=fun x lo hi H Q=>∃ a xs,x = .ref a∧SqT K H a xs ∧
 ((HT.sIx xs.length 0 lo = 0∧HT.sIx xs.length xs.length hi = xs.length)→Q (.ref a) H)∧∀ p,H p = none→Q (.ref p) (upd H p (.tup (cutV xs lo hi)))
theorem sl_tupW:SlR X (rSlW X.K):=by
 intro pins s σ H x v vl vu lo hi sl Q I rx hs pl pu h
 obtain ⟨a,xs,rfl,hx,hw,q⟩:=h
 by_cases z:HT.sIx xs.length 0 lo = 0∧HT.sIx xs.length xs.length hi = xs.length
 ·cases rx
  obtain ⟨its,r,ht,hz⟩:=I.tuple hx
  have hlen:its.toArray.size = xs.length:=by rw [List.size_toArray]; exact r.length.symm
  refine ⟨"tuple",_,PyProof.Rows.slot_tuple_getitem.lookup,ht.typeIs,?_⟩
  exact HT.tup_whole ht hs pl pu (by rw [hlen]; exact z) ⟨.ref a,H,I,rfl,hw z⟩
 ·exact sl_tup pins s σ H _ v vl vu lo hi sl Q I rx hs pl pu ⟨a,xs,rfl,hx,z,q⟩
end
def dSlW:D3:=fun x i j S R=>asT x fun ds=>R (.d (.tuple (cutL ds i j))) S
theorem cutL_whole {α:Type} (xs:List α) (lo hi:Option Int) (h:HT.sIx xs.length 0 lo = 0∧HT.sIx xs.length xs.length hi = xs.length):cutL xs lo hi = xs:=by
 unfold cutL
 rw [h.1,h.2]
 simp
theorem rl_tupW {K:PySem.W.Frag}:RL (rSlW K) dSlW:=fun h o H S x v a b R Q hs hx q c=>by
 replace q:=asT_ex q
 obtain ⟨ds,rfl,q⟩:=q
 obtain ⟨p,vs,rfl,ea,l⟩:=hx_tup hx
 refine ⟨p,vs,rfl,.of ea,fun z=>?_,mkTup hs (l.cut a b) c q⟩
 rw [l.length] at z
 rw [cutL_whole ds a b z] at q
 exact c o H S _ _ Ex.refl hs hx q
def dRevT (e k:DE):DE:=fun δ S R=>e δ S fun x S1=>k δ S1 fun y S2=>y = .d (.int (-1))∧asT x fun ds=>R (.d (.tuple ds.reverse)) S2
theorem re_revT {K:PySem.W.Frag} {te tk:TE} {de dk:DE} (he':RE te de) (hk':RE tk dk):RE (tRevT K te tk) (dRevT de dk):=fun h o H δ σ S R Q he hs q c =>
 he' h o H δ σ S _ _ he hs q fun o1 H1 S1 x v e1 s1 x1 d1=>hk' h o1 H1 δ σ S1 _ _ (he.mono e1) s1 d1 fun o2 H2 S2 y u e2 s2 y2 d2=>by
  obtain ⟨rfl,d2⟩:=d2
  obtain ⟨ds,rfl,d3⟩:=asT_ex d2
  obtain ⟨p,vs,rfl,ea,l⟩:=hx_tup (x1.mono e2)
  exact ⟨hx_int y2,p,vs,rfl,.of ea,mkTup s2 l.rev (Cn.pre c (e1.trans e2)) d3⟩
section
variable {X:Cx} {a b c d:Expr} {ta tb tc td:TE} {pos:Pos}
end
end L2
set_option Elab.async false
set_option linter.all false
set_option maxRecDepth 100000
set_option maxHeartbeats 2000000
namespace L2
open PySem PySem.Spec PyProof.Rows
section
variable {X:Cx} {l e e':Expr} {es:List Expr} {ta:TE} {tb:TA} {p pos pos':Pos} {k:Bool}
end
end L2
set_option Elab.async false
set_option linter.all false
set_option maxRecDepth 100000
set_option maxHeartbeats 2000000
namespace L2
open PySem PySem.Spec PyProof.Rows
end L2
set_option Elab.async false
set_option linter.all false
set_option maxRecDepth 100000
set_option maxHeartbeats 2000000
namespace L2
open PySem PySem.Spec PyProof.Rows
end L2
namespace L2
open PySem PySem.Spec PyProof.Rows
@[irreducible] def QE (X:Cx) (e:Expr) (t:TE):Prop:=PE X e t
theorem QE.out {X:Cx} {e:Expr} {t:TE} (h:QE X e t):PE X e t:=by unfold QE at h; exact h
section
variable {X:Cx} {es l l':List Expr} {te:TE} {t:TA} {k:Nat} {p:Pos} {c:Const} {x:Str} {ks:List (Option Expr)}
end
end L2
set_option Elab.async false
set_option linter.all false
set_option maxRecDepth 100000
set_option maxHeartbeats 2000000
namespace L2
open PySem PySem.Spec PySem.Calls PyProof.Rows PySem.W
section
variable {prog:Program} {w:World} {A:Around} {E:Value→Shared→Prop} {s:Shared}
def KeptBut (a:Addr) (h h':Heap):Prop:=∀ b o,b ≠ a→h.get? b = some o→h'.get? b = some o
end
end L2
set_option Elab.async false
set_option linter.all false
set_option maxRecDepth 100000
set_option maxHeartbeats 2000000
namespace L2
open PySem PySem.Spec PyProof.Rows
section
variable {prog:Program} {w:World} {A:Around} {E:Value→Shared→Prop} {s:Shared}
end
end L2
set_option Elab.async false
set_option linter.all false
set_option maxRecDepth 100000
set_option maxHeartbeats 2000000
namespace L2
open PySem PySem.Spec PyProof.Rows
open Sem (wp)
abbrev IsT (h:Heap) (T:Addr) (xs:Array Value):Prop:=h.get? T = some { cls:=.type "tuple",data:=.seq xs }
section
variable {prog:Program} {w:World} {A:Around} {E:Value→Shared→Prop} {s:Shared}
end
end L2
set_option Elab.async false
set_option linter.all false
set_option maxRecDepth 100000
set_option maxHeartbeats 2000000
namespace L2
open PySem PySem.Spec PyProof.Rows
open Sem (wp)
namespace F4
end F4
section
variable {prog:Program} {w:World} {A:Around} {E:Value→Shared→Prop} {s:Shared}
end
section
variable {X:Cx} {elts:List Expr} {n:Nat} {tpos:Pos}
end
end L2
set_option Elab.async false
set_option linter.all false
namespace L2
open PySem PySem.Spec PyProof.Rows
end L2
set_option Elab.async false
set_option linter.all false
set_option maxRecDepth 100000
set_option maxHeartbeats 1000000
namespace L2
open PySem PySem.Spec PyProof.Rows
structure Bel (xs:Array Nat) (j r:Nat):Prop where
 le:r ≤ xs.size
 lo:∀ i x,i < r→xs[i]? = some x→x < j
 hi:∀ i x,r ≤ i→xs[i]? = some x→j ≤ x
abbrev Rise (xs:Array Nat):Prop:=xs.toList.Pairwise (· < ·)
theorem Rise.at {xs:Array Nat} (h:Rise xs) {i k x y:Nat} (ik:i < k) (ei:xs[i]? = some x) (ek:xs[k]? = some y):x < y:=by
 rw [← Array.getElem?_toList] at ei ek
 obtain ⟨hi,rfl⟩:=List.getElem?_eq_some_iff.mp ei
 obtain ⟨hk,rfl⟩:=List.getElem?_eq_some_iff.mp ek
 exact List.pairwise_iff_getElem.mp h i k hi hk ik
theorem bel_go {xs:Array Nat} {j:Nat} (h:Rise xs):∀ (fuel lo hi:Nat),lo ≤ hi→hi ≤ xs.size→hi - lo ≤ fuel→(∀ i x,i < lo→xs[i]? = some x→x < j)→(∀ i x,hi ≤ i→xs[i]? = some x→j ≤ x)→Bel xs j (SetTable.below.go xs j fuel lo hi)
 | 0,lo,hi,l1,l2,l3,a,b=>by
  unfold SetTable.below.go
  have:hi = lo:=by omega
  subst this
  exact ⟨l2,a,b⟩
 | fuel + 1,lo,hi,l1,l2,l3,a,b=>by
  unfold SetTable.below.go
  by_cases h1:lo < hi
  ·rw [if_pos h1]
   have hm:(lo + hi) / 2 < xs.size:=by omega
   have em:xs[(lo + hi) / 2]? = some xs[(lo + hi) / 2]:=Array.getElem?_eq_getElem hm
   have eg:xs.getD ((lo + hi) / 2) j = xs[(lo + hi) / 2]:=by simp [Array.getD,hm]
   dsimp only
   rw [eg]
   by_cases h2:xs[(lo + hi) / 2] < j
   ·rw [if_pos h2]
    refine bel_go h fuel _ _ (by omega) l2 (by omega) (fun i x hi' e=>?_) b
    by_cases h3:i = (lo + hi) / 2
    ·subst h3
     rw [em] at e
     cases e
     exact h2
    ·exact Nat.lt_trans (h.at (by omega) e em) h2
   ·rw [if_neg h2]
    refine bel_go h fuel _ _ (by omega) (by omega) (by omega) a fun i x hi' e=>?_
    by_cases h3:i = (lo + hi) / 2
    ·subst h3
     rw [em] at e
     cases e
     omega
    ·have:=h.at (show (lo + hi) / 2 < i by omega) em e
     omega
  ·rw [if_neg h1]
   have:hi = lo:=by omega
   subst this
   exact ⟨l2,a,b⟩
theorem bel {xs:Array Nat} {j:Nat} (h:Rise xs):Bel xs j (SetTable.below xs j):=by
 unfold SetTable.below
 refine bel_go h _ _ _ (Nat.zero_le _) (Nat.le_refl _) (by omega) (fun i x z=>absurd z (Nat.not_lt_zero _)) fun i x z e=>?_
 have:=(Array.getElem?_eq_some_iff.mp e).1
 omega
theorem bel_one {xs:Array Nat} {j r q:Nat} (a:Bel xs j r) (b:Bel xs j q):r = q:=by
 rcases Nat.lt_trichotomy r q with h | h | h
 ·have hs:r < xs.size:=by have:=b.le; omega
  have e:=Array.getElem?_eq_getElem hs
  have:=a.hi r _ (Nat.le_refl _) e
  have:=b.lo r _ h e
  omega
 ·exact h
 ·have hs:q < xs.size:=by have:=a.le; omega
  have e:=Array.getElem?_eq_getElem hs
  have:=b.hi q _ (Nat.le_refl _) e
  have:=a.lo q _ h e
  omega
theorem rise_put {xs:Array Nat} {j:Nat} (h:Rise xs) (hn:xs[SetTable.below xs j]? ≠ some j):Rise (SetTable.insertAt xs (SetTable.below xs j) j):=by
 have b:=bel (j:=j) h
 generalize SetTable.below xs j = r at b hn
 unfold Rise
 rw [SetTable.toList_insertAt]
 have h1:∀ x ∈ xs.toList.take r,x < j:=fun x m=>by
  obtain ⟨i,hi⟩:=List.mem_iff_getElem?.mp m
  have il:i < r:=by
   have:=(List.getElem?_eq_some_iff.mp hi).1
   rw [List.length_take] at this
   omega
  rw [List.getElem?_take,if_pos il,Array.getElem?_toList] at hi
  exact b.lo i x il hi
 have h2:∀ x ∈ xs.toList.drop r,j < x:=fun x m=>by
  obtain ⟨i,hi⟩:=List.mem_iff_getElem?.mp m
  rw [List.getElem?_drop,Array.getElem?_toList] at hi
  have le:=b.hi (r + i) x (by omega) hi
  rcases Nat.eq_or_lt_of_le le with e | l
  ·exfalso
   subst e
   cases i with
   | zero=>exact hn hi
   | succ i =>
    have hs:r < xs.size:=by have:=(Array.getElem?_eq_some_iff.mp hi).1; omega
    have e:=Array.getElem?_eq_getElem hs
    have:=b.hi r _ (Nat.le_refl _) e
    have:=h.at (show r < r + (i + 1) by omega) e hi
    omega
  ·exact l
 refine List.pairwise_append.mpr ⟨List.Pairwise.sublist (List.take_sublist _ _) h,List.pairwise_cons.mpr ⟨h2,List.Pairwise.sublist (List.drop_sublist _ _) h⟩,fun x mx y my=>?_⟩
 rcases List.mem_cons.mp my with rfl | my
 ·exact h1 x mx
 ·exact Nat.lt_trans (h1 x mx) (h2 y my)
theorem slot_nodummy {t:SetTable} (hd:t.dummies = #[]) (j:Nat):t.slot j ≠ .dummy:=by
 unfold SetTable.slot
 dsimp only
 split
 ·simp
 ·rw [hd]
  simp [SetTable.has]
theorem slot_empty {t:SetTable} {j:Nat} (h:t.slot j = .empty):t.place[SetTable.below t.place j]? ≠ some j:=by
 unfold SetTable.slot at h
 dsimp only at h
 intro e
 rw [e] at h
 simp at h
theorem probe_empty {t:SetTable} {f:Nat→Int} {h:Int} (hd:t.dummies = #[]):∀ (fuel:Nat) (p:SetTable.Probe) (j:Nat) (d:Option Nat),SetTable.probe.go t f h fuel p = some (.empty j d)→t.slot j = .empty∧d = p.dummy
 | 0,p,j,d,e=>by simp [SetTable.probe.go] at e
 | fuel + 1,p,j,d,e=>by
  unfold SetTable.probe.go at e
  split at e
  ·rename_i hs
   cases e
   exact ⟨hs,rfl⟩
  ·rename_i hs
   exact absurd hs (slot_nodummy hd _)
  ·split at e
   ·cases e
   ·have:=probe_empty hd fuel _ j d e
    refine ⟨this.1,this.2.trans ?_⟩
    unfold SetTable.advance
    split <;> rfl
structure Tab (led:Bool) (t:SetTable) (n:Nat):Prop where
 fits:t.fits n = true
 rise:Rise t.place
 dum:t.dummies = #[]
 led:t.led = led
theorem rise_range (n:Nat):Rise (Array.range n):=by
 unfold Rise
 rw [Array.toList_range]
 exact List.pairwise_lt_range
theorem tab_standIn {led:Bool} {t:SetTable} (n:Nat) (h:t.led = led):Tab led (t.standIn n) n :=
 ⟨SetTable.standIn_fits t n,rise_range n,rfl,h⟩
theorem tab_fresh (led:Bool):Tab led (SetTable.fresh 0 0 led) 0:=⟨rfl,List.Pairwise.nil,rfl,rfl⟩
theorem tab_layNew {led:Bool} {t:SetTable} {es:Array (Int × Value)} (h:Tab led t es.size) (hs:Int) (x:Value):Tab led (layNew t es hs x).2.1 (layNew t es hs x).1.size:=by
 unfold layNew
 split
 ·rename_i slot wd hf
  unfold SetTable.freeSlot at hf
  split at hf
  ·rename_i j d hp
   cases hf
   obtain ⟨e1,e2⟩:=probe_empty h.dum _ _ _ _ hp
   have e3:d = none:=e2
   subst e3
   dsimp only [Option.getD]
   have hr:=rise_put h.rise (slot_empty e1)
   unfold SetTable.orStandIn
   split
   ·rename_i hfit
    refine ⟨hfit,hr,?_,h.led⟩
    show (if SetTable.has t.dummies j = true then _ else t.dummies) = #[]
    rw [h.dum]
    rfl
   ·exact tab_standIn _ h.led
  ·cases hf
 ·have:=tab_standIn (led:=led) (t:=t) (es.size + 1) h.led
  simpa using this
theorem tab_relay {led:Bool} {t:SetTable} {es:Array (Int × Value)} (h:t.led = led) (wanted:Nat):Tab led (relayAll t es wanted).2.1 (relayAll t es wanted).1.size:=by
 have hf:=relayAll_fits t es wanted
 unfold relayAll at hf ⊢
 split
 ·rename_i t' order hl
  rw [hl] at hf
  dsimp only at hf ⊢
  split
  ·rename_i hc
   rw [if_pos hc] at hf
   unfold SetTable.relaid SetTable.laid at hl
   simp only [Option.bind_eq_bind,Option.bind_eq_some_iff,Option.pure_def,Option.some.injEq,Prod.mk.injEq] at hl
   obtain ⟨owner,_,rfl,_⟩:=hl
   refine ⟨hf,?_,rfl,h⟩
   unfold Rise
   dsimp only
   rw [List.pairwise_map,List.pairwise_filterMap]
   refine List.Pairwise.imp (fun {a b} ab x ex y ey=>?_) List.pairwise_lt_range
   obtain ⟨_,_,rfl⟩:=Option.map_eq_some_iff.mp ex
   obtain ⟨_,_,rfl⟩:=Option.map_eq_some_iff.mp ey
   exact ab
  ·exact tab_standIn _ h
 ·exact tab_standIn _ h
end L2
set_option Elab.async false
set_option linter.all false
set_option maxRecDepth 100000
set_option maxHeartbeats 1000000
namespace L2
open PySem PySem.Spec PyProof.Rows
def kE (e:Int × Value):Int:=match e.2 with
 | .int n _=>n
 | _=>0
def OkE (e:Int × Value):Prop:=∃ n t,e.2 = .int n t∧e.1 = hashInt n
theorem kE_int {e:Int × Value} {n:Int} {t:Tok} (h:e.2 = .int n t):kE e = n:=by
 unfold kE
 rw [h]
def SetI (led:Bool) (h:Heap) (a:Addr) (es:Array (Int × Value)):Prop:=∃ (o:Obj) (ep:Nat) (t:SetTable),
 h.get? a = some o∧o.ExactSet∧o.data = .set es ep t∧(∀ e ∈ es.toList,OkE e)∧(es.toList.map kE).Nodup∧es.size < 100∧Tab led t es.size
theorem SetI.at {led:Bool} {h g:Heap} {a:Addr} {es:Array (Int × Value)} (q:SetI led h a es) (f:∀ o,h.get? a = some o→g.get? a = some o):SetI led g a es:=by
 obtain ⟨o,ep,t,h1,r⟩:=q
 exact ⟨o,ep,t,f o h1,r⟩
section
variable {prog:Program} {w:World} {A:Around} {E:Value→Shared→Prop} {s:Shared} {led:Bool}
theorem elems_of {l:List (Int × Value)} (h:∀ e ∈ l,OkE e):ElemsOf (intKind prog w) l:=fun e m=>by
 obtain ⟨n,t,e1,e2⟩:=h e m
 refine ⟨⟨n,?_,e2⟩,?_⟩
 ·rw [e1]; simp [intKind,Value.isInt]
 ·rw [e1]; rfl
theorem isInt_iff {k:Int} {e:Int × Value} (h:OkE e):Value.isInt k e.2 = true ↔ kE e = k:=by
 obtain ⟨n,t,e1,e2⟩:=h
 rw [kE_int e1,e1]
 simp [Value.isInt]
theorem lt_scan {n:Nat} (h:n < 100):n < scanBound:=by
 have:scanBound = 4096:=rfl
 omega
theorem set_stored {h:Heap} {a:Addr} {o:Obj} {es es':Array (Int × Value)} {ep:Nat} {t t':SetTable} (ho:h.get? a = some o) (hex:o.ExactSet) (hd:o.data = .set es ep t)
  (h1:∀ e ∈ es'.toList,OkE e) (h2:(es'.toList.map kE).Nodup) (h3:es'.size < 100) (h4:Tab led t' es'.size) :
  (h.update a (Obj.putSet es' t')).get? a = some { o with data:=.set es' (ep + 1) t' }∧SetI led (h.update a (Obj.putSet es' t')) a es':=by
 have hg:=Heap.get?_update_self (Obj.putSet es' t') ho (by rw [putSet_of es' t' hd]; rfl)
 rw [putSet_of es' t' hd] at hg
 exact ⟨hg,_,_,_,hg,hex,rfl,h1,h2,h3,h4⟩
theorem add_tail {g:Bool→Sem Unit} (hg:∀ (b:Bool) (s1:Shared) (Q':Unit→Shared→Prop),Q' () s1→wpAny (model prog w) A (g b) Q' E s1) {a:Addr} {o:Obj} {es es1:Array (Int × Value)} {ep:Nat} {t t2:SetTable}
  (ho:s.heap.get? a = some o) (hex:o.ExactSet) (hd:o.data = .set es ep t) (h1:∀ e ∈ es1.toList,OkE e) (h2:(es1.toList.map kE).Nodup) (h3:es1.size < 100) (h4:Tab led t2 es1.size) {wd:Bool} {R:Option Bool→Shared→Prop}
  (h:∀ h' es',Heap.SameBut a s.heap h'→SetI led h' a es'→es'.toList.Perm es1.toList→R (some true) { s with heap:=h' }) :
  wpAny (model prog w) A (do
    storeSet a es1 t2
    if (!wd && t2.tooFull) = true then do
     g (relayAll t2 es1 (SetTable.grown es1.size)).2.2
     storeSet a (relayAll t2 es1 (SetTable.grown es1.size)).1 (relayAll t2 es1 (SetTable.grown es1.size)).2.1
     pure (some true)
    else pure (some true)) R E s:=by
 obtain ⟨ho1,hS1⟩:=set_stored (led:=led) ho hex hd h1 h2 h3 h4
 have sb1:=Heap.SameBut.update s.heap a (Obj.putSet es1 t2)
 refine wpAny_bind (wpAny_storeSet_of ho hd ?_ (fits_of_scanBound (lt_scan h3)))
 split
 ·have hp:=relayAll_perm t2 es1 (SetTable.grown es1.size)
  have ht:=tab_relay (led:=led) (t:=t2) (es:=es1) h4.led (SetTable.grown es1.size)
  generalize relayAll t2 es1 (SetTable.grown es1.size) = Rl at hp ht ⊢
  obtain ⟨es2,t3,gv⟩:=Rl
  dsimp only at hp ht ⊢
  have ez:es2.size = es1.size:=by
   have:=hp.length_eq
   rwa [Array.length_toList,Array.length_toList] at this
  have q1:∀ e ∈ es2.toList,OkE e:=fun e m=>h1 e (hp.mem_iff.mp m)
  have q2:(es2.toList.map kE).Nodup:=(hp.map kE).nodup_iff.mpr h2
  refine wpAny_bind (hg _ _ _ ?_)
  refine wpAny_bind (wpAny_storeSet_of ho1 rfl ?_ (fits_of_scanBound (lt_scan (by omega))))
  obtain ⟨_,hS2⟩:=set_stored (led:=led) ho1 hex rfl q1 q2 (by omega) ht
  exact wpAny_pure (h _ _ (sb1.trans (Heap.SameBut.update _ a _)) hS2 hp)
 ·exact wpAny_pure (h _ _ sb1 hS1 (List.Perm.refl _))
theorem set_addH {a:Addr} {es:Array (Int × Value)} {k:Int} {tk:Tok} {Q:Bool→Shared→Prop} (hS:SetI led s.heap a es) (hr:es.size + 1 < 100)
  (h:∀ b h' es',Heap.SameBut a s.heap h'→SetI led h' a es'→(∀ x,x ∈ es'.toList.map kE ↔ x ∈ es.toList.map kE∨x = k)→es'.size ≤ es.size + 1→Q b { s with heap:=h' }) :
  wpAny (model prog w) A (setAddHashed a (.int k tk) (hashInt k)) Q E s:=by
 obtain ⟨o,ep,t,ho,hex,hd,h1,h2,h3,h4⟩:=hS
 have hel:ElemsOf (intKind prog w) es.toList:=elems_of h1
 have hkey:(intKind prog w).is k (.int k tk) = true:=by simp [intKind,Value.isInt]
 unfold setAddHashed setAddHashedIn
 refine wpAny_holding (wpAny_bind (wpAny_setState_of ho hd h4.fits ?_))
 dsimp only
 rw [byScan_of (knd:=intKind prog w) rfl (lt_scan h3) hel]
 simp only [↓reduceIte]
 unfold setAddByScan
 refine wpAny_bind (wpAny_bind (wpAny_rule (wpAny_bind (wpAny_setScan_of (knd:=intKind prog w) hkey ho hd h4.fits hel ?_))))
 cases hr':List.findIdx? (fun e=>(intKind prog w).is k e.2) es.toList with
 | some j =>
  dsimp only
  obtain ⟨hj,hpj,_⟩:=List.findIdx?_eq_some_iff_getElem.mp hr'
  have hm:k ∈ es.toList.map kE:=List.mem_map.mpr ⟨es.toList[j],List.getElem_mem hj,(isInt_iff (h1 _ (List.getElem_mem hj))).mp hpj⟩
  refine wpAny_pure (wpAny_pure ?_)
  have:=h false s.heap es (Heap.SameBut.refl a s.heap) ⟨o,ep,t,ho,hex,hd,h1,h2,h3,h4⟩ (fun x=>⟨.inl,fun z=>z.elim id fun e=>e ▸ hm⟩) (by omega)
  exact this
 | none =>
  dsimp only
  have hm:k ∉ es.toList.map kE:=fun m=>by
   obtain ⟨e,me,ek⟩:=List.mem_map.mp m
   have:=List.findIdx?_eq_none_iff.mp hr' e me
   rw [show (intKind prog w).is k e.2 = Value.isInt k e.2 from rfl,(isInt_iff (h1 e me)).mpr ek] at this
   cases this
  have hgw:∀ (b:Bool) (s1:Shared) (Q':Unit→Shared→Prop),Q' () s1→wpAny (model prog w) A (match b with | true=>rule "set.scan.the-table-gave-way" | false=>pure ()) Q' E s1 :=
   fun b s1 Q' hq=>by cases b <;> first | exact wpAny_pure hq | exact wpAny_rule hq
  have hp:=layNew_perm t es (hashInt k) (.int k tk)
  have ht:=tab_layNew (led:=led) (es:=es) h4 (hashInt k) (.int k tk)
  generalize layNew t es (hashInt k) (.int k tk) = L at hp ht ⊢
  obtain ⟨es1,t1,wd,gv⟩:=L
  dsimp only at hp ht ⊢
  rw [Array.toList_push] at hp
  have ez:es1.size = es.size + 1:=by
   have:=hp.length_eq
   rwa [Array.length_toList,List.length_append,Array.length_toList,List.length_singleton] at this
  have kk:kE (hashInt k,Value.int k tk) = k:=rfl
  have q1:∀ e ∈ es1.toList,OkE e:=fun e m=>by
   rcases List.mem_append.mp (hp.mem_iff.mp m) with m | m
   ·exact h1 e m
   ·rw [List.mem_singleton.mp m]
    exact ⟨k,tk,rfl,rfl⟩
  have hpk:(es1.toList.map kE).Perm (es.toList.map kE ++ [k]):=by
   have:=hp.map kE
   rwa [List.map_append,List.map_singleton,kk] at this
  have q2:(es1.toList.map kE).Nodup:=by
   rw [hpk.nodup_iff,List.nodup_append]
   exact ⟨h2,by simp,fun x mx y my e=>by rw [List.mem_singleton.mp my] at e; rw [e] at mx; exact hm mx⟩
  have fin:∀ h' es',Heap.SameBut a s.heap h'→SetI led h' a es'→es'.toList.Perm es1.toList→Q true { s with heap:=h' }:=fun h' es' sb S' p =>
   h true h' es' sb S' (fun x=>by
    rw [((p.map kE).trans hpk).mem_iff,List.mem_append,List.mem_singleton]) (by
    have:=p.length_eq
    rw [Array.length_toList,Array.length_toList] at this
    omega)
  refine wpAny_bind (hgw _ _ _ ?_)
  split
  ·refine wpAny_bind ?_
   show wpAny _ _ (pure true) _ _ _
   refine wpAny_pure ?_
   refine add_tail (led:=led) (fun b s1 Q' hq=>by cases b <;> first | exact wpAny_pure hq | exact wpAny_rule hq) ho hex hd q1 q2 (by omega) ht fun h' es' sb S' p=>?_
   dsimp only
   exact wpAny_pure (fin h' es' sb S' p)
  ·refine wpAny_bind (wpAny_pure ?_)
   simp only [↓reduceIte]
   refine add_tail (led:=led) (fun b s1 Q' hq=>by cases b <;> first | exact wpAny_pure hq | exact wpAny_rule hq) ho hex hd q1 q2 (by omega) ht fun h' es' sb S' p=>?_
   dsimp only
   exact wpAny_pure (fin h' es' sb S' p)
theorem set_add1 {a:Addr} {es:Array (Int × Value)} {k:Int} {tk:Tok} {Q:Bool→Shared→Prop} (hS:SetI led s.heap a es) (hr:es.size + 1 < 100)
  (h:∀ b h' es',Heap.SameBut a s.heap h'→SetI led h' a es'→(∀ x,x ∈ es'.toList.map kE ↔ x ∈ es.toList.map kE∨x = k)→es'.size ≤ es.size + 1→Q b { s with heap:=h',toks:=s.toks + 1 }) :
  wpAny (model prog w) A (setAdd a (.int k tk)) Q E s:=by
 unfold setAdd
 refine wpAny_holding (wpAny_bind ((intKind prog w).pyHash (k:=k) (by simp [intKind,Value.isInt]) ?_))
 exact set_addH (led:=led) (s:={ s with toks:=s.toks + 1 }) hS hr h
end
end L2
set_option Elab.async false
set_option linter.all false
set_option maxRecDepth 100000
set_option maxHeartbeats 2000000
namespace L2
open PySem PySem.Spec PyProof.Rows
namespace F4
theorem plain_update_loop:plainId "set.update.loop" = true:=by decide +kernel
theorem entry_update_loop:entryFor table "set.update.loop" = some Builtin.«set.update.loop»:=entryFor_of_fast (by kernel_rfl)
theorem typeCall_set_1 (a:Value):checkTypeCall "set" ⟨[a],[]⟩ = pure ():=by kernel_rfl
theorem newCall_set_1 (a:Value):checkBuiltinCall "set.__new__" ⟨[.type "set",a],[]⟩ = pure ():=by kernel_rfl
theorem sub_list_set:isSubtype (.type "list") (.type "set") = pure false:=by rw [isSubtype_type]; kernel_rfl
theorem sub_list_frz:isSubtype (.type "list") (.type "frozenset") = pure false:=by rw [isSubtype_type]; kernel_rfl
end F4
section
variable {prog:Program} {w:World} {A:Around} {E:Value→Shared→Prop} {s:Shared}
theorem by_text {Q:Bool→Shared→Prop} (h:Q (w.params.followText "set-order") s):wpAny (model prog w) A setsByText Q E s:=fun _ _ _=>h
theorem set_loop {R:Result→Shared→Prop} {I:Addr} {fp wr:List Addr} {G:Array GenState→Array GenState→Prop} {n:Nat} {P:Nat→Value→Prop} {St:Nat→Shared→Prop} {led:Bool} (W:WalksS prog w A.in1 I fp wr G n P St) (hn:n < 90) (S:Addr) (hSf:S ∉ fp)
  (key:Nat→Int) (hP:∀ i v,P i v→∃ tk,v = .int (key i) tk) :
  ∀ (m i:Nat) (s:Shared) (es:Array (Int × Value)),n - i = m→i ≤ n→St i s→SetI led s.heap S es→(∀ x,x ∈ es.toList.map kE ↔ ∃ j,j < i∧x = key j)→es.size ≤ i →
  (∀ s' es',Moved (S :: wr) G s s'→SetI led s'.heap S es'→(∀ x,x ∈ es'.toList.map kE ↔ ∃ j,j < n∧x = key j)→R (.ok (.ret .none)) s') →
  codeAny (model prog w) A (.builtin "set.update.loop" ⟨[.ref S,.ref I],[]⟩) R s:=by
 have hSw:S ∉ wr:=fun h=>hSf (W.sub _ h)
 have hsub:∀ b ∈ wr,b ∈ S :: wr:=fun b hb=>List.mem_cons_of_mem _ hb
 intro m
 induction m with
 | zero =>
  intro i s es hm hi hst hS hk hz hR
  obtain rfl:i = n:=by omega
  refine codeAny_builtin F4.entry_update_loop ?_
  rw [Around.under_plainId F4.plain_update_loop _]
  show wpAny _ A.in1 (pyNext (.ref I) >>= _) _ _ s
  refine wpAny_bind (W.done s _ _ hst fun s' mv=>?_)
  exact wpAny_pure (hR s' es (mv.mono hsub) (hS.at fun o e=>mv.heap S o hSw e) hk)
 | succ m ih =>
  intro i s es hm hi hst hS hk hz hR
  have hlt:i < n:=by omega
  refine codeAny_builtin F4.entry_update_loop ?_
  rw [Around.under_plainId F4.plain_update_loop _]
  show wpAny _ A.in1 (pyNext (.ref I) >>= _) _ _ s
  refine wpAny_bind (W.item i s _ _ hlt hst fun v s' hv hst' mv=>?_)
  obtain ⟨tk,rfl⟩:=hP i v hv
  have hS':SetI led s'.heap S es:=hS.at fun o e=>mv.heap S o hSw e
  refine wpAny_bind (wpAny_holding (set_add1 hS' (by omega) fun b h' es' sb S' mk z'=>?_))
  refine wpAny_pure ⟨plainId_quiet F4.plain_update_loop _,ih (i + 1) _ es' (by omega) hlt (W.frame _ s' h' (s'.toks + 1) hst' (Nat.le_succ _) fun b hb o e=>sb.extBut b o (fun z=>hSf (z ▸ hb)) e) S' (fun x=>?_) (by omega) fun s'' es'' mv'' S'' k''=>?_⟩
  ·rw [mk x,hk x]
   constructor
   ·rintro (⟨j,hj,e⟩ | e)
    ·exact ⟨j,by omega,e⟩
    ·exact ⟨i,by omega,e⟩
   ·rintro ⟨j,hj,e⟩
    by_cases z:j = i
    ·subst z
     exact .inr e
    ·exact .inl ⟨j,by omega,e⟩
  ·exact hR s'' es'' (Moved.trans W.gtrans ((mv.mono hsub).then_heap (Nat.le_succ _) fun b o hb e=>sb.extBut b o (fun z=>hb (z ▸ List.mem_cons_self)) e) mv'') S'' k''
theorem code_new1 {a:Value} {Q:Value→Shared→Prop} (h:Q (.ref s.heap.objs.size) { s with heap:=s.heap.push { cls:=.type "set",dict:=none,data:=.set #[] 0 (.fresh 0 0 (!w.params.followText "set-order")) } }) :
  codeAny (model prog w) A (.call (.builtin "set.__new__") ⟨[.type "set",a],[]⟩) (wants Q E) s:=by
 refine codeAny_of_tree ?_
 show wpAny _ A.in1 (do checkBuiltinCall "set.__new__" ⟨[.type "set",a],[]⟩; again (.builtin "set.__new__" ⟨[.type "set",a],[]⟩)) _ _ s
 refine wpAny_bind (wpAny_of_eq (F4.newCall_set_1 a) (wpAny_pure ⟨plainId_quiet F.plain_set_new _,codeAny_builtin F.entry_set_new ?_⟩))
 rw [Around.under_plainId F.plain_set_new _]; unfold Builtin.«set.__new__» Builtin.Frozenset.newClass
 have hsub:=sub_set_self
 obtain ⟨h0,gs,dr,tk,os⟩:=s
 dsimp only
 wp_walk
 refine wpAny_askSetting (M:=model prog w) (wpAny_pure ?_)
 dsimp only
 simp only [newObj]
 exact wpAny_bind (wpAny_alloc (wpAny_pure (wpAny_pure h)))
theorem check_init1 {M:Model} {self a:Value} {Q:Unit→Shared→Prop} (hT:s.TypeIs self "set") (hQ:Q () s):wpAny M A (checkBuiltinCall "set.__init__" ⟨[self,a],[]⟩) Q E s:=by
 simp only [checkBuiltinCall,kind_set_init,split_set_init,sig_set_init]
 refine wpAny_bind (wpAny_isInstance hT sub_set_self ?_)
 simp only [Bool.not_true,Bool.false_eq_true,if_false]
 unfold Bind.checkArgs; dsimp only
 refine wpAny_bind (m:=Bind.printed "set" true _ _) (PyProof.Rows.printed_name (by decide) ?_)
 refine wpAny_bind (m:=Bind.printed "*" false _ _) (PyProof.Rows.printed_star (sig:=_) (self:=self) rfl hT fun short=>?_)
 have hrn:(Manifest.Receiver.self == Manifest.Receiver.none) = false:=by decide
 have h1:(if (Manifest.Receiver.self == Manifest.Receiver.none) = true then [self,a].length else [self,a].length - 1) = 1:=by simp [hrn]
 rw [h1]
 simp only [List.map_nil]
 have hc:Bind.check ⟨.positional,"set","*",.self,[⟨"iterable",.posOnly,false⟩]⟩ "set" short 1 [] = pure ():=by
  have hpp:(Manifest.ParamKind.posOnly == Manifest.ParamKind.posOnly) = true:=by decide
  simp [Bind.check,Bind.checkCount,Bind.isPositional,hpp]
 rw [hc]
 exact wpAny_pure hQ
theorem upd_from {S l:Addr} {vs:Array Value} {ns:List Int} {led:Bool} {Q:Unit→Shared→Prop} (hh:A.handled = none) (hS:SetI led s.heap S #[]) (hl:s.heap.IsList l vs) (hz:vs.size = ns.length) (hv:∀ (i:Nat) v,vs[i]? = some v→∃ tk,v = .int (ns.getD i 0) tk) (hn:ns.length < 90)
  (h:∀ h' tk es,(∀ b o,b ≠ S→s.heap.get? b = some o→h'.get? b = some o)→SetI led h' S es→(∀ x,x ∈ es.toList.map kE ↔ x ∈ ns)→Q () { s with heap:=h',toks:=tk }) :
  wpAny (model prog w) A (Builtin.Frozenset.updateFrom "set.__init__" S (.ref l)) Q E s:=by
 have ty:s.TypeIs (.ref l) "list":=by
  obtain ⟨o,e,c,_⟩:=hl
  exact ⟨o,e,c⟩
 have lS:l ≠ S:=fun e=>by
  obtain ⟨o,_,_,e1,c1,_⟩:=hS
  obtain ⟨o',e',c',_⟩:=hl
  rw [e,e1] at e'
  cases e'
  rw [c1.1] at c'
  simp at c'
 unfold Builtin.Frozenset.updateFrom Builtin.Frozenset.isAnySet
 refine wpAny_bind (wpAny_bind (wpAny_isInstance ty F4.sub_list_set (wpAny_isInstance ty F4.sub_list_frz ?_)))
 simp only [Bool.false_eq_true,if_false]
 refine wpAny_bind (wpAny_typeOf ty ?_)
 rw [if_neg (by decide)]
 refine wpAny_bind (wpAny_pyIter_list hl ?_)
 obtain ⟨o,eo⟩:∃ o,s.heap.get? l = some o:=⟨_,hl.choose_spec.1⟩
 obtain ⟨oS,eS⟩:∃ o,s.heap.get? S = some o:=⟨_,hS.choose_spec.choose_spec.choose_spec.1⟩
 have ll:=Heap.lt_size eo
 have lS':=Heap.lt_size eS
 have up:∀ b ob,s.heap.get? b = some ob→(s.heap.push { cls:=.type "list_iterator",data:=.fields #[.ref l,.int 0 0] }).get? b = some ob:=fun b ob e=>Heap.get?_push_of_some _ e
 have W:=(Walks.list (prog:=prog) (w:=w) (A:=A.in1) hh s.heap.objs.size l (Nat.ne_of_lt ll) vs).toS
 refine wpAny_bind (wpAny_runValue (set_loop (led:=led) W (by omega) S (by
  simp only [List.mem_cons,List.not_mem_nil,or_false,not_or]
  exact ⟨Nat.ne_of_lt lS',fun e=>lS e.symm⟩) (fun i=>ns.getD i 0) hv _ 0 _ #[] rfl (Nat.zero_le _) ⟨⟨_,Heap.get?_push_size _ rfl,rfl,rfl⟩,hl.at fun ob e=>up l ob e⟩ (hS.at fun ob e=>up S ob e) (by simp) (Nat.le_refl _) fun s' es mv S' ks=>?_))
 refine wpAny_pure ?_
 obtain ⟨h',gs',dr',tk',os'⟩:=s'
 obtain ⟨m1,m2,m3,m4,m5⟩:=mv
 dsimp only at m1 m2 m3 m4 m5 S'
 subst m2 m3 m4
 refine h h' tk' es (fun b ob nb e=>m1 b ob (by
  simp only [List.mem_cons,List.not_mem_nil,or_false,not_or]
  exact ⟨nb,Nat.ne_of_lt (Heap.lt_size e)⟩) (up b ob e)) S' fun x=>?_
 rw [ks x,hz]
 constructor
 ·rintro ⟨j,hj,rfl⟩
  rw [List.getD_eq_getElem?_getD,List.getElem?_eq_getElem hj]
  exact List.getElem_mem hj
 ·intro m
  obtain ⟨j,hj,e⟩:=List.mem_iff_getElem.mp m
  exact ⟨j,hj,by rw [List.getD_eq_getElem?_getD,List.getElem?_eq_getElem hj]; exact e.symm⟩
theorem call_set1 {l:Addr} {vs:Array Value} {ns:List Int} {Q:Value→Shared→Prop} (hh:A.handled = none) (hl:s.heap.IsList l vs) (hz:vs.size = ns.length) (hv:∀ (i:Nat) v,vs[i]? = some v→∃ tk,v = .int (ns.getD i 0) tk) (hn:ns.length < 90)
  (h:∀ a h' tk es,s.heap.objs.size ≤ a→(∀ b o,s.heap.get? b = some o→h'.get? b = some o)→SetI (!w.params.followText "set-order") h' a es→(∀ x,x ∈ es.toList.map kE ↔ x ∈ ns)→Q (.ref a) { s with heap:=h',toks:=tk }) :
  wpAny (model prog w) A (call (.type "set") [.ref l]) Q E s:=by
 obtain ⟨c,tl,hmro⟩:=F.called_set.mro
 have hmade:=F.called_set.made
 have hsub:=F.called_set.sub
 refine wpAny_call (codeAny_of_tree ?_)
 show wpAny _ _ (callAny (.type "set") _) _ _ _
 refine wpAny_pure ⟨Code.quiet_builtin _ (by decide +kernel),codeAny_builtin F.entry_type_call ?_⟩
 rw [Around.under_plain (weight_type_call_type "set" [.ref l] []) rfl]
 have h1:=F.called_set.notType
 have h2:=F.called_set.canCreate
 have hct:=F4.typeCall_set_1 (.ref l)
 repeat (any_goals (first | assumption | wp_step))
 generalize hO:({ cls:=.type "set",dict:=none,data:=.set #[] 0 (.fresh 0 0 (!w.params.followText "set-order")) }:Obj) = O
 refine codeAny_mono (code_new1 (E:=E) (Q:=fun ob s1=>ob = .ref s.heap.objs.size∧s1 = { s with heap:=s.heap.push O }) ⟨rfl,by rw [hO]⟩) fun r s1 hr=>?_
 cases r with
 | error e=>exact hr
 | ok fl =>
  cases fl with
  | ret obj =>
   obtain ⟨rfl,rfl⟩:=hr
   have hS:(s.heap.push O).get? s.heap.objs.size = some O:=Heap.get?_push_size _ (by rw [← hO]; rfl)
   have hT:Shared.TypeIs { s with heap:=s.heap.push O } (.ref s.heap.objs.size) "set":=⟨_,hS,by rw [← hO]⟩
   have hli:=F.called_set.init.lookup
   have hbi:=F.called_set.init.bind (.ref s.heap.objs.size)
   repeat (any_goals (first | assumption | wp_step))
   refine codeAny_mono (codeAny_call_builtin (R:=wants (fun r s2=>r = .none∧Q (.ref s.heap.objs.size) s2) E) F.called_set.init.plain F.entry_set_init (check_init1 hT ?_)) fun r2 s2 hr2=>?_
   ·unfold Builtin.«set.__init__» noKeywords
    have hS0:SetI (!w.params.followText "set-order") (s.heap.push O) s.heap.objs.size #[]:=by
     subst hO
     exact ⟨_,_,_,hS,⟨rfl,rfl,rfl⟩,rfl,by simp,by simp,by simp,tab_fresh _⟩
    have hl1:(s.heap.push O).IsList l vs:=hl.at fun ob e=>Heap.get?_push_of_some _ e
    subst hO
    have key:=fun Q1=>@upd_from prog w A.in1.in1 (fun e s'=>wants (fun r s2=>r = Value.none∧Q (Value.ref s.heap.objs.size) s2) E (Except.error e) s') { s with heap:=s.heap.push { cls:=.type "set",dict:=none,data:=.set #[] 0 (.fresh 0 0 (!w.params.followText "set-order")) } } s.heap.objs.size l vs ns (!w.params.followText "set-order") Q1 hh hS0 hl1 hz hv hn
    wp_walk using key _
    intro h' tk es kp S' ks
    exact wpAny_pure ⟨rfl,h _ h' tk es (Nat.le_refl _) (fun b o e=>kp b o (Nat.ne_of_lt (Heap.lt_size e)) (Heap.get?_push_of_some _ e)) S' ks⟩
   ·cases r2 with
    | error e=>exact hr2
    | ok fl2 =>
     cases fl2 with
     | ret r =>
      obtain ⟨rfl,hq⟩:=hr2
      repeat (any_goals (first | assumption | wp_step))
     | _=>exact hr2.elim
  | _=>exact hr.elim
end
end L2
set_option Elab.async false
set_option linter.all false
set_option maxRecDepth 100000
set_option maxHeartbeats 2000000
namespace L2
open PySem PySem.Spec PyProof.Rows
namespace F4
theorem slot_si_next:Slot "set_iterator" "__next__" "set_iterator.__next__":=.of (owner:="set_iterator") (n:="__next__") (by rw [typeLookup_type,builtinLookup_eq_fast]; kernel_rfl) (by decide +kernel) (by decide +kernel) (by decide +kernel) (by first | exact .inl (by decide +kernel) | exact .inr (by decide +kernel)) (by rw [isSubtype_type]; kernel_rfl)
theorem entry_si_next:entryFor table "set_iterator.__next__" = some Builtin.«set_iterator.__next__»:=entryFor_of_tree (by kernel_rfl)
theorem entry_set_iter:entryFor table "set.__iter__" = some Builtin.«frozenset.__iter__»:=entryFor_alias (id':="frozenset.__iter__") (by kernel_rfl) rfl (by decide +kernel) (by kernel_rfl)
theorem owner_si:Manifest.owners.lookup (String.ofList ['r','o','t','a','r','e','t','i','_','t','e','s'].reverse) = some Manifest.sig_set_iterator:=by kernel_rfl
theorem args_si_next (a:Value):argsOk "set_iterator.__next__" ⟨[a],[]⟩:=by unfold argsOk; rw [signature?_of (id:="set_iterator.__next__") (n:=['_','_','t','x','e','n','_','_']) (o:=['r','o','t','a','r','e','t','i','_','t','e','s']) (by kernel_rfl) owner_si]; kernel_rfl
end F4
theorem perm_erase {α:Type}:∀ (l:List α) (i:Nat) (h:i < l.length),(l[i] :: l.eraseIdx i).Perm l
 | [],i,h=>by simp at h
 | a :: l,0,h=>List.Perm.refl _
 | a :: l,i + 1,h=>by
  show (l[i]'(by simpa using h) :: a :: l.eraseIdx i).Perm (a :: l)
  exact (List.Perm.swap _ _ _).trans (List.Perm.cons _ (perm_erase l i (by simpa using h)))
theorem pick_go {α:Type} {next:Nat→Nat}:∀ (fuel k:Nat) (left:List α) (out:Array α),left.length = fuel→(pickOrder.go next fuel k left out).toList.Perm (out.toList ++ left)
 | 0,k,left,out,h=>by
  have:left = []:=List.length_eq_zero_iff.mp h
  subst this
  unfold pickOrder.go
  simp
 | fuel + 1,k,left,out,h=>by
  unfold pickOrder.go
  have hl:next k % left.length < left.length:=Nat.mod_lt _ (by omega)
  rw [List.getElem?_eq_getElem hl]
  dsimp only
  refine (pick_go fuel (k + 1) _ _ (by rw [List.length_eraseIdx,if_pos hl]; omega)).trans ?_
  rw [Array.toList_push,List.append_assoc]
  refine List.Perm.append_left _ ?_
  exact perm_erase _ _ hl
theorem pick_perm {α:Type} (next:Nat→Nat) (xs:Array α):(pickOrder next xs).toList.Perm xs.toList:=by
 unfold pickOrder
 have:=pick_go (next:=next) xs.size 0 xs.toList #[] (Array.length_toList)
 simpa using this
section
variable {prog:Program} {w:World} {A:Around} {E:Value→Shared→Prop} {s:Shared}
theorem draw_order {α:Type} {E:Value→Shared→Prop}:∀ (n:Nat) (xs:List α) (s:Shared) (Q:List α→Shared→Prop),xs.length = n→(∀ d ys,ys.Perm xs→Q ys { s with drawn:=d })→wpAny (model prog w) A (drawOrder n xs) Q E s
 | 0,xs,s,Q,h,q=>by
  have:xs = []:=List.length_eq_zero_iff.mp h
  subst this
  exact wpAny_pure (q s.drawn [] (List.Perm.refl _))
 | n + 1,[],s,Q,h,q=>by cases h
 | n + 1,x :: xs,s,Q,h,q=>by
  show wpAny _ _ (choose .order (x :: xs).length >>= _) _ _ _
  refine wpAny_bind (fun Γ p hΓ=>⟨by simp,?_⟩)
  show wpAny (model prog w) A (match (x :: xs)[w.draws .order (s.drawn.get .order) % (x :: xs).length]? with | some y=>(do let r ← drawOrder n ((x :: xs).eraseIdx (w.draws .order (s.drawn.get .order) % (x :: xs).length)); pure (y :: r)) | none=>unsupported "internal:drawOrder") Q E { s with drawn:=s.drawn.bump .order }
  generalize hi:w.draws .order (s.drawn.get .order) % (x :: xs).length = i
  have hl:i < (x :: xs).length:=by rw [← hi]; exact Nat.mod_lt _ (by simp)
  rw [List.getElem?_eq_getElem hl]
  dsimp only
  refine wpAny_bind (draw_order n _ _ _ (by rw [List.length_eraseIdx,if_pos hl]; omega) fun d ys p=>wpAny_pure ?_)
  exact q d _ ((List.Perm.cons _ p).trans (perm_erase _ _ hl))
abbrev IsSI (h:Heap) (I S:Addr) (f:Value) (i n ep:Nat):Prop:=h.get? I = some { cls:=.type "set_iterator",dict:=none,data:=.fields #[f,rawInt i,.ref S,rawInt n,rawInt ep],slots:=#[] }
theorem si_ty {I S:Addr} {f:Value} {i n ep:Nat} (h:IsSI s.heap I S f i n ep):s.TypeIs (.ref I) "set_iterator":=⟨_,h,rfl⟩
theorem ri_succ (i:Nat):rawInt ((i:Int) + 1) = rawInt ((i + 1:Nat):Int):=by simp
theorem stop_new {Q:PySem.Fin→Shared→Prop} (hh:A.handled = none) (h:∀ h' e,(∀ b o,s.heap.get? b = some o→h'.get? b = some o)→(∃ o,h'.get? e = some o∧o.cls = .type "StopIteration")→E (.ref e) { s with heap:=h' }) :
  wpAny (model prog w) A (newExc (.type "StopIteration") [] >>= fun x=>raiseNew x) Q E s:=by
 refine wpAny_bind ?_
 simp only [newExc,newTuple]
 refine wpAny_bind (wpAny_newObj_type ?_ (by size_fits))
 refine wpAny_bind (m:=firstArgMember (.type "StopIteration") _) (wpAny_of_eq (a:=Value.none) (by first | rfl | (simp only [firstArgMember]; rfl)) ?_)
 refine wpAny_newObj_type ?_ (by size_fits)
 simp only [raiseNew]
 refine wpAny_bind (wpAny_handled ?_); rw [hh]
 refine wpAny_bind (wpAny_pure (wpAny_throw ?_))
 exact h _ _ (fun b o e=>Heap.get?_push_of_some _ (Heap.get?_push_of_some _ e)) ⟨_,Heap.get?_push_size _ rfl,rfl⟩
theorem si_int {I S:Addr} {o:Obj} {es:Array (Int × Value)} {t:SetTable} {slot nx i ep:Nat} {x:Value} {Q:Option Value→Shared→Prop} (hI:IsSI s.heap I S (rawInt slot) i es.size ep) (hS:s.heap.get? S = some o) (hd:o.data = .set es ep t) (hf:t.fits es.size = true)
  (hn:∀ (A:Around) (Q:Option (Value × Nat)→Shared→Prop) (E:Value→Shared→Prop) (s:Shared),s.heap.get? S = some o→Q (some (x,nx)) s→wpAny (model prog w) A (setNext S slot i ep) Q E s)
  (hQ:∀ h',IsSI h' I S (rawInt nx) (i + 1) es.size ep→Heap.SameBut I s.heap h'→Q (some x) { s with heap:=h' }):wpAny (model prog w) A (pyNext (.ref I)) Q E s:=by
 unfold pyNext
 refine wpAny_bind (wpAny_attempt (wpAny_callSpecial?_slot (name:=Str.ofString "__next__") (si_ty hI) F4.slot_si_next (wpAny_call_entry F4.slot_si_next (si_ty hI) F4.entry_si_next ?_ (F4.args_si_next _))))
 unfold Builtin.«set_iterator.__next__»
 refine wpAny_bind (m:=slotArgs "__next__" 0 _) (wpAny_pure ?_)
 refine wpAny_bind (wpAny_fieldsOf hI rfl ?_)
 show wpAny _ _ (setEntries S >>= _) _ _ s
 refine wpAny_bind (wpAny_setEntries_of hS hd hf ?_)
 rw [if_neg (by simp)]
 show wpAny _ _ (setNext S ((slot:Int).toNat) ((i:Int).toNat) ((ep:Int).toNat) >>= _) _ _ s
 rw [Int.toNat_natCast,Int.toNat_natCast,Int.toNat_natCast]
 refine wpAny_bind (hn _ _ _ _ hS ?_)
 refine wpAny_bind (wpAny_setField_rec hI (by simp) fun g1 z1 b1=>?_)
 refine wpAny_bind (wpAny_setField_rec (s:={ s with heap:=g1 }) z1 (by simp) fun g2 z2 b2=>?_)
 refine wpAny_pure ⟨_,rfl,wpAny_pure (hQ g2 ?_ (b1.trans b2))⟩
 rw [ri_succ] at z2
 exact z2
theorem si_int_end {I S:Addr} {o:Obj} {es:Array (Int × Value)} {t:SetTable} {slot i ep:Nat} {Q:Option Value→Shared→Prop} (hh:A.handled = none) (hI:IsSI s.heap I S (rawInt slot) i es.size ep) (hS:s.heap.get? S = some o) (hd:o.data = .set es ep t) (hf:t.fits es.size = true)
  (hn:∀ (A:Around) (Q:Option (Value × Nat)→Shared→Prop) (E:Value→Shared→Prop) (s:Shared),s.heap.get? S = some o→Q none s→wpAny (model prog w) A (setNext S slot i ep) Q E s)
  (hQ:∀ h',(∀ b o,b ≠ I→s.heap.get? b = some o→h'.get? b = some o)→Q none { s with heap:=h' }):wpAny (model prog w) A (pyNext (.ref I)) Q E s:=by
 unfold pyNext
 refine wpAny_bind (wpAny_attempt (wpAny_callSpecial?_slot (name:=Str.ofString "__next__") (si_ty hI) F4.slot_si_next (wpAny_call_entry F4.slot_si_next (si_ty hI) F4.entry_si_next ?_ (F4.args_si_next _))))
 unfold Builtin.«set_iterator.__next__»
 refine wpAny_bind (m:=slotArgs "__next__" 0 _) (wpAny_pure ?_)
 refine wpAny_bind (wpAny_fieldsOf hI rfl ?_)
 show wpAny _ _ (setEntries S >>= _) _ _ s
 refine wpAny_bind (wpAny_setEntries_of hS hd hf ?_)
 rw [if_neg (by simp)]
 show wpAny _ _ (setNext S ((slot:Int).toNat) ((i:Int).toNat) ((ep:Int).toNat) >>= _) _ _ s
 rw [Int.toNat_natCast,Int.toNat_natCast,Int.toNat_natCast]
 refine wpAny_bind (hn _ _ _ _ hS ?_)
 refine wpAny_bind (wpAny_setField_rec hI (by simp) fun g1 z1 b1=>?_)
 refine stop_new (s:={ s with heap:=g1 }) hh fun h' e kp ⟨oe,e1,e2⟩=>?_
 refine wpAny_bind (wpAny_isInstance (T:="StopIteration") (b:=true) ⟨oe,e1,e2⟩ isSubtype_stop ?_)
 exact wpAny_pure (hQ _ fun b ob nb eb=>kp b ob (b1.extBut b ob nb eb))
theorem si_ref {I S T:Addr} {o:Obj} {es:Array (Int × Value)} {t:SetTable} {i ep p:Nat} {ps:Array Value} {x:Int × Value} {Q:Option Value→Shared→Prop} (hI:IsSI s.heap I S (.ref T) i es.size ep) (hS:s.heap.get? S = some o) (hd:o.data = .set es ep t) (hf:t.fits es.size = true)
  (hT:IsT s.heap T ps) (hp:ps[i]? = some (rawInt p)) (hx:es[p]? = some x)
  (hQ:∀ h',IsSI h' I S (.ref T) (i + 1) es.size ep→Heap.SameBut I s.heap h'→Q (some x.2) { s with heap:=h' }):wpAny (model prog w) A (pyNext (.ref I)) Q E s:=by
 unfold pyNext
 refine wpAny_bind (wpAny_attempt (wpAny_callSpecial?_slot (name:=Str.ofString "__next__") (si_ty hI) F4.slot_si_next (wpAny_call_entry F4.slot_si_next (si_ty hI) F4.entry_si_next ?_ (F4.args_si_next _))))
 unfold Builtin.«set_iterator.__next__»
 refine wpAny_bind (m:=slotArgs "__next__" 0 _) (wpAny_pure ?_)
 refine wpAny_bind (wpAny_fieldsOf hI rfl ?_)
 show wpAny _ _ (setEntries S >>= _) _ _ s
 refine wpAny_bind (wpAny_setEntries_of hS hd hf ?_)
 rw [if_neg (by simp)]
 show wpAny _ _ (seqItems? (.ref T) >>= _) _ _ s
 refine wpAny_bind (wpAny_bind (wpAny_load hT (wpAny_pure ?_)))
 show wpAny _ _ (match ps[(i:Int).toNat]? with | some (Value.int place _)=>_ | some _=>_ | none=>_) _ _ s
 rw [Int.toNat_natCast,hp]
 show wpAny _ _ (setNextDrawn S ((p:Int).toNat) ((ep:Int).toNat) >>= _) _ _ s
 rw [Int.toNat_natCast,Int.toNat_natCast]
 unfold setNextDrawn
 refine wpAny_bind (wpAny_bind (wpAny_setState_of hS hd hf ?_))
 dsimp only
 rw [if_neg (by simp),hx]
 refine wpAny_pure ?_
 refine wpAny_bind (wpAny_setField_rec hI (by simp) fun g1 z1 b1=>?_)
 refine wpAny_pure ⟨_,rfl,wpAny_pure (hQ g1 ?_ b1)⟩
 rw [ri_succ] at z1
 exact z1
theorem si_ref_end {I S T:Addr} {o:Obj} {es:Array (Int × Value)} {t:SetTable} {i ep:Nat} {ps:Array Value} {Q:Option Value→Shared→Prop} (hh:A.handled = none) (hI:IsSI s.heap I S (.ref T) i es.size ep) (hS:s.heap.get? S = some o) (hd:o.data = .set es ep t) (hf:t.fits es.size = true)
  (hT:IsT s.heap T ps) (hp:ps[i]? = none)
  (hQ:∀ h',(∀ b o,b ≠ I→s.heap.get? b = some o→h'.get? b = some o)→Q none { s with heap:=h' }):wpAny (model prog w) A (pyNext (.ref I)) Q E s:=by
 unfold pyNext
 refine wpAny_bind (wpAny_attempt (wpAny_callSpecial?_slot (name:=Str.ofString "__next__") (si_ty hI) F4.slot_si_next (wpAny_call_entry F4.slot_si_next (si_ty hI) F4.entry_si_next ?_ (F4.args_si_next _))))
 unfold Builtin.«set_iterator.__next__»
 refine wpAny_bind (m:=slotArgs "__next__" 0 _) (wpAny_pure ?_)
 refine wpAny_bind (wpAny_fieldsOf hI rfl ?_)
 show wpAny _ _ (setEntries S >>= _) _ _ s
 refine wpAny_bind (wpAny_setEntries_of hS hd hf ?_)
 rw [if_neg (by simp)]
 show wpAny _ _ (seqItems? (.ref T) >>= _) _ _ s
 refine wpAny_bind (wpAny_bind (wpAny_load hT (wpAny_pure ?_)))
 show wpAny _ _ (match ps[(i:Int).toNat]? with | some (Value.int place _)=>_ | some _=>_ | none=>_) _ _ s
 rw [Int.toNat_natCast,hp]
 refine wpAny_bind (wpAny_setField_rec hI (by simp) fun g1 z1 b1=>?_)
 refine wpAny_bind (wpAny_setField_rec (s:={ s with heap:=g1 }) z1 (by simp) fun g2 z2 b2=>?_)
 refine stop_new (s:={ s with heap:=g2 }) hh fun h' e kp ⟨oe,e1,e2⟩=>?_
 refine wpAny_bind (wpAny_isInstance (T:="StopIteration") (b:=true) ⟨oe,e1,e2⟩ isSubtype_stop ?_)
 exact wpAny_pure (hQ _ fun b ob nb eb=>kp b ob (b2.extBut b ob nb (b1.extBut b ob nb eb)))
end
end L2
set_option Elab.async false
set_option linter.all false
set_option maxRecDepth 100000
set_option maxHeartbeats 2000000
namespace L2
open PySem PySem.Spec PyProof.Rows
section
variable {prog:Program} {w:World} {A:Around} {E:Value→Shared→Prop} {s:Shared}
theorem ite_no {α:Type} {M:Model} {c:Prop} [Decidable c] {a b:Sem α} {Q:α→Shared→Prop} (h:¬ c) (q:wpAny M A b Q E s):wpAny M A (if c then a else b) Q E s:=by
 rw [if_neg h]
 exact q
theorem ite_yes {α:Type} {M:Model} {c:Prop} [Decidable c] {a b:Sem α} {Q:α→Shared→Prop} (h:c) (q:wpAny M A a Q E s):wpAny M A (if c then a else b) Q E s:=by
 rw [if_pos h]
 exact q
theorem next_text {S:Addr} {o:Obj} {es:Array (Int × Value)} {t:SetTable} {slot i ep:Nat} {Q:Option (Value × Nat)→Shared→Prop} (hS:s.heap.get? S = some o) (hd:o.data = .set es ep t) (hf:t.fits es.size = true) (hb:w.params.followText "set-order" = true)
  (h:Q ((pickOrder (w.params.setOrder S ep) es)[i]?.map fun e=>(e.2,slot)) s):wpAny (model prog w) A (setNext S slot i ep) Q E s:=by
 unfold setNext
 refine wpAny_bind (wpAny_setState_of hS hd hf (wpAny_bind (by_text ?_)))
 rw [hb]
 dsimp only
 rw [if_pos rfl,if_neg (by simp)]
 refine wpAny_bind ?_
 unfold setWalk
 refine wpAny_bind (wpAny_setState_of hS hd hf (wpAny_bind (by_text ?_)))
 rw [hb,if_pos rfl]
 exact wpAny_bind (wpAny_askSetting (wpAny_pure (wpAny_pure h)))
theorem next_led {S:Addr} {o:Obj} {es:Array (Int × Value)} {t:SetTable} {slot i ep:Nat} {Q:Option (Value × Nat)→Shared→Prop} (hS:s.heap.get? S = some o) (hd:o.data = .set es ep t) (hf:t.fits es.size = true) (hb:w.params.followText "set-order" = false)
  (hdr:(!t.plain && decide (es.size > 1)) = false) (hl:t.led = true) (hi:SetTable.below t.place slot = i)
  (h:Q (match es[i]?,t.place[i]? with | some (_,x),some j=>some (x,j + 1) | _,_=>none) s):wpAny (model prog w) A (setNext S slot i ep) Q E s:=by
 unfold setNext
 refine wpAny_bind (wpAny_setState_of hS hd hf (wpAny_bind (by_text ?_)))
 rw [hb]
 dsimp only
 rw [if_neg (by simp)]
 refine ite_no (show ¬ ((!t.plain && decide (es.size > 1)) = true) by rw [hdr]; simp) ?_
 refine wpAny_bind ?_
 show wpAny _ _ (if (!t.led && !es.isEmpty) = true then unsupported "set:maker-not-led" else pure ()) _ _ s
 rw [if_neg (by rw [hl]; simp)]
 refine wpAny_pure ?_
 rw [hi]
 exact wpAny_pure h
structure Wk (prog:Program) (w:World) (A:Around) (I:Addr) (fp:List Addr) (vs:List Value) (St:Nat→Heap→Prop):Prop where
 mem:I ∈ fp
 frame:∀ i h h',St i h→(∀ b ∈ fp,∀ o,h.get? b = some o→h'.get? b = some o)→St i h'
 item:∀ i v (s:Shared) (Q:Option Value→Shared→Prop) (E:Value→Shared→Prop),vs[i]? = some v→St i s.heap→(∀ h',St (i + 1) h'→(∀ b o,b ≠ I→s.heap.get? b = some o→h'.get? b = some o)→Q (some v) { s with heap:=h' })→wpAny (model prog w) A (pyNext (.ref I)) Q E s
 done:∀ (s:Shared) (Q:Option Value→Shared→Prop) (E:Value→Shared→Prop),St vs.length s.heap→(∀ h',(∀ b o,b ≠ I→s.heap.get? b = some o→h'.get? b = some o)→Q none { s with heap:=h' })→wpAny (model prog w) A (pyNext (.ref I)) Q E s
theorem ext_loop {R:Result→Shared→Prop} {I:Addr} {fp:List Addr} {vs:List Value} {St:Nat→Heap→Prop} (W:Wk prog w A.in1 I fp vs St) (hn:vs.length ≤ 1000) (S:Addr) (hSf:S ∉ fp) (res:Value) :
  ∀ (m i:Nat) (s:Shared) (acc:Array Value) (c:Nat),vs.length - i = m→i ≤ vs.length→St i s.heap→s.heap.get? S = some (seqObj "list" acc c)→acc.toList = vs.take i →
  (∀ h' c',(∀ b o,b ≠ S→b ≠ I→s.heap.get? b = some o→h'.get? b = some o)→h'.get? S = some (seqObj "list" vs.toArray c')→R (.ok (.ret res)) { s with heap:=h' }) →
  codeAny (model prog w) A (.builtin "list.extend.loop" ⟨[.ref S,.ref I,res],[]⟩) R s:=by
 have hSI:S ≠ I:=fun e=>hSf (e ▸ W.mem)
 intro m
 induction m with
 | zero =>
  intro i s acc c hm hi st hS ha hR
  obtain rfl:i = vs.length:=by omega
  refine codeAny_builtin F.entry_extend_loop ?_
  rw [Around.under_plainId F.plain_extend_loop _]
  show wpAny _ A.in1 (pyNext (.ref I) >>= _) _ _ s
  refine wpAny_bind (W.done s _ _ st fun h' kp=>wpAny_pure (hR h' c (fun b o _ nI e=>kp b o nI e) ?_))
  have:acc = vs.toArray:=by
   rw [List.take_length] at ha
   rw [← ha]
  rw [← this]
  exact kp S _ hSI hS
 | succ m ih =>
  intro i s acc c hm hi st hS ha hR
  have hlt:i < vs.length:=by omega
  refine codeAny_builtin F.entry_extend_loop ?_
  rw [Around.under_plainId F.plain_extend_loop _]
  show wpAny _ A.in1 (pyNext (.ref I) >>= _) _ _ s
  refine wpAny_bind (W.item i vs[i] s _ _ (List.getElem?_eq_getElem hlt) st fun h' st' kp=>?_)
  have hS':=kp S _ hSI hS
  have sz:acc.size = i:=by rw [← Array.length_toList,ha,List.length_take]; omega
  show wpAny _ A.in1 (updateSeq S (·.push vs[i]) >>= _) _ _ _
  refine wpAny_bind (wpAny_updateSeq (s:={ s with heap:=h' }) hS' rfl (wpAny_pure ⟨plainId_quiet F.plain_extend_loop _,ih (i + 1) _ (acc.push vs[i]) _ (by omega) hlt (W.frame _ h' _ st' fun b hb o e=>?_) (Heap.get?_update_self _ hS' rfl) ?_ fun h'' c' kp' hS''=>?_⟩)
   (by rw [sz,sizeLine_eq]; omega) (by show (acc.push vs[i]).size ≤ _; rw [Array.size_push,sz,sizeLine_eq]; omega))
  ·exact (Heap.get?_update_other _ _ (fun h:S = b=>hSf (by rw [h]; exact hb))).trans e
  ·rw [Array.toList_push,ha,List.take_succ_eq_append_getElem hlt]
  ·exact hR h'' c' (fun b o nS nI e=>kp' b o nS nI ((Heap.get?_update_other _ _ (fun h:S = b=>nS h.symm)).trans (kp b o nI e))) hS''
theorem wk_int {I S:Addr} {o:Obj} {es:Array (Int × Value)} {t:SetTable} {ep:Nat} (hh:A.handled = none) (hSI:S ≠ I) (hd:o.data = .set es ep t) (hf:t.fits es.size = true) (us:List (Int × Value)) (sl:Nat→Nat)
  (hn:∀ i e,us[i]? = some e→∀ (A:Around) (Q:Option (Value × Nat)→Shared→Prop) (E:Value→Shared→Prop) (s:Shared),s.heap.get? S = some o→Q (some (e.2,sl (i + 1))) s→wpAny (model prog w) A (setNext S (sl i) i ep) Q E s)
  (he:∀ (A:Around) (Q:Option (Value × Nat)→Shared→Prop) (E:Value→Shared→Prop) (s:Shared),s.heap.get? S = some o→Q none s→wpAny (model prog w) A (setNext S (sl us.length) us.length ep) Q E s) :
  Wk prog w A I [I,S] (us.map (·.2)) (fun i h=>IsSI h I S (rawInt (sl i)) i es.size ep∧h.get? S = some o) where
 mem:=by simp
 frame:=fun i h h' ⟨a,b⟩ k=>⟨k I (by simp) _ a,k S (by simp) _ b⟩
 item:=fun i v s Q E hv ⟨a,b⟩ hQ=>by
  rw [List.getElem?_map] at hv
  obtain ⟨e,he,rfl⟩:=Option.map_eq_some_iff.mp hv
  exact si_int a b hd hf (hn i e he) fun h' z sb=>hQ h' ⟨z,sb.extBut S _ hSI b⟩ fun b' o' nb e=>sb.extBut b' o' nb e
 done:=fun s Q E ⟨a,b⟩ hQ=>by
  rw [List.length_map] at a
  exact si_int_end hh a b hd hf he fun h' kp=>hQ h' kp
theorem wk_ref {I S T:Addr} {o:Obj} {es:Array (Int × Value)} {t:SetTable} {ep:Nat} (hh:A.handled = none) (hSI:S ≠ I) (hTI:T ≠ I) (hd:o.data = .set es ep t) (hf:t.fits es.size = true) (ps:List Nat) (hp:∀ p ∈ ps,p < es.size) :
  Wk prog w A I [I,S,T] (ps.map fun p=>(es.getD p (0,.none)).2) (fun i h=>IsSI h I S (.ref T) i es.size ep∧h.get? S = some o∧IsT h T (ps.map fun p:Nat=>rawInt p).toArray) where
 mem:=by simp
 frame:=fun i h h' ⟨a,b,c⟩ k=>⟨k I (by simp) _ a,k S (by simp) _ b,k T (by simp) _ c⟩
 item:=fun i v s Q E hv ⟨a,b,c⟩ hQ=>by
  rw [List.getElem?_map] at hv
  obtain ⟨p,hpi,rfl⟩:=Option.map_eq_some_iff.mp hv
  have lp:=hp p (List.mem_of_getElem? hpi)
  have ee:es[p]? = some (es.getD p (0,.none)):=by simp [Array.getD,lp]
  refine si_ref a b hd hf c (p:=p) (by simp [hpi]) ee fun h' z sb=>hQ h' ⟨z,sb.extBut S _ hSI b,sb.extBut T _ hTI c⟩ fun b' o' nb e=>sb.extBut b' o' nb e
 done:=fun s Q E ⟨a,b,c⟩ hQ=>by
  rw [List.length_map] at a
  exact si_ref_end hh a b hd hf c (by simp) fun h' kp=>hQ h' kp
end
end L2
set_option Elab.async false
set_option linter.all false
set_option maxRecDepth 100000
set_option maxHeartbeats 2000000
namespace L2
open PySem PySem.Spec PyProof.Rows
def slotAt (t:SetTable):Nat→Nat
 | 0=>0
 | i + 1=>t.place.getD i 0 + 1
theorem slot_bel {t:SetTable} (h:Rise t.place):∀ i,i ≤ t.place.size→SetTable.below t.place (slotAt t i) = i
 | 0,_=>bel_one (bel h) ⟨Nat.zero_le _,fun _ _ z=>absurd z (Nat.not_lt_zero _),fun _ _ _ _=>Nat.zero_le _⟩
 | i + 1,hi=>by
  have il:i < t.place.size:=by omega
  have e:=Array.getElem?_eq_getElem il
  have eg:slotAt t (i + 1) = t.place[i] + 1:=by simp [slotAt,Array.getD,il]
  rw [eg]
  refine bel_one (bel h) ⟨hi,fun k x hk ek=>?_,fun k x hk ek=>?_⟩
  ·by_cases z:k = i
   ·subst z
    rw [e] at ek
    cases ek
    omega
   ·have:=h.at (show k < i by omega) ek e
    omega
  ·have:=h.at (show i < k by omega) e ek
   omega
theorem fits_size {t:SetTable} {n:Nat} (h:t.fits n = true):t.place.size = n:=by
 unfold SetTable.fits at h
 rw [Bool.and_eq_true] at h
 simpa using h.1
section
variable {prog:Program} {w:World} {A:Around} {E:Value→Shared→Prop} {s:Shared}
theorem iter_set {S:Addr} {o:Obj} {es:Array (Int × Value)} {t:SetTable} {ep:Nat} {Q:Value→Shared→Prop} (hS:s.heap.get? S = some o) (hx:o.ExactSet) (hd:o.data = .set es ep t) (tb:Tab (!w.params.followText "set-order") t es.size) (hz:es.size < 100)
  (h:∀ I h' d fp us St,s.heap.objs.size ≤ I→(∀ b ∈ fp,b = S∨s.heap.objs.size ≤ b)→(∀ b o,s.heap.get? b = some o→h'.get? b = some o)→us.Perm (es.toList.map (·.2))→(∀ A':Around,A'.handled = none→Wk prog w A' I fp us St)→St 0 h'→Q (.ref I) { s with heap:=h',drawn:=d }) :
  wpAny (model prog w) A (pyIter (.ref S)) Q E s:=by
 have ty:s.TypeIs (.ref S) "set":=⟨o,hS,hx.1⟩
 have lt:=Heap.lt_size hS
 have ps:=fits_size tb.fits
 refine wpAny_pyIter_slot ty F.slot_set_iter (wpAny_call_entry F.slot_set_iter ty F4.entry_set_iter ?_ (F.args_set_iter_1 _))
 unfold Builtin.«frozenset.__iter__»
 refine wpAny_bind (m:=Builtin.Frozenset.slot0 "__iter__" _) (wpAny_pure ?_)
 refine wpAny_bind (wpAny_bind (wpAny_setEntries_of hS hd tb.fits (wpAny_pure ?_)))
 unfold setDrawn
 refine wpAny_bind ?_
 refine wpAny_bind (wpAny_setState_of hS hd tb.fits (wpAny_bind (by_text (wpAny_pure ?_))))
 show wpAny _ _ (if (!w.params.followText "set-order" && (!t.plain && decide (es.size > 1))) = true then _ else _) _ _ s
 cases hb:w.params.followText "set-order" with
 | true =>
  refine ite_no (by simp) (wpAny_bind (wpAny_pure ?_))
  refine wpAny_bind (wpAny_setEpoch_of hS hd tb.fits ?_)
  refine wpAny_bind (wpAny_newObj_type (wpAny_pure ⟨_,rfl,"set_iterator",_,⟨_,Heap.get?_push_size _ rfl,rfl⟩,F4.slot_si_next.lookup,?_⟩))
  have hp:=pick_perm (w.params.setOrder S ep) es
  refine h _ _ s.drawn [s.heap.objs.size,S] ((pickOrder (w.params.setOrder S ep) es).toList.map (·.2)) _ (Nat.le_refl _) (fun b hb'=>?_) (fun b o e=>Heap.get?_push_of_some _ e) (hp.map _)
   (fun A' hh=>wk_int hh (Nat.ne_of_lt lt) hd tb.fits (pickOrder (w.params.setOrder S ep) es).toList (fun _=>0) (fun i e hi A Q E s hS q=>next_text hS hd tb.fits hb (by rw [Array.getElem?_toList] at hi; rw [hi]; exact q)) fun A Q E s hS q=>next_text hS hd tb.fits hb (by rw [Array.length_toList,Array.getElem?_eq_none (Nat.le_refl _)]; exact q))
   ⟨Heap.get?_push_size _ rfl,Heap.get?_push_of_some _ hS⟩
  simp only [List.mem_cons,List.not_mem_nil,or_false] at hb'
  exact hb'.elim (fun e=>.inr (Nat.le_of_eq e.symm)) .inl
 | false =>
  have hl:t.led = true:=by rw [tb.led,hb]; rfl
  cases hdr:(!t.plain && decide (es.size > 1)) with
  | false =>
   refine ite_no (by simp) (wpAny_bind (wpAny_pure ?_))
   refine wpAny_bind (wpAny_setEpoch_of hS hd tb.fits ?_)
   refine wpAny_bind (wpAny_newObj_type (wpAny_pure ⟨_,rfl,"set_iterator",_,⟨_,Heap.get?_push_size _ rfl,rfl⟩,F4.slot_si_next.lookup,?_⟩))
   refine h _ _ s.drawn [s.heap.objs.size,S] (es.toList.map (·.2)) _ (Nat.le_refl _) (fun b hb'=>?_) (fun b o e=>Heap.get?_push_of_some _ e) (List.Perm.refl _)
    (fun A' hh=>wk_int hh (Nat.ne_of_lt lt) hd tb.fits es.toList (slotAt t) (fun i e hi A Q E s hS q=>next_led (i:=i) hS hd tb.fits hb hdr hl (slot_bel tb.rise i ?_) ?_) fun A Q E s hS q=>next_led hS hd tb.fits hb hdr hl (slot_bel tb.rise _ (by rw [Array.length_toList]; omega)) (by rw [Array.length_toList,Array.getElem?_eq_none (Nat.le_refl _)]; exact q))
    ⟨Heap.get?_push_size _ rfl,Heap.get?_push_of_some _ hS⟩
   ·simp only [List.mem_cons,List.not_mem_nil,or_false] at hb'
    exact hb'.elim (fun e=>.inr (Nat.le_of_eq e.symm)) .inl
   ·have:=(List.getElem?_eq_some_iff.mp hi).1
    rw [Array.length_toList] at this
    omega
   ·have il:=(List.getElem?_eq_some_iff.mp hi).1
    rw [Array.length_toList] at il
    rw [Array.getElem?_toList] at hi
    have ip:i < t.place.size:=by omega
    rw [hi,Array.getElem?_eq_getElem ip]
    have:slotAt t (i + 1) = t.place[i] + 1:=by simp [slotAt,Array.getD,ip]
    rw [this] at q
    exact q
  | true =>
   refine ite_yes (by simp) ?_
   refine wpAny_bind (draw_order es.size (List.range es.size) s _ (by simp) fun d ys hp=>wpAny_bind (wpAny_newTuple ?_ ?_))
   ·have hS1:(s.heap.push { cls:=.type "tuple",data:=.seq (ys.map fun i:Nat=>rawInt i).toArray }).get? S = some o:=Heap.get?_push_of_some _ hS
    refine wpAny_bind (wpAny_setEpoch_of (s:={ s with heap:=s.heap.push { cls:=.type "tuple",data:=.seq (ys.map fun i:Nat=>rawInt i).toArray },drawn:=d }) hS1 hd tb.fits ?_)
    refine wpAny_bind (wpAny_newObj_type (wpAny_pure ⟨_,rfl,"set_iterator",_,⟨_,Heap.get?_push_size _ rfl,rfl⟩,F4.slot_si_next.lookup,?_⟩))
    have sz:(s.heap.push { cls:=.type "tuple",data:=.seq (ys.map fun i:Nat=>rawInt i).toArray }).objs.size = s.heap.objs.size + 1:=Heap.size_push ..
    refine h _ _ d [(s.heap.push { cls:=.type "tuple",data:=.seq (ys.map fun i:Nat=>rawInt i).toArray }).objs.size,S,s.heap.objs.size] (ys.map fun p=>(es.getD p (0,.none)).2) _ (by rw [sz]; exact Nat.le_succ _) (fun b hb'=>?_) (fun b o e=>Heap.get?_push_of_some _ (Heap.get?_push_of_some _ e)) ?_
     (fun A' hh=>wk_ref hh ?_ ?_ hd tb.fits ys fun p m=>?_)
     ⟨Heap.get?_push_size _ rfl,Heap.get?_push_of_some _ hS1,Heap.get?_push_of_some _ (Heap.get?_push_size _ rfl)⟩
    ·simp only [List.mem_cons,List.not_mem_nil,or_false] at hb'
     rcases hb' with e | e | e
     ·exact .inr (by rw [e,sz]; exact Nat.le_succ _)
     ·exact .inl e
     ·exact .inr (Nat.le_of_eq e.symm)
    ·refine (hp.map _).trans ?_
     have:(List.range es.size).map (fun p=>(es.getD p (0,.none)).2) = es.toList.map (·.2):=by
      refine List.ext_getElem (by simp) fun i h1 h2=>?_
      have hi:i < es.size:=by simpa using h1
      simp [Array.getD,hi]
     rw [this]
    ·rw [sz]
     exact Nat.ne_of_lt (Nat.lt_succ_of_lt lt)
    ·rw [sz]
     exact Nat.ne_of_lt (Nat.lt_succ_self _)
    ·exact List.mem_range.mp (hp.mem_iff.mp m)
   ·have:=hp.length_eq
    rw [List.length_range] at this
    rw [List.length_map,sizeLine_eq]
    omega
end
end L2
set_option Elab.async false
set_option linter.all false
set_option maxRecDepth 100000
set_option maxHeartbeats 2000000
namespace L2
open PySem PySem.Spec PyProof.Rows
namespace F4
theorem len_set:typeLookup (.type "set") "__len__" = pure (some (.builtin "set.__len__")):=by rw [typeLookup_type,builtinLookup_eq_fast]; kernel_rfl
end F4
section
variable {prog:Program} {w:World} {A:Around} {E:Value→Shared→Prop} {s:Shared}
theorem touch_list {L:Addr} {c:Nat} {Q:Unit→Shared→Prop} (hL:s.heap.get? L = some (seqObj "list" #[] c)) (h:∀ h' c',Heap.SameBut L s.heap h'→h'.get? L = some (seqObj "list" #[] c')→Q () { s with heap:=h' }) :
  wpAny (model prog w) A (Builtin.List.listTouch (.ref L)) Q E s:=by
 unfold Builtin.List.listTouch
 have g1:=get?_update_seq hL (fun xs=>xs.push .none)
 refine wpAny_bind (listUpdate_at hL rfl ?_ (Nat.zero_le _) (by show (#[]:Array Value).size + 1 ≤ _; simp))
 have g2:=get?_update_seq g1 (fun xs=>xs.pop)
 refine listUpdate_at (s:={ s with heap:=s.heap.update L (Obj.mapSeq fun xs=>xs.push .none) }) g1 rfl ?_ (by simp [sizeLine_eq]) (by simp)
 exact h _ _ ((Heap.SameBut.update ..).trans (Heap.SameBut.update ..)) g2
theorem collect_set {S:Addr} {o:Obj} {es:Array (Int × Value)} {t:SetTable} {ep:Nat} {Q:List Value→Shared→Prop} (hh:A.handled = none) (hS:s.heap.get? S = some o) (hx:o.ExactSet) (hd:o.data = .set es ep t) (tb:Tab (!w.params.followText "set-order") t es.size) (hz:es.size < 100)
  (h:∀ h' d us,us.Perm (es.toList.map (·.2))→(∀ b o,s.heap.get? b = some o→h'.get? b = some o)→Q us { s with heap:=h',drawn:=d }):wpAny (model prog w) A (collect (.ref S)) Q E s:=by
 have lt:=Heap.lt_size hS
 unfold collect
 refine wpAny_bind (wpAny_runValue (codeAny_builtin F.entry_proto_collect ?_))
 rw [Around.under_plainId F.plain_proto_collect _]
 show wpAny _ A.in1 (newList [] >>= fun l=>again (.builtin "list.__iadd__" ⟨[l,.ref S],[]⟩)) _ _ s
 refine wpAny_bind (wpAny_newObj_type ?_)
 refine wpAny_pure ⟨plainId_quiet F.plain_list_iadd _,codeAny_builtin F.entry_list_iadd ?_⟩
 rw [Around.under_plainId F.plain_list_iadd _]
 have hL:(s.heap.push (seqObj "list" #[] 0)).get? s.heap.objs.size = some (seqObj "list" #[] 0):=Heap.get?_push_size _ rfl
 have hS1:(s.heap.push (seqObj "list" #[] 0)).get? S = some o:=Heap.get?_push_of_some _ hS
 have sz:(s.heap.push (seqObj "list" #[] 0)).objs.size = s.heap.objs.size + 1:=Heap.size_push ..
 show wpAny _ A.in1 (Builtin.List.listExtendWith (.ref s.heap.objs.size) (.ref S) (.ref s.heap.objs.size)) _ _ { s with heap:=s.heap.push (seqObj "list" #[] 0) }
 have ty:Shared.TypeIs { s with heap:=s.heap.push (seqObj "list" #[] 0) } (.ref S) "set":=⟨o,hS1,hx.1⟩
 have sr:Builtin.List.listSameRef (.ref s.heap.objs.size) (.ref S) = false:=by simp [Builtin.List.listSameRef,Nat.ne_of_gt lt]
 unfold Builtin.List.listExtendWith
 refine wpAny_bind (wpAny_typeOf ty ?_)
 rw [if_neg (by rw [sr]; decide)]
 refine wpAny_bind (iter_set (s:={ s with heap:=s.heap.push (seqObj "list" #[] 0) }) hS1 hx hd tb hz fun I h' d fp us St hI hfp kp hp W st0=>?_)
 have ty':Shared.TypeIs { s with heap:=h',drawn:=d } (.ref S) "set":=⟨o,kp S o hS1,hx.1⟩
 refine wpAny_bind (wpAny_holding ?_)
 unfold Builtin.List.listLengthHint
 refine wpAny_bind (wpAny_specialOf ty' F4.len_set ?_)
 (generalize hid:("set.__len__":String) = id0; (fail_if_success (clear hid id0)); wp_delta; rw [show splitId id0 = some ("set","__len__") from by subst hid; decide +kernel]; subst hid)
 refine wpAny_bind (wpAny_isInstance (b:=true) ty' sub_set_self ?_)
 refine ite_no (by decide) ?_
 refine ite_yes (by decide +kernel) ?_
 refine wpAny_bind (wpAny_typeOf ty' (wpAny_pure ?_))
 refine ite_yes (by decide +kernel) ?_
 refine wpAny_bind (wpAny_rule ?_)
 have hL':h'.get? s.heap.objs.size = some (seqObj "list" #[] 0):=kp _ _ hL
 have nL:s.heap.objs.size ∉ fp:=fun m=>by
  rcases hfp _ m with e | e
  ·exact absurd e (Nat.ne_of_gt lt)
  ·have e':s.heap.objs.size + 1 ≤ s.heap.objs.size:=by rw [← sz]; exact e
   omega
 refine wpAny_bind (touch_list (s:={ s with heap:=h',drawn:=d }) hL' fun h2 c2 sb hL2=>?_)
 have W1:=W A.in1 hh
 refine wpAny_pure ⟨plainId_quiet F.plain_extend_loop _,ext_loop W1 (by rw [hp.length_eq,List.length_map,Array.length_toList]; omega) _ nL _ _ 0 { s with heap:=h2,drawn:=d } #[] c2 rfl (Nat.zero_le _) (W1.frame 0 h' h2 st0 fun b hb ob e=>sb.extBut b ob (fun z=>nL (z ▸ hb)) e) hL2 rfl fun h3 c3 kp3 hL3=>?_⟩
 refine wpAny_bind (wpAny_load hL3 ?_)
 show wpAny _ _ (pure us.toArray.toList) _ _ _
 rw [List.toList_toArray]
 refine wpAny_pure (h h3 d us hp fun b ob e=>?_)
 have lb:=Heap.lt_size e
 refine kp3 b ob (Nat.ne_of_lt lb) (fun z=>?_) (sb.extBut b ob (Nat.ne_of_lt lb) (kp b ob (Heap.get?_push_of_some _ e)))
 rw [z] at lb
 have hI':s.heap.objs.size + 1 ≤ I:=by rw [← sz]; exact hI
 exact absurd (Nat.lt_trans lb hI') (Nat.lt_irrefl _)
theorem nodup_len:∀ (l m:List Int),l.Nodup→(∀ x ∈ l,x ∈ m)→l.length ≤ m.length
 | [],m,_,_=>Nat.zero_le _
 | a :: l,m,nd,h=>by
  obtain ⟨n1,n2⟩:=List.nodup_cons.mp nd
  have ma:=h a List.mem_cons_self
  have:=nodup_len l (m.erase a) n2 fun x mx=>(List.mem_erase_of_ne (show x ≠ a from fun e=>n1 (by rw [← e]; exact mx))).mpr (h x (List.mem_cons_of_mem _ mx))
  rw [List.length_erase_of_mem ma] at this
  have:0 < m.length:=List.length_pos_of_mem ma
  rw [List.length_cons]
  omega
theorem ints_of:∀ {us:List Value} (h:∀ v ∈ us,∃ n t,v = Value.int n t),∃ ns,IntsAre us ns∧ns = us.map fun v=>kE (0,v)
 | [],_=>⟨[],.nil,rfl⟩
 | v :: us,h=>by
  obtain ⟨n,t,rfl⟩:=h v List.mem_cons_self
  obtain ⟨ns,h1,h2⟩:=ints_of (us:=us) fun v m=>h v (List.mem_cons_of_mem _ m)
  exact ⟨n :: ns,.cons n t h1,by rw [h2]; rfl⟩
theorem sorted_set {l:Addr} {vs:Array Value} {ns:List Int} {Q:Value→Shared→Prop} (hh:A.handled = none) (hl:s.heap.IsList l vs) (hz:vs.size = ns.length) (hv:∀ (i:Nat) v,vs[i]? = some v→∃ tk,v = .int (ns.getD i 0) tk) (hn:ns.length < 60)
  (h:∀ D h' tk d out ms c,s.heap.objs.size ≤ D→(∀ b o,s.heap.get? b = some o→h'.get? b = some o)→IntsAre out ms→ms.Pairwise (· < ·)→(∀ x,x ∈ ms ↔ x ∈ ns)→h'.get? D = some (seqObj "list" out.toArray c)→Q (.ref D) { s with heap:=h',toks:=tk,drawn:=d }) :
  wpAny (model prog w) A (call (.type "set") [.ref l]) (fun a s'=>wpAny (model prog w) A (call (.builtin "sorted") [a]) Q E s') E s:=by
 refine call_set1 hh hl hz hv (by omega) fun a h1 tk es ha kp1 hSI hk=>?_
 obtain ⟨o,ep,t,ho,hex,hd,hok,hnd,hz',tb⟩:=hSI
 refine Calls.call_function_entry kind_sorted plain_sorted entry_sorted (args_sorted1 _) ?_
 unfold Builtin.«sorted»
 refine wpAny_bind (m:=checkCount "sorted" 1 1 1) (wpAny_pure ?_)
 refine wpAny_bind (collect_set (s:={ s with heap:=h1,toks:=tk }) (A:=A.in1) hh ho hex hd tb hz' fun h2 d us hp kp2=>?_)
 have ul:us.length = es.size:=by rw [hp.length_eq,List.length_map,Array.length_toList]
 have ui:∀ v ∈ us,∃ n t,v = Value.int n t:=fun v m=>by
  obtain ⟨e,me,rfl⟩:=List.mem_map.mp (hp.mem_iff.mp m)
  obtain ⟨n,t,e1,_⟩:=hok e me
  exact ⟨n,t,e1⟩
 obtain ⟨ns0,hI,e0⟩:=ints_of ui
 have p0:ns0.Perm (es.toList.map kE):=by
  rw [e0]
  refine (hp.map fun v=>kE (0,v)).trans ?_
  rw [List.map_map]
  exact List.Perm.refl _
 have el:es.size ≤ ns.length:=by
  have:=nodup_len _ ns hnd fun x m=>(hk x).mp m
  rwa [List.length_map,Array.length_toList] at this
 refine wpAny_bind (wpAny_newList ?_ (by rw [ul,sizeLine_eq]; omega))
 have hoL:(h2.push (seqObj "list" us.toArray 0)).get? h2.objs.size = some (seqObj "list" us.toArray 0):=Heap.get?_push_size _ rfl
 refine wpAny_bind (wpAny_holding (wpAny_call_entry slot_list_sort ⟨_,hoL,rfl⟩ entry_list_sort (list_sort_tree (s:={ s with heap:=h2.push (seqObj "list" us.toArray 0),toks:=tk,drawn:=d }) hoL hI (by omega) fun out ms a1 a2 a3=>⟨_,rfl,?_⟩) (args_list_sort _)))
 have np:ms.Nodup:=(a2.trans p0).nodup_iff.mpr hnd
 obtain ⟨c,hc⟩:=sortedHeap_at (out:=out) hoL
 refine wpAny_pure ⟨_,rfl,h h2.objs.size _ tk d out.toList ms c ?_ (fun b o e=>?_) a1 ?_ (fun x=>?_) ?_⟩
 ·exact Nat.le_trans ha (Nat.le_of_lt (Heap.lt_size (kp2 a o ho)))
 ·have e2:=kp2 b o (kp1 b o e)
  have lb:=Heap.lt_size e2
  rw [sortedHeap_old (Nat.ne_of_lt lb) (by rw [size_push']; exact Nat.lt_succ_of_lt lb)]
  exact Heap.get?_push_of_some _ e2
 ·exact (List.Pairwise.and a3 np).imp fun ⟨h1,h2⟩=>by omega
 ·rw [(a2.trans p0).mem_iff,hk x]
 ·simpa using hc
end
end L2
set_option Elab.async false
set_option linter.all false
set_option maxRecDepth 100000
set_option maxHeartbeats 2000000
namespace L2
open PySem PySem.Spec PyProof.Rows
theorem Inv.drw {X:Cx} {pins:List (Addr × Obj)} {σ:St} {H:Hp} {s:Shared} (d:Drawn) (I:Inv X pins σ H s):Inv X pins σ H { s with drawn:=d } :=
 I.call (h':=s.heap) (g':=s.gens) (t':=s.toks) (ch:=[]) Un.refl I.hok I.bare (fun _ z=>nomatch z)
theorem boot_set:bootBuiltins "set" = some (.type "set"):=by decide +kernel
def rSortSet (K:PySem.W.Frag):List V→Hp→VK→Prop:=fun xs H Q=>∃ (p:Addr) (ns:List Int),xs = [.ref p]∧SqL K H p (ns.map V.int)∧ns.length < 60∧∀ (l:Addr) (ms:List Int),H l = none→ms.Pairwise (· < ·)→(∀ x,x ∈ ms ↔ x ∈ ns)→Q (.ref l) (upd H l (.lst (ms.map V.int)))
theorem ints_get:∀ {vs:List Value} {ns:List Int},IntsAre vs ns→∀ (i:Nat) v,vs[i]? = some v→∃ tk,v = .int (ns.getD i 0) tk
 | _,_,.nil,i,v,h=>by simp at h
 | _,_,.cons n t h,0,v,e=>⟨t,by simpa using e.symm⟩
 | _,_,.cons n t h,i + 1,v,e=>by
  have:=ints_get h i v (by simpa using e)
  simpa using this
theorem ints_len:∀ {vs:List Value} {ns:List Int},IntsAre vs ns→vs.length = ns.length
 | _,_,.nil=>rfl
 | _,_,.cons n t h=>by simp [ints_len h]
section
variable {X:Cx} {e:Expr} {t:TA} {p p2 pos pos2:Pos}
theorem pe_sortset (hc:X.calm = true) (hgs:Gl X "sorted") (hms:X.mg "sorted" = none) (hgt:Gl X "set") (hmt:X.mg "set" = none) (ha:PA X [e] t)
  (he:starEach [e] X.env = (false,eval e X.env) :: starEach [] X.env:=by rfl) (hpl:(backTo pos2 (starEach [] X.env)).any (·.1) = false:=by rfl)
  (he2:starEach [Expr.Call (.Name "set" p2) [e] [] pos2] X.env = (false,eval (Expr.Call (.Name "set" p2) [e] [] pos2) X.env) :: starEach [] X.env:=by rfl) (hpl2:(backTo pos (starEach [] X.env)).any (·.1) = false:=by rfl) :
  PE X (.Call (.Name "sorted" p) [.Call (.Name "set" p2) [e] [] pos2] [] pos) (tCB (rSortSet X.K) t):=by
 intro pins s σ H Q I h
 refine wpAny_Call_Name_kw (ld_blt I hgs hms boot_sorted ?_)
 refine PyProof.Rows.callWith_builtin1 ?_ he2 hpl2
 rw [he2]
 show wpAny _ _ (spliced [(false,eval (Expr.Call (.Name "set" p2) [e] [] pos2) X.env)]) _ _ s
 refine Calls.spliced_cons ?_
 refine wpAny_Call_Name_kw (ld_blt I hgt hmt boot_set ?_)
 refine PyProof.Rows.callWith_type1 (thn (ha pos2 pins s σ H _ I h) fun us s1 ⟨vs,H1,I1,r1,q1⟩=>?_) he hpl
 obtain ⟨pl,ns,rfl,hq,hn,q⟩:=q1
 obtain ⟨u,rfl,rx⟩:=vals1 r1
 cases (show u = Value.ref pl from rx)
 obtain ⟨its,rv,pl',_⟩:=I1.list hq
 have hI:=intsAre_of rv
 refine wpAny_mono (sorted_set (ns:=ns) (I1.ok.hd hc) pl'.isList (by rw [List.size_toArray]; exact ints_len hI) (fun i v hv=>ints_get hI i v (by simpa using hv)) hn fun D h' tk d out ms c hD kp oI pw mm hg=>?_) (fun a s2 z=>Calls.spliced_nil z) fun _ _ z=>z
 refine ⟨.ref D,_,((I1.drw d).laid (t':=tk) kp hD (show ObjOk X.prog X.w _ h' D (.lst (ms.map V.int)) from ⟨?_,out,c,vals_ints oI,hg⟩)),rfl,q D ms (I1.hok.fresh hD) pw mm⟩
 have:=nodup_len ms ns (pw.imp fun h=>by omega) fun x m=>(mm x).mp m
 rw [List.length_map,sizeLine_eq]
 omega
end
def dSortSet:List XV→Sto→RX→Prop:=fun xs S R=>arg1 xs fun x=>∃ ds,asLs S x = some ds∧∃ ns:List Int,ds = ns.map PyData.int∧ns.length < 60∧∀ ms:List Int,ms.Pairwise (· < ·)→(∀ x,x ∈ ms ↔ x ∈ ns)→R (.d (.list (ms.map PyData.int))) S
theorem rc_sortset {K:PySem.W.Frag}:RC (rSortSet K) dSortSet:=fun h o H S xs vs R Q hs hx q c=>by
 obtain ⟨x,rfl,ds,hd,ns,rfl,hn,q1⟩:=arg1_ex q
 obtain ⟨v,rfl,hx1⟩:=hxs1 hx
 obtain ⟨a,ws,rfl,ea,l⟩:=hx_lst hs hd hx1
 rw [hasL_intsV l] at ea
 refine ⟨a,ns,rfl,.of ea,hn,fun l ms hl pw mm=>?_⟩
 exact mkLst hs (hasL_ints ms) c (q1 ms pw mm) l hl
end L2
set_option Elab.async false
set_option linter.all false
set_option maxRecDepth 100000
namespace L2
open PySem PySem.Spec PyProof.Rows
end L2
set_option Elab.async false
set_option linter.all false
set_option maxRecDepth 100000
namespace L2
open PySem PySem.Spec PyProof.Rows
section
variable {prog:Program} {w:World} {A:Around} {E:Value→Shared→Prop} {s:Shared}
end
end L2
set_option Elab.async false
set_option linter.all false
set_option maxRecDepth 100000
namespace L2
open PySem PySem.Spec PyProof.Rows
section
variable {M:Model} {A:Around} {E:Value→Shared→Prop} {s:Shared}
end
section
variable {P:Program} {w:World} {K:PySem.W.Frag} {mg:Str→Option Value} {base:Heap} {N:List Str} {qual:Str} {scope:Scope} {f:Addr} {cd:Value} {A:Around} {outer:List Env} {s:Shared} {H:Hp} {E:XK}
end
end L2
set_option Elab.async false
set_option linter.all false
set_option maxRecDepth 100000
namespace L2
open PySem PySem.Spec PyProof.Rows
section
variable {K:PySem.W.Frag} {h:Heap} {C G:Addr} {ini iniG:Option Value}
variable {M:Model} {A:Around} {E:Value→Shared→Prop} {g:Array GenState} {d:Drawn} {t:Nat} {os:OsState} {e:Addr} {oe:Obj} {Q:Bool→Shared→Prop}
end
section
variable {X:Cx} {E:XK} {x:Str} {C:Addr} {np cpos pos:Pos}
end
end L2
set_option Elab.async false
set_option linter.all false
set_option maxRecDepth 100000
namespace L2
open PySem PySem.Spec PyProof.Rows
section
variable {X:Cx} {k:Nat} {f:Addr} {fd:FuncData} {ps:List Str} {sp:Sp} {x:Str} {p pos:Pos} {e e1:Expr} {es:List Expr} {t:TA} {te:TE} {tx:XK→TE}
end
section
variable {X:Cx} {pins:List (Addr × Obj)} {σ:St} {H:Hp} {s:Shared} {a:Addr}
end
section
variable {X:Cx} {G n:Str} {gp hpos pos:Pos} {i:Nat} {b₀ st:Stmt} {suite:List Stmt} {GA:Addr} {iniG:Option Value} {tb:XK→TS} {ts:TS}
end
end L2
set_option Elab.async false
set_option linter.all false
set_option maxRecDepth 100000
namespace L2
open PySem PySem.Spec PyProof.Rows
section
variable {P:Program} {w:World} {K:PySem.W.Frag} {mg:Str→Option Value} {base:Heap} {k:Nat}
end
section
variable {P:Program} {w:World} {K:PySem.W.Frag} {mg:Str→Option Value} {base:Heap} {x:Str} {st:Stmt} {N ps:List Str} {k:Nat}
end
section
variable {X:Cx} {x:Str} {ps:List Str} {k j:Nat} {pos pos':Pos} {e:Expr} {es:List Expr} {t:TA}
end
end L2
set_option Elab.async false
set_option linter.all false
set_option maxRecDepth 100000
namespace L2
open PySem PySem.Spec PySem.Calls PyProof.Rows PySem.W PySem.Builtin PySem.Builtin.ObjectAttr PySem.Builtin.Getset_descriptor
section
variable {prog:Program} {w:World} {A:Around} {E:Value→Shared→Prop} {h:Heap} {g:Array GenState} {d:Drawn} {t:Nat} {os:OsState} {K:PySem.W.Frag} {x C:Addr} {ox:Obj} {od:Option Obj} {name:Str} {tk:Tok}
end
end L2
set_option Elab.async false
set_option linter.all false
set_option maxRecDepth 100000
namespace L2
open PySem PySem.Spec PySem.Calls PyProof.Rows
section
variable {K:PySem.W.Frag} {x C D:Addr}
end
end L2
set_option Elab.async false
set_option linter.all false
set_option maxRecDepth 100000
namespace L2
open PySem PySem.Spec PyProof.Rows
abbrev EXD:=Addr→List (Str × PyData)→Prop
abbrev PX:=List XV→Sto→RX→EXD→Prop
def CnX (h o:List Addr) (H:Hp) (EX:EXD) (E:XK):Prop:=∀ o' H' S' C a fs,Ex o H o' H'→RepS h o' H' S'→HasE (vx h o' H') C fs (.ref a)→EX C fs→E (.ref C) (some a) H'
theorem CnX.pre {h o o':List Addr} {H H':Hp} {EX:EXD} {E:XK} (c:CnX h o H EX E) (e:Ex o H o' H'):CnX h o' H' EX E:=fun o2 H2 S2 C a fs e2=>c o2 H2 S2 C a fs (e.trans e2)
def RSx (E:XK) (EX:EXD) (t:TS) (dt:DS):Prop:=∀ (h o:List Addr) (H:Hp) (δ:XE) (σ:St) (S:Sto) (En:DEnds) (D:Ends),RepE h o H δ σ→RepS h o H S→dt En δ S→EOk h o H En D→CnX h o H EX E→t D σ H
section
variable {E:XK} {EX:EXD} {t u:TS} {dt du:DS}
theorem rx_lift (ht:RS t dt):RSx E EX t dt:=fun h o H δ σ S En D he hs q c _=>ht h o H δ σ S En D he hs q c
end
section
variable {P:Program} {w:World} {K:PySem.W.Frag} {mg:Str→Option Value} {base:Heap} {x:Str} {st:Stmt} {N ps:List Str} {k:Nat}
end
end L2
set_option Elab.async false
set_option linter.all false
set_option maxRecDepth 100000
namespace L2
open PySem PySem.Spec PyProof.Rows
end L2
set_option Elab.async false
set_option linter.all false
set_option maxRecDepth 100000
namespace L2
open PySem PySem.Spec PyProof.Rows
end L2
set_option Elab.async false
set_option linter.all false
set_option maxRecDepth 100000
set_option maxHeartbeats 2000000
namespace L2
open PySem PySem.Spec PyProof.Rows
section
variable {prog:Program} {w:World} {A:Around} {E:Value→Shared→Prop} {s:Shared}
end
section
variable {X:Cx} {e:Expr} {t:TA} {p p2 pos pos2:Pos}
end
end L2
set_option Elab.async false
set_option linter.all false
set_option maxRecDepth 100000
namespace L2
open PySem PySem.Spec PySem.Calls PyProof.Rows PySem.W PySem.Builtin PySem.Builtin.ObjectAttr
section
variable {prog:Program} {w:World} {A:Around} {E:Value→Shared→Prop} {h:Heap} {g:Array GenState} {d:Drawn} {t:Nat} {os:OsState} {K:PySem.W.Frag} {x C:Addr} {o:Obj} {cd:ClassData} {name:Str} {v:Value} {mA:Str→Option Value}
end
end L2
set_option Elab.async false
set_option linter.all false
set_option maxRecDepth 100000
namespace L2
open PySem PySem.Spec PySem.Calls PyProof.Rows PySem.W
section
variable {X:Cx} {o value:Expr} {f:Str} {pos pos':Pos} {ta tv:TE}
end
end L2
set_option Elab.async false
set_option linter.all false
set_option maxRecDepth 100000
namespace L2
open PySem PySem.Spec PySem.Calls PyProof.Rows
section
variable {prog:Program} {w:World} {A:Around} {E:Value→Shared→Prop} {h:Heap} {g:Array GenState} {d:Drawn} {t:Nat} {os:OsState}
variable {nm q:Str} {C N:Addr} {bs bm:List Value} {hdct:Bool} {sn:List Str} {sub:List Value} {ab:Bool} {col:Option Bool} {dd:Option Addr} {k0 k1 k2 k3 k5:Option Value} {mN:Str→Option Value} {rest:List Value} {fI:Addr} {oI:Obj}
end
section
variable {prog:Program} {w:World} {A:Around} {E:Value→Shared→Prop} {s:Shared} {env:Env}
variable {nm q:Str} {C N:Addr} {bs bm:List Value} {hdct:Bool} {sn:List Str} {sub:List Value} {ab:Bool} {col:Option Bool} {dd:Option Addr} {k0 k1 k2 k3 k5:Option Value} {newId:String}
end
end L2
set_option Elab.async false
set_option linter.all false
set_option maxRecDepth 100000
namespace L2
open PySem PySem.Spec PySem.Calls PyProof.Rows
section
variable {P:Program} {w:World} {K:PySem.W.Frag} {mg:Str→Option Value} {base:Heap} {N:List Str} {qual:Str} {scope:Scope} {f:Addr} {cd:Value} {A:Around} {outer:List Env} {s:Shared} {H:Hp} {E:XK}
end
section
variable {X:Cx} {E:XK} {x:Str} {C fI:Addr} {fd:FuncData} {ps:List Str} {sp:Sp} {k:Nat} {np cpos pos:Pos} {e:Expr} {es:List Expr} {t:TA} {CX:CXT}
end
end L2
set_option Elab.async false
set_option linter.all false
set_option maxRecDepth 100000
namespace L2
open PySem PySem.Spec PyProof.Rows
def dRaiseI (EX:EXD) (C:Addr) (ns:List Str) (da:DA):DS:=fun _ δ S=>da δ S fun xs _=>∃ ds,datas xs = some ds∧ds.length = ns.length∧EX C (ns.zip ds)
end L2
set_option Elab.async false
set_option linter.all false
set_option maxRecDepth 100000
namespace L2
open PySem PySem.Spec PySem.Calls PyProof.Rows
end L2
set_option Elab.async false
set_option linter.all false
set_option maxRecDepth 100000
namespace L2
open PySem PySem.Spec PyProof.Rows
end L2
set_option Elab.async false
set_option linter.all false
set_option maxRecDepth 100000
namespace L2
open PySem PySem.Spec PyProof.Rows
abbrev Phi:=List Addr→List Addr→Hp→Prop
class Stb (Φ:Phi):Prop where
 st:∀ {h o o':List Addr} {H H':Hp},Φ h o H→Ex o H o' H'→Φ h o' H'
def REp (Φ:Phi) (t:TE) (dt:DE):Prop:=∀ (h o:List Addr) (H:Hp) (δ:XE) (σ:St) (S:Sto) (R:RX) (Q:VK),RepE h o H δ σ→RepS h o H S→dt δ S R→Cn h o H R Q→Φ h o H→t σ H Q
def RTp (Φ:Phi) (t:TT) (dt:DT):Prop:=∀ (h o:List Addr) (H:Hp) (δ:XE) (σ:St) (S:Sto) (R:Bool→Sto→Prop) (Q:Bool→Hp→Prop),RepE h o H δ σ→RepS h o H S→dt δ S R →
 (∀ o' H' S' b,Ex o H o' H'→RepS h o' H' S'→R b S'→Q b H')→Φ h o H→t σ H Q
def RIp (Φ:Phi) (w:TI) (di:DI):Prop:=∀ (h o:List Addr) (H:Hp) (δ:XE) (σ:St) (S:Sto) (R:List PyData→Sto→Prop) (Q:It→Hp→Prop),RepE h o H δ σ→RepS h o H S→di δ S R →
 (∀ o' H' S' ds J,Ex o H o' H'→RepS h o' H' S'→WalkX h o' H' J ds→R ds S'→Q J H')→Φ h o H→w σ H Q
section
variable {Φ:Phi} [Stb Φ] {ta tb te:TE} {da db de:DE} {tl:TA} {dl:DA} {tt tu:TT} {dt du:DT}
theorem ex_lift (a:RE te de):REp Φ te de:=fun h o H δ σ S R Q he hs q c _=>a h o H δ σ S R Q he hs q c
theorem tx_lift (a:RT tt dt):RTp Φ tt dt:=fun h o H δ σ S R Q he hs q c _=>a h o H δ σ S R Q he hs q c
theorem ix_lift {w:TI} {di:DI} (a:RI w di):RIp Φ w di:=fun h o H δ σ S R Q he hs q c _=>a h o H δ σ S R Q he hs q c
end
section
variable {E:XK} {EX:EXD} {ta tb te:TE} {da db de:DE} {tl:TA} {dl:DA} {tt tu:TT} {dt du:DT}
def dCallX (EX:EXD) (m:Nat) (q:PX) (da:DA):DE:=fun δ S R=>da δ S fun xs S1=>∃ ds,datas xs = some ds∧ds.length = m∧q (ds.map XV.d) [] (ret0 S1 R) EX
end
section
variable {Φ:Phi} [Stb Φ] {ta tb te:TE} {da db de:DE}
end
section
variable {X:Cx} {E:XK}
end
section
variable {X:Cx} {scope:Scope} {cl:List (Str × Addr)} {N:List Str} {caps:List (Option Nat)} {tg iter elt:Expr} {ifs:List Expr} {pos:Pos} {wi:TI} {g:TG} {tt:TT} {te:TE}
end
section
variable {X:Cx} {scope:Scope} {cl:List (Str × Addr)} {N:List Str} {caps:List (Option Nat)} {tg iter elt:Expr} {ifs:List Expr} {pos:Pos} {wi:TI} {g:TG} {tt:TT} {te:TE}
end
section
variable {X:Cx} {E:XK} {x:Str} {C:Addr} {ns:List Str} {qual:Str} {st:Stmt} {j:Nat} {np cpos pos:Pos} {e:Expr} {es:List Expr} {t:TA}
end
def scOk (N P:List Str) (sc:Scope):Bool:=decide (sc.kind = .function) && !sc.isCoroutine && !sc.isGenerator && decide N.Nodup && decide (N.take P.length = P) && P.all (fun x=>decide (sc.names.lookup x = some .local) || decide (sc.names.lookup x = some .cell)) && sc.names.all fun y=>decide (y.2 ≠ .free)
theorem fsc {N P:List Str} {sc:Scope} (h:scOk N P sc = true):FnScope N P sc:=by
 simp only [scOk,Bool.and_eq_true,decide_eq_true_eq,Bool.not_eq_true',List.all_eq_true,Bool.or_eq_true] at h
 obtain ⟨⟨⟨⟨⟨⟨h1,h2⟩,h3⟩,h4⟩,h5⟩,h6⟩,h7⟩:=h
 exact ⟨h1,h2,h3,h4,h5,h6,h7⟩
end L2
set_option Elab.async false
set_option linter.all false
set_option maxRecDepth 100000
namespace L2
open PySem PySem.Spec PyProof.Rows
section
variable {κ α:Type} [DecidableEq κ]
def lkA (m:List (κ × α)) (k:κ):Option α:=(m.find? fun p=>decide (p.1 = k)).map (·.2)
def ptA (m:List (κ × α)) (k:κ) (v:α):List (κ × α):=if (m.any fun p=>decide (p.1 = k)) = true then m.map (fun p=>if p.1 = k then (p.1,v) else p) else m ++ [(k,v)]
def HasM (H:Hp):List (κ × PyData)→List (κ × V)→Prop
 | [],m=>m = []
 | p :: r,m=>∃ v m',m = (p.1,v) :: m'∧Has H p.2 v∧HasM H r m'
theorem HasM.mono {H H':Hp} (s:Same H H'):∀ {m:List (κ × PyData)} {m':List (κ × V)},HasM H m m'→HasM H' m m'
 | [],_,q=>q
 | p :: r,_,⟨v,t,e,q,l⟩=>⟨v,t,e,Has.mono s _ _ q,HasM.mono s l⟩
theorem HasM.length {H:Hp}:∀ {m:List (κ × PyData)} {m':List (κ × V)},HasM H m m'→m'.length = m.length
 | [],_,q=>by rw [show _ = [] from q]; rfl
 | p :: r,_,⟨v,t,e,q,l⟩=>by rw [e,List.length_cons,List.length_cons,HasM.length l]
theorem HasM.val {H:Hp} (k:κ):∀ {m:List (κ × PyData)} {m':List (κ × V)},HasM H m m'→(lkA m k = none∧valV m' k = none)∨∃ d v,lkA m k = some d∧valV m' k = some v∧Has H d v
 | [],m',q=>by rw [show m' = [] from q]; exact .inl ⟨rfl,rfl⟩
 | p :: r,m',⟨v,t,e,q,l⟩=>by
  subst e
  by_cases hk:p.1 = k
  ·exact .inr ⟨p.2,v,by simp [lkA,hk],valV_pos hk,q⟩
  ·have e1:lkA (p :: r) k = lkA r k:=by simp [lkA,hk]
   rw [e1,valV_neg hk]
   exact HasM.val k l
theorem HasM.any {H:Hp} (k:κ):∀ {m:List (κ × PyData)} {m':List (κ × V)},HasM H m m'→(m'.any fun p=>decide (p.1 = k)) = m.any fun p=>decide (p.1 = k)
 | [],m',q=>by rw [show m' = [] from q]; rfl
 | p :: r,m',⟨v,t,e,q,l⟩=>by
  subst e
  rw [List.any_cons,List.any_cons,HasM.any k l]
theorem HasM.sets {H:Hp} {k:κ} {d:PyData} {v:V} (hv:Has H d v):∀ {m:List (κ × PyData)} {m':List (κ × V)},HasM H m m'→HasM H (m.map fun p=>if p.1 = k then (p.1,d) else p) (m'.map fun p=>if p.1 = k then (p.1,v) else p)
 | [],m',q=>by rw [show m' = [] from q]; rfl
 | p :: r,m',⟨u,t,e,q,l⟩=>by
  subst e
  rw [List.map_cons,List.map_cons]
  by_cases hk:p.1 = k
  ·exact ⟨v,_,by simp [hk],by simpa [hk] using hv,HasM.sets hv l⟩
  ·exact ⟨u,_,by simp [hk],by simpa [hk] using q,HasM.sets hv l⟩
theorem HasM.snoc {H:Hp} {k:κ} {d:PyData} {v:V} (hv:Has H d v):∀ {m:List (κ × PyData)} {m':List (κ × V)},HasM H m m'→HasM H (m ++ [(k,d)]) (m' ++ [(k,v)])
 | [],m',q=>by rw [show m' = [] from q]; exact ⟨v,[],rfl,hv,rfl⟩
 | p :: r,m',⟨u,t,e,q,l⟩=>by subst e; exact ⟨u,_,rfl,q,HasM.snoc hv l⟩
theorem HasM.put {H:Hp} {k:κ} {d:PyData} {v:V} {m:List (κ × PyData)} {m':List (κ × V)} (l:HasM H m m') (hv:Has H d v):HasM H (ptA m k d) (putK m' k v):=by
 unfold ptA putK
 rw [l.any k]
 split
 ·exact l.sets hv
 ·exact l.snoc hv
end
inductive DD where
 | k (m:List (Key × PyData))
 | t (m:List (List Key × PyData))
def DD.pairs:DD→List (PyData × PyData)
 | .k m=>m.map fun p=>(kD p.1,p.2)
 | .t m=>m.map fun p=>(.tuple (p.1.map kD),p.2)
def keyK:PyData→Option Key
 | .int i=>some (.inl i)
 | .str x=>some (.inr x)
 | _=>none
def DAt (G H:Hp) (a:Addr):DD→Prop
 | .k m=>∃ m',H a = some (.dK m')∧HasM G m m'
 | .t m=>∃ m',H a = some (.dT m')∧HasM G m m'
theorem keyK_has {H:Hp} {y:PyData} {v:V} {k:Key} (e:keyK y = some k) (q:Has H y v):v = kV k:=by
 cases y with
 | int i=>cases e; exact has_int.mp q
 | str x=>cases e; exact has_str.mp q
 | _=>cases e
theorem DAt.mono {G G' H H':Hp} {a:Addr} {D:DD} (s:Same G G') (e:∀ u,H a = some u→H' a = some u) (q:DAt G H a D):DAt G' H' a D:=by
 cases D with
 | k m=>obtain ⟨m',e1,l⟩:=q; exact ⟨m',e _ e1,l.mono s⟩
 | t m=>obtain ⟨m',e1,l⟩:=q; exact ⟨m',e _ e1,l.mono s⟩
theorem DAt.mo {G H:Hp} {a:Addr} {D:DD} (q:DAt G H a D):∃ u:MO,H a = some u.ho:=by
 cases D with
 | k m=>obtain ⟨m',e1,l⟩:=q; exact ⟨.k m',e1⟩
 | t m=>obtain ⟨m',e1,l⟩:=q; exact ⟨.t m',e1⟩
theorem kD_inj {a b:Key} (e:kD a = kD b):a = b:=by
 cases a <;> cases b <;> cases e <;> rfl
theorem hasV_of {H:Hp}:∀ {m:List (Key × PyData)} {m':List (Key × V)},HasM H m m'→HasV H (m.map fun p=>(kD p.1,p.2)) (m'.map (·.2))∧m'.map (fun p=>kD p.1) = m.map fun p=>kD p.1
 | [],m',q=>by rw [show m' = [] from q]; exact ⟨hasV_nil.mpr rfl,rfl⟩
 | p :: r,m',⟨v,t,e,q,l⟩=>by
  subst e
  obtain ⟨z1,z2⟩:=hasV_of l
  exact ⟨hasV_cons.mpr ⟨v,_,rfl,q,z1⟩,by rw [List.map_cons,List.map_cons,z2]⟩
theorem hasM_of {H:Hp}:∀ {m:List (Key × PyData)} {m':List (Key × V)},HasV H (m.map fun p=>(kD p.1,p.2)) (m'.map (·.2))→m.map (fun p=>kD p.1) = m'.map (fun p=>kD p.1)→HasM H m m'
 | [],[],_,_=>rfl
 | [],_ :: _,_,e=>by simp at e
 | _ :: _,[],_,e=>by simp at e
 | p :: r,q :: t,h,e=>by
  rw [List.map_cons,List.map_cons] at h
  obtain ⟨v,s,e1,e2,e3⟩:=hasV_cons.mp h
  rw [List.cons.injEq] at e1
  rw [List.map_cons,List.map_cons,List.cons.injEq] at e
  have z:=kD_inj e.1
  obtain ⟨q1,q2⟩:=q
  refine ⟨q2,t,by rw [z],?_,hasM_of (by rw [e1.2]; exact e3) e.2⟩
  have z1:q2 = v:=e1.1
  rw [z1]
  exact e2
theorem has_dk {H:Hp} {m:List (Key × PyData)} {v:V}:Has H (.dict (DD.pairs (.k m))) v ↔ ∃ a ob m',v = .ref a∧H a = some (.frz ob (.dK m'))∧HasM H m m':=by
 rw [has_dict]
 constructor
 ·rintro ⟨a,vs,rfl,⟨ob,m',e,e1,e2⟩,l⟩
  subst e2
  refine ⟨a,ob,m',rfl,e,hasM_of l ?_⟩
  rw [← e1]
  simp [DD.pairs]
 ·rintro ⟨a,ob,m',rfl,e,l⟩
  obtain ⟨z1,z2⟩:=hasV_of l
  exact ⟨a,_,rfl,⟨ob,m',e,by rw [z2]; simp [DD.pairs],rfl⟩,z1⟩
abbrev DM:=List (Addr × DD)
def ad (M:DM):List Addr:=M.map (·.1)
structure RepM (h o:List Addr) (H:Hp) (M:DM):Prop where
 nd:(ad M).Nodup
 nh:∀ a ∈ ad M,a ∉ h∧a ∉ o
 ct:∀ a D,(a,D) ∈ M→DAt (vx (h ++ ad M) o H) H a D
section
variable {h o o':List Addr} {H H':Hp} {M:DM} {S:Sto}
theorem RepM.at (r:RepM h o H M) {a:Addr} (m:a ∈ ad M):∃ D,(a,D) ∈ M∧DAt (vx (h ++ ad M) o H) H a D:=by
 obtain ⟨p,mp,e⟩:=List.mem_map.mp m
 obtain ⟨b,D⟩:=p
 cases e
 exact ⟨D,mp,r.ct _ D mp⟩
theorem RepM.mono (r:RepM h o H M) (e:Ex o H o' H'):RepM h o' H' M:=by
 have k1:∀ a ∈ ad M,∀ u,H a = some u→a ∉ o'∧H' a = some u:=fun a m u z=>e.kp a u (r.nh a m).2 z
 refine ⟨r.nd,fun a m=>⟨(r.nh a m).1,?_⟩,fun a D m=>?_⟩
 ·obtain ⟨D,_,q⟩:=r.at m
  obtain ⟨u,z⟩:=q.mo
  exact (k1 a m _ z).1
 ·exact (r.ct a D m).mono e.vx fun u z=>(k1 a (List.mem_map.mpr ⟨_,m,rfl⟩) u z).2
theorem RepM.nil:RepM h o H []:=⟨List.nodup_nil,fun a m=>(by cases m),fun a D m=>(by cases m)⟩
def setM (M:DM) (a:Addr) (D:DD):DM:=M.map fun p=>if p.1 = a then (a,D) else p
theorem ad_set {a:Addr} {D:DD}:∀ {M:DM},ad (setM M a D) = ad M
 | []=>rfl
 | p :: r=>by
  have z:=ad_set (a:=a) (D:=D) (M:=r)
  unfold ad setM at z ⊢
  rw [List.map_cons,List.map_cons,List.map_cons,z]
  by_cases e:p.1 = a <;> simp [e]
theorem vx_hidden {a:Addr} {u:HO} (m:a ∈ h):Same (vx h o H) (vx h o (upd H a u)):=fun b w e=>by
 obtain ⟨z1,z2,z3⟩:=vx_iff.mp e
 exact vx_iff.mpr ⟨z1,z2,by rw [upd_ne (fun z=>z1 (by rw [z]; exact m))]; exact z3⟩
theorem HasX.view (s:Same (vx h o H) (vx h o H')):∀ {x:XV} {v:V},HasX h o H x v→HasX h o H' x v
 | .d d,v,q=>Has.mono s d v q
 | .l k,v,q=>q
 | .o w,v,q=>q
 | .x C fs,v,q=>HasE.mono s q
theorem RepE.view {δ:XE} {σ:St} (s:Same (vx h o H) (vx h o H')) (r:RepE h o H δ σ):RepE h o H' δ σ:=⟨r.len,fun i x e=>let ⟨v,e1,e2⟩:=r.get i x e; ⟨v,e1,e2.view s⟩⟩
theorem RepS.hidden {a:Addr} {u:MO} (r:RepS h o H S) (m:a ∈ h):RepS h o (L2.upd H a u.ho) S where
 len:=r.len
 nd:=r.nd
 dis:=r.dis
 hal:=fun b mb=>by
  by_cases e:b = a
  ·subst e; exact ⟨u,upd_same⟩
  ·obtain ⟨w,z⟩:=r.hal b mb
   exact ⟨w,by rw [upd_ne e]; exact z⟩
 cont:=fun k b ds e1 e2=>by
  obtain ⟨vs,e3,l⟩:=r.cont k b ds e1 e2
  have ne:b ≠ a:=fun z=>r.dis b (List.mem_of_getElem? e1) (z ▸ m)
  exact ⟨vs,by rw [upd_ne ne]; exact e3,HasL.mono (vx_hidden m) _ _ l⟩
theorem RepM.put {a:Addr} {D D':DD} {u:MO} (r:RepM h o H M) (m:(a,D) ∈ M) (q:∀ H',H' a = some u.ho→DAt (vx (h ++ ad M) o H) H' a D'):RepM h o (L2.upd H a u.ho) (setM M a D'):=by
 have ma:a ∈ ad M:=List.mem_map.mpr ⟨_,m,rfl⟩
 refine ⟨by rw [ad_set]; exact r.nd,by rw [ad_set]; exact r.nh,fun b D2 mb=>?_⟩
 rw [ad_set]
 have sv:Same (vx (h ++ ad M) o H) (vx (h ++ ad M) o (L2.upd H a u.ho)):=vx_hidden (List.mem_append_right _ ma)
 obtain ⟨p,mp,ep⟩:=List.mem_map.mp mb
 by_cases e:p.1 = a
 ·rw [if_pos e] at ep
  cases ep
  exact (q _ upd_same).mono sv fun _ z=>z
 ·rw [if_neg e] at ep
  subst ep
  exact (r.ct _ _ mp).mono sv fun w z=>by rw [upd_ne e]; exact z
theorem RepS.less {l:List Addr} (r:RepS (h ++ l) o H S):RepS h o H S where
 len:=r.len
 nd:=r.nd
 dis:=fun a ma z=>r.dis a ma (List.mem_append_left _ z)
 hal:=fun b mb=>r.hal b (List.mem_append_left _ mb)
 cont:=fun k b ds e1 e2=>by
  obtain ⟨vs,e3,q⟩:=r.cont k b ds e1 e2
  exact ⟨vs,e3,HasL.mono (fun c u z=>let ⟨z1,z2,z3⟩:=vx_iff.mp z; vx_iff.mpr ⟨fun mm=>z1 (List.mem_append_left _ mm),z2,z3⟩) _ _ q⟩
theorem vx_less {l:List Addr}:Same (vx (h ++ l) o H) (vx h o H):=fun c u z=>let ⟨z1,z2,z3⟩:=vx_iff.mp z; vx_iff.mpr ⟨fun mm=>z1 (List.mem_append_left _ mm),z2,z3⟩
theorem HasX.less {l:List Addr}:∀ {x:XV} {v:V},HasX (h ++ l) o H x v→HasX h o H x v
 | .d d,v,q=>Has.mono vx_less d v q
 | .l k,v,q=>q
 | .o w,v,q=>q
 | .x C fs,v,q=>HasE.mono vx_less q
end
end L2
set_option Elab.async false
set_option linter.all false
set_option maxRecDepth 100000
namespace L2
open PySem PySem.Spec PyProof.Rows
structure DEndsM where
 nx:XE→Sto→DM→Prop
 rt:XV→Sto→DM→Prop
 bk:XE→Sto→DM→Prop:=fun _ _ _=>False
 ct:XE→Sto→DM→Prop:=fun _ _ _=>False
abbrev DSm:=DEndsM→XE→Sto→DM→Prop
def Fr (H:Hp) (M:DM):Prop:=∀ a ∈ ad M,H a = none
def NxM (h o:List Addr) (H:Hp) (A:List Addr) (N:XE→Sto→DM→Prop) (Y:St→Hp→Prop):Prop:=∀ o' H' δ' S' M' σ',Ex o H o' H'→ad M' = A→RepE (h ++ ad M') o' H' δ' σ'→RepS (h ++ ad M') o' H' S'→RepM h o' H' M'→N δ' S' M'→Y σ' H'
structure EOkM (h o:List Addr) (H:Hp) (A:List Addr) (E:DEndsM) (D:Ends):Prop where
 nx:NxM h o H A E.nx D.nx
 rt:∀ o' H' S' M' x v,Ex o H o' H'→ad M' = A→RepS (h ++ ad M') o' H' S'→RepM h o' H' M'→HasX (h ++ ad M') o' H' x v→E.rt x S' M'→D.rt v H'
 bk:NxM h o H A E.bk D.bk
 ct:NxM h o H A E.ct D.ct
def RSm (E:XK) (EX:EXD) (t:TS) (dt:DSm):Prop:=∀ (h o0:List Addr) (H0:Hp) (o:List Addr) (H:Hp) (δ:XE) (σ:St) (S:Sto) (M:DM) (En:DEndsM) (D:Ends),Ex o0 H0 o H→Fr H0 M→RepE (h ++ ad M) o H δ σ→RepS (h ++ ad M) o H S→RepM h o H M→dt En δ S M →
 EOkM h o0 H0 (ad M) En D→CnX h o0 H0 EX E→t D σ H
theorem CnX.inn {E:XK} {EX:EXD} {h o0 o l:List Addr} {H0 H:Hp} (x:CnX h o0 H0 EX E) (e0:Ex o0 H0 o H):CnX (h ++ l) o H EX E:=fun o' H' S' C a fs e s' hE q=>x o' H' S' C a fs (e0.trans e) s'.less (HasE.mono vx_less hE) q
def dmLift (dt:DS):DSm:=fun En δ S M=>dt { nx:=fun δ' S'=>En.nx δ' S' M,rt:=fun x S'=>En.rt x S' M,bk:=fun δ' S'=>En.bk δ' S' M,ct:=fun δ' S'=>En.ct δ' S' M } δ S
def dmIf (c:DM→DT) (t u:DSm):DSm:=fun En δ S M=>c M δ S fun b S1=>if b = true then t En δ S1 M else u En δ S1 M
def dmLoop (g:DG) (b:DSm):List PyData→DSm
 | [],E,δ,S,M=>E.nx δ S M
 | d :: ds,E,δ,S,M=>g (.d d) δ S fun δ1 S1=>b { nx:=fun δ2 S2 M2=>dmLoop g b ds E δ2 S2 M2,ct:=fun δ2 S2 M2=>dmLoop g b ds E δ2 S2 M2,bk:=E.nx,rt:=E.rt } δ1 S1 M
def dmFor (i:DM→DI) (g:DG) (b:DSm):DSm:=fun En δ S M=>i M δ S fun ds S1=>dmLoop g b ds En δ S1 M
def PhM (M:DM):Phi:=fun h' o H=>∃ h,h' = h ++ ad M∧RepM h o H M
instance {M:DM}:Stb (PhM M):=⟨fun ⟨h,e,r⟩ x=>⟨h,e,r.mono x⟩⟩
section
variable {E:XK} {EX:EXD} {t u:TS} {dt du:DSm}
theorem rm_liftx {ds:DS} (ht:RSx E EX t ds):RSm E EX t (dmLift ds):=fun h o0 H0 o H δ σ S M En D e0 fr he hs rm q c x =>
 ht (h ++ ad M) o H δ σ S _ D he hs q ⟨fun o' H' δ' S' σ' e he' hs' n=>c.nx o' H' δ' S' M σ' (e0.trans e) rfl he' hs' (rm.mono e) n,fun o' H' S' y v e hs' hy n=>c.rt o' H' S' M y v (e0.trans e) rfl hs' (rm.mono e) hy n,
  fun o' H' δ' S' σ' e he' hs' n=>c.bk o' H' δ' S' M σ' (e0.trans e) rfl he' hs' (rm.mono e) n,fun o' H' δ' S' σ' e he' hs' n=>c.ct o' H' δ' S' M σ' (e0.trans e) rfl he' hs' (rm.mono e) n⟩ (x.inn e0)
theorem rm_lift {ds:DS} (ht:RS t ds):RSm E EX t (dmLift ds):=rm_liftx (rx_lift ht)
theorem rm_if {tc:TT} {dc:DM→DT} (hc:∀ M,RTp (PhM M) tc (dc M)) (ht:RSm E EX t dt) (hu:RSm E EX u du):RSm E EX (tIfS tc t u) (dmIf dc dt du):=fun h o0 H0 o H δ σ S M En D e0 fr he hs rm q c x =>
 hc M (h ++ ad M) o H δ σ S _ _ he hs q (fun o1 H1 S1 b e1 s1 d1=>by
  cases b with
  | true=>exact iteT (ht h o0 H0 o1 H1 δ σ S1 M En D (e0.trans e1) fr (he.mono e1) s1 (rm.mono e1) (by simpa using d1) c x)
  | false=>exact iteF (hu h o0 H0 o1 H1 δ σ S1 M En D (e0.trans e1) fr (he.mono e1) s1 (rm.mono e1) (by simpa using d1) c x)) ⟨h,rfl,rm⟩
theorem rm_for {wi:TI} {g:TG} {tb:TS} {di:DM→DI} {dg:DG} {db:DSm} (hi:∀ M,RIp (PhM M) wi (di M)) (hg:RG g dg) (hb:RSm E EX tb db):RSm E EX (tFor wi g tb) (dmFor di dg db):=fun h o0 H0 o H δ σ S M En D e0 fr he hs rm q c x =>
 hi M (h ++ ad M) o H δ σ S _ _ he hs q (fun o1 H1 S1 ds J e1 s1 wk d1=>by
  refine ⟨fun i m σ2 H2=>m = ds.length - i∧i ≤ ds.length∧∃ o2 δ2 S2 M2,Ex o0 H0 o2 H2∧ExH (h ++ ad M) o1 H1 o2 H2∧ad M2 = ad M∧RepE (h ++ ad M) o2 H2 δ2 σ2∧RepS (h ++ ad M) o2 H2 S2∧RepM h o2 H2 M2∧dmLoop dg db (ds.drop i) En δ2 S2 M2,
   ⟨ds.length,by simp,Nat.zero_le _,o1,δ,S1,M,e0.trans e1,ExH.refl,rfl,he.mono e1,s1,rm.mono e1,d1⟩,?_⟩
  rintro i m σ2 H2 ⟨rfl,hi,o2,δ2,S2,M2,e2,x2,ea,he2,hs2,rm2,d2⟩
  by_cases hlt:i < ds.length
  ·have ed:ds[i]? = some ds[i]:=List.getElem?_eq_getElem hlt
   rw [List.drop_eq_getElem_cons hlt] at d2
   refine .inr ⟨wk.go i _ o2 H2 x2 ed,fun σ3 H3=>∃ o3 δ3 S3 M3,Ex o0 H0 o3 H3∧ExH (h ++ ad M) o1 H1 o3 H3∧ad M3 = ad M∧RepE (h ++ ad M) o3 H3 δ3 σ3∧RepS (h ++ ad M) o3 H3 S3∧RepM h o3 H3 M3∧dmLoop dg db (ds.drop (i + 1)) En δ3 S3 M3,fun σ3 H3 n=>⟨ds.length - (i + 1),by omega,rfl,hlt,n⟩,fun y H3 yy=>?_⟩
   obtain ⟨s3,hx⟩:=wk.yld i _ o2 H2 y H3 S2 x2 hs2 ed yy
   have e23:Ex o2 H2 o2 H3:=Ex.of_same s3
   refine hg (h ++ ad M) o2 H3 δ2 σ2 S2 (.d ds[i]) y _ _ (he2.mono e23) (hs2.same s3) hx d2 fun o4 H4 δ4 S4 σ4 e4 he4 hs4 d4=>?_
   have e24:Ex o2 H2 o4 H4:=e23.trans e4
   have nM:∀ b u,H0 b = some u→b ∉ ad M:=fun b u z mb=>by
    rw [fr b mb] at z
    cases z
   have e04:Ex o0 H0 o4 (fun b=>if b ∈ ad M then none else H4 b):=⟨(e2.trans e24).pre,fun b u nb z=>by
    obtain ⟨z1,z2⟩:=(e2.trans e24).kp b u nb z
    exact ⟨z1,by show (if b ∈ ad M then none else H4 b) = some u; rw [if_neg (nM b u z)]; exact z2⟩⟩
   have exh:∀ {o5 H5},Ex o4 (fun b=>if b ∈ ad M then none else H4 b) o5 H5→ExH (h ++ ad M) o4 H4 o5 H5:=fun e5=>⟨e5.pre,fun b u n1 n2 z=>e5.kp b u n2 (by show (if b ∈ ad M then none else H4 b) = some u; rw [if_neg (fun mb=>n1 (List.mem_append_right _ mb))]; exact z)⟩
   have again:∀ o5 H5 δ5 S5 M5 σ5,Ex o4 (fun b=>if b ∈ ad M then none else H4 b) o5 H5→ad M5 = ad M2→RepE (h ++ ad M5) o5 H5 δ5 σ5→RepS (h ++ ad M5) o5 H5 S5→RepM h o5 H5 M5→dmLoop dg db (ds.drop (i + 1)) En δ5 S5 M5 →
     ∃ o3 δ3 S3 M3,Ex o0 H0 o3 H5∧ExH (h ++ ad M) o1 H1 o3 H5∧ad M3 = ad M∧RepE (h ++ ad M) o3 H5 δ3 σ5∧RepS (h ++ ad M) o3 H5 S3∧RepM h o3 H5 M3∧dmLoop dg db (ds.drop (i + 1)) En δ3 S3 M3:=fun o5 H5 δ5 S5 M5 σ5 e5 a5 he5 hs5 rm5 d5 =>
    ⟨o5,δ5,S5,M5,e04.trans e5,(x2.trans e24.hid).trans (exh e5),a5.trans ea,by rw [← ea,← a5]; exact he5,by rw [← ea,← a5]; exact hs5,rm5,d5⟩
   refine hb h o4 (fun b=>if b ∈ ad M then none else H4 b) o4 H4 δ4 σ4 S4 M2 _ _ ⟨⟨[],by simp⟩,fun b u nb eb=>?_⟩ (fun a ma=>by show (if a ∈ ad M then none else H4 a) = none; rw [if_pos (by rw [← ea]; exact ma)]) (by rw [ea]; exact he4) (by rw [ea]; exact hs4) (rm2.mono e24) d4
    ⟨again,fun o5 H5 S5 M5 y5 v5 e5 a5 hs5 rm5 hx5 q5=>c.rt o5 H5 S5 M5 y5 v5 (e04.trans e5) (a5.trans ea) hs5 rm5 hx5 q5,fun o5 H5 δ5 S5 M5 σ5 e5 a5 he5 hs5 rm5 q5=>c.nx o5 H5 δ5 S5 M5 σ5 (e04.trans e5) (a5.trans ea) he5 hs5 rm5 q5,again⟩ (x.pre e04)
   refine ⟨nb,?_⟩
   by_cases mb:b ∈ ad M
   ·simp [mb] at eb
   ·simpa [mb] using eb
  ·have ei:i = ds.length:=by omega
   subst ei
   rw [List.drop_length] at d2
   exact .inl ⟨wk.stop _ o2 H2 x2 (Nat.le_refl _),c.nx o2 H2 δ2 S2 M2 σ2 e2 ea (by rw [ea]; exact he2) (by rw [ea]; exact hs2) rm2 d2⟩) ⟨h,rfl,rm⟩
end
end L2
set_option Elab.async false
set_option linter.all false
set_option maxRecDepth 100000
namespace L2
open PySem PySem.Spec PyProof.Rows
section
variable {h h' o:List Addr} {H H':Hp}
theorem HasX.to (s:Same (vx h o H) (vx h' o H')):∀ {x:XV} {v:V},HasX h o H x v→HasX h' o H' x v
 | .d d,v,q=>Has.mono s d v q
 | .l k,v,q=>q
 | .o w,v,q=>q
 | .x C fs,v,q=>HasE.mono s q
theorem RepE.to {δ:XE} {σ:St} (s:Same (vx h o H) (vx h' o H')) (r:RepE h o H δ σ):RepE h' o H' δ σ:=⟨r.len,fun i x e=>let ⟨v,e1,e2⟩:=r.get i x e; ⟨v,e1,e2.to s⟩⟩
end
def frzX (a:Addr) (m:List (Key × PyData)):XV→XV
 | .o (.ref b)=>if b = a then .d (.dict (DD.pairs (.k m))) else .o (.ref b)
 | x=>x
theorem hx_frz {h h' o:List Addr} {H H':Hp} {a:Addr} {m:List (Key × PyData)} {m':List (Key × V)} {ob:Obj} (s:Same (vx h o H) (vx h' o H')) (e:vx h' o H' a = some (.frz ob (.dK m'))) (l:HasM (vx h o H) m m'):∀ {x:XV} {v:V},HasX h o H x v→HasX h' o H' (frzX a m x) v
 | .d d,v,z=>Has.mono s d v z
 | .l k,v,z=>z
 | .x C fs,v,z=>HasE.mono s z
 | .o w,v,z=>by
  cases w with
  | ref b =>
   unfold frzX
   dsimp only
   split
   ·rename_i eb
    subst eb
    rw [show v = .ref b from z]
    exact has_dk.mpr ⟨b,ob,m',rfl,e,l.mono s⟩
   ·exact z
  | _=>exact z
theorem repE_frz {h h' o:List Addr} {H H':Hp} {a:Addr} {m:List (Key × PyData)} {m':List (Key × V)} {ob:Obj} {δ:XE} {σ:St} (s:Same (vx h o H) (vx h' o H')) (e:vx h' o H' a = some (.frz ob (.dK m'))) (l:HasM (vx h o H) m m') (r:RepE h o H δ σ):RepE h' o H' (δ.map (Option.map (frzX a m))) σ:=by
 refine ⟨by rw [List.length_map]; exact r.len,fun i x ex=>?_⟩
 rw [List.getElem?_map] at ex
 cases hd:δ[i]? with
 | none=>rw [hd] at ex; cases ex
 | some y =>
  rw [hd] at ex
  cases y with
  | none=>cases ex
  | some y =>
   cases ex
   obtain ⟨v,e1,e2⟩:=r.get i y hd
   exact ⟨v,e1,hx_frz s e l e2⟩
theorem ad_snoc {M:DM} {a:Addr} {D:DD}:ad (M ++ [(a,D)]) = ad M ++ [a]:=by simp [ad]
theorem RepM.init {h o:List Addr} {H:Hp} {M:DM} {a:Addr} {D:DD} (r:RepM h o H (M ++ [(a,D)])):RepM h o H M:=by
 have nd:=r.nd
 rw [ad_snoc] at nd
 refine ⟨(List.nodup_append.mp nd).1,fun b m=>r.nh b (by rw [ad_snoc]; exact List.mem_append_left _ m),fun b D2 m=>?_⟩
 have z:=r.ct b D2 (List.mem_append_left _ m)
 rw [ad_snoc,← List.append_assoc] at z
 exact z.mono vx_less fun _ z=>z
def dmNew (f:Bool) (i:Nat) (D0:DD) (b:DSm):DSm:=fun En δ S M=>∀ a,a ∉ ad M→b { nx:=(fun δ' S' M'=>if f = true then (∃ M1 m,M' = M1 ++ [(a,.k m)]∧δ'[i]? = some (some (.o (.ref a)))∧En.nx (δ'.map (Option.map (frzX a m))) S' M1) else (∃ M1 D,M' = M1 ++ [(a,D)]∧En.nx δ' S' M1)),rt:=(fun x S' M'=>∃ M1 D,M' = M1 ++ [(a,D)]∧En.rt x S' M1),bk:=(fun δ' S' M'=>∃ M1 D,M' = M1 ++ [(a,D)]∧En.bk δ' S' M1),ct:=(fun δ' S' M'=>∃ M1 D,M' = M1 ++ [(a,D)]∧En.ct δ' S' M1) } (δ.set i (some (.o (.ref a)))) S (M ++ [(a,D0)])
section
variable {E:XK} {EX:EXD} {tb:TS} {db:DSm} {i:Nat}
theorem new_core {f:Bool} {u:MO} {D0:DD} (hD:∀ (G H:Hp) a,H a = some u.ho→DAt G H a D0) (hb:RSm E EX tb db) {h o0:List Addr} {H0:Hp} {o:List Addr} {H:Hp} {δ:XE} {σ:St} {S:Sto} {M:DM} {En:DEndsM} {D:Ends} (e0:Ex o0 H0 o H) (fr:Fr H0 M) (he:RepE (h ++ ad M) o H δ σ) (hs:RepS (h ++ ad M) o H S) (rm:RepM h o H M)
  (q:dmNew f i D0 db En δ S M) (c:EOkM h o0 H0 (ad M) En D) (x:CnX h o0 H0 EX E) (p:Addr) (hp:H p = none):(if f = true then tFzS i tb else tb) D (σ.set i (some (.ref p))) (upd H p u.ho):=by
 have nM:p ∉ ad M:=fun m=>by
  obtain ⟨D2,_,z⟩:=rm.at m
  obtain ⟨w,ew⟩:=z.mo
  rw [hp] at ew
  cases ew
 have f1:=hs.fresh hp
 have nh:p ∉ h:=fun m=>f1.1 (List.mem_append_left _ m)
 have sH:Same H (upd H p u.ho):=Same.laid hp
 have e1:Ex o0 H0 o (upd H p u.ho):=e0.trans (Ex.of_same sH)
 have H0p:H0 p = none:=by
  cases z:H0 p with
  | none=>rfl
  | some w =>
   by_cases m:p ∈ o0
   ·obtain ⟨r,er⟩:=e0.pre
    exact absurd (show p ∈ o by rw [er]; exact List.mem_append_left _ m) f1.2
   ·have:=(e0.kp p w m z).2
    rw [hp] at this
    cases this
 have sv:Same (vx (h ++ ad M) o H) (vx (h ++ (ad M ++ [p])) o (upd H p u.ho)):=fun b w z=>by
  obtain ⟨z1,z2,z3⟩:=vx_iff.mp z
  have ne:b ≠ p:=ne_of_none z3 hp
  refine vx_iff.mpr ⟨fun m=>?_,z2,by rw [upd_ne ne]; exact z3⟩
  rw [← List.append_assoc] at m
  rcases List.mem_append.mp m with m | m
  ·exact z1 m
  ·exact ne (List.mem_singleton.mp m)
 have sM:RepS (h ++ ad (M ++ [(p,D0)])) o (upd H p u.ho) S:=by
  rw [ad_snoc]
  refine ⟨hs.len,hs.nd,fun a ma z=>?_,fun b mb=>?_,fun k b ds e1 e2=>?_⟩
  ·rw [← List.append_assoc] at z
   rcases List.mem_append.mp z with z | z
   ·exact hs.dis a ma z
   ·rw [List.mem_singleton.mp z] at ma
    exact f1.2 ma
  ·rw [← List.append_assoc] at mb
   rcases List.mem_append.mp mb with m | m
   ·obtain ⟨w,ew⟩:=hs.hal b m
    exact ⟨w,sH _ _ ew⟩
   ·rw [List.mem_singleton.mp m]
    exact ⟨u,upd_same⟩
  ·obtain ⟨vs,e3,l⟩:=hs.cont k b ds e1 e2
   exact ⟨vs,sH _ _ e3,HasL.mono sv _ _ l⟩
 have mM:RepM h o (upd H p u.ho) (M ++ [(p,D0)]):=by
  refine ⟨by rw [ad_snoc]; exact nodup_snoc rm.nd nM,fun a ma=>?_,fun a D2 m=>?_⟩
  ·rw [ad_snoc] at ma
   rcases List.mem_append.mp ma with m | m
   ·exact rm.nh a m
   ·rw [List.mem_singleton.mp m]
    exact ⟨nh,f1.2⟩
  ·rw [ad_snoc]
   rcases List.mem_append.mp m with m | m
   ·exact (rm.ct a D2 m).mono sv fun w z=>sH _ _ z
   ·have:=List.mem_singleton.mp m
    cases this
    exact hD _ _ _ upd_same
 have hE:RepE (h ++ ad (M ++ [(p,D0)])) o (upd H p u.ho) (δ.set i (some (.o (.ref p)))) (σ.set i (some (.ref p))):=by
  rw [ad_snoc]
  exact (he.to sv).set (show HasX _ _ _ (.o (.ref p)) (.ref p) from rfl)
 have fr1:Fr H0 (M ++ [(p,D0)]):=fun a ma=>by
  rw [ad_snoc] at ma
  rcases List.mem_append.mp ma with m | m
  ·exact fr a m
  ·rw [List.mem_singleton.mp m]; exact H0p
 have back:∀ {N:XE→Sto→DM→Prop} {Y:St→Hp→Prop},NxM h o0 H0 (ad M) N Y→NxM h o0 H0 (ad (M ++ [(p,D0)])) (fun δ' S' M'=>∃ M1 D,M' = M1 ++ [(p,D)]∧N δ' S' M1) Y:=fun {N Y} nx o' H' δ' S' M' σ' ex ea hE' hS' hM' ⟨M1,D2,eM,n⟩=>by
  subst eM
  rw [ad_snoc,ad_snoc] at ea
  rw [ad_snoc,← List.append_assoc] at hE' hS'
  exact nx o' H' _ S' M1 σ' ex (List.append_inj_left' ea rfl) (hE'.to vx_less) hS'.less hM'.init n
 have ret:∀ o' H' S' M' y v,Ex o0 H0 o' H'→ad M' = ad (M ++ [(p,D0)])→RepS (h ++ ad M') o' H' S'→RepM h o' H' M'→HasX (h ++ ad M') o' H' y v→(∃ M1 D,M' = M1 ++ [(p,D)]∧En.rt y S' M1)→D.rt v H':=by
  rintro o' H' S' M' y v ex ea hS' hM' hx' ⟨M1,D2,eM,n⟩
  subst eM
  rw [ad_snoc,ad_snoc] at ea
  rw [ad_snoc,← List.append_assoc] at hx' hS'
  exact c.rt o' H' S' M1 _ v ex (List.append_inj_left' ea rfl) hS'.less hM'.init hx'.less n
 have qq:=q p nM
 cases f with
 | false =>
  refine hb h o0 H0 o _ _ _ S (M ++ [(p,D0)]) _ D e1 fr1 hE sM mM qq ⟨?_,ret,back c.bk,back c.ct⟩ x
  exact fun o' H' δ' S' M' σ' ex ea hE' hS' hM' n=>back c.nx o' H' δ' S' M' σ' ex ea hE' hS' hM' (by simpa using n)
 | true =>
  refine hb h o0 H0 o _ _ _ S (M ++ [(p,D0)]) _ { D with nx:=fun σ' H'=>∃ a m,σ'[i]? = some (some (.ref a))∧H' a = some (.dK m)∧∀ ob,D.nx σ' (upd H' a (.frz ob (.dK m))) } e1 fr1 hE sM mM qq ⟨?_,ret,back c.bk,back c.ct⟩ x
  intro o' H' δ' S' M' σ' ex ea hE' hS' hM' n
  obtain ⟨M1,m,eM,ei,n2⟩:∃ M1 m,M' = M1 ++ [(p,DD.k m)]∧δ'[i]? = some (some (.o (.ref p)))∧En.nx (δ'.map (Option.map (frzX p m))) S' M1:=by simpa using n
  subst eM
  obtain ⟨v,ev,hv⟩:=hE'.get i _ ei
  have evp:v = .ref p:=hv
  subst evp
  have nn:=hM'.nh p (by rw [ad_snoc]; simp)
  have nd:=hM'.nd
  rw [ad_snoc,ad_snoc] at ea
  rw [ad_snoc] at nd
  have pn:p ∉ ad M1:=fun m=>(List.nodup_append.mp nd).2.2 p m p (by simp) rfl
  obtain ⟨m',em,l⟩:=hM'.ct p (.k m) (by simp)
  refine ⟨p,m',ev,em,fun ob=>?_⟩
  have np:p ∉ h ++ ad M1:=fun z=>(List.mem_append.mp z).elim nn.1 pn
  have s2:Same (vx (h ++ ad (M1 ++ [(p,DD.k m)])) o' H') (vx (h ++ ad M1) o' (upd H' p (.frz ob (.dK m')))):=fun b w z=>by
   obtain ⟨z1,z2,z3⟩:=vx_iff.mp z
   rw [ad_snoc,← List.append_assoc] at z1
   have ne:b ≠ p:=fun z=>z1 (by rw [z]; simp)
   exact vx_iff.mpr ⟨fun mm=>z1 (List.mem_append_left _ mm),z2,by rw [upd_ne ne]; exact z3⟩
  refine c.nx o' _ _ S' M1 σ' ⟨ex.pre,fun b w nb zb=>?_⟩ (List.append_inj_left' ea rfl) (repE_frz s2 (vx_iff.mpr ⟨np,nn.2,upd_same⟩) l hE') ?_ ?_ n2
  ·obtain ⟨z1,z3⟩:=ex.kp b w nb zb
   exact ⟨z1,by rw [upd_ne (fun z=>by rw [z,H0p] at zb; cases zb)]; exact z3⟩
  ·refine ⟨hS'.len,hS'.nd,fun a ma z=>hS'.dis a ma (by rw [ad_snoc,← List.append_assoc]; exact List.mem_append_left _ z),fun b mb=>?_,fun k b ds q1 q2=>?_⟩
   ·obtain ⟨w,ew⟩:=hS'.hal b (by rw [ad_snoc,← List.append_assoc]; exact List.mem_append_left _ mb)
    exact ⟨w,by rw [upd_ne (fun z=>np (by rw [← z]; exact mb))]; exact ew⟩
   ·obtain ⟨vs,q3,l3⟩:=hS'.cont k b ds q1 q2
    exact ⟨vs,by rw [upd_ne (fun z=>nn.2 (by rw [← z]; exact List.mem_of_getElem? q1))]; exact q3,HasL.mono s2 _ _ l3⟩
  ·have r1:=hM'.init
   refine ⟨r1.nd,r1.nh,fun b D3 mb=>?_⟩
   have nb:b ≠ p:=fun z=>pn (by rw [← z]; exact List.mem_map.mpr ⟨_,mb,rfl⟩)
   exact (hM'.ct b D3 (List.mem_append_left _ mb)).mono s2 fun w z=>by rw [upd_ne nb]; exact z
theorem rm_newF (hb:RSm E EX tb db):RSm E EX (tSeq (tAsg tDNewK (gName i)) (tFzS i tb)) (dmNew true i (.k []) db):=fun h o0 H0 o H δ σ S M En D e0 fr he hs rm q c x p hp =>
 new_core (f:=true) (D0:=.k []) (u:=.k []) (fun G H a z=>⟨[],z,rfl⟩) hb e0 fr he hs rm q c x p hp
def dOfM (dt:DSm):DS:=fun En δ S=>dt { nx:=fun δ' S' _=>En.nx δ' S',rt:=fun x S' _=>En.rt x S',bk:=fun δ' S' _=>En.bk δ' S',ct:=fun δ' S' _=>En.ct δ' S' } δ S []
theorem rx_of_m {t:TS} {dt:DSm} (ht:RSm E EX t dt):RSx E EX t (dOfM dt):=fun h o H δ σ S En D he hs q c x=>by
 have z:h ++ ad [] = h:=List.append_nil _
 have nx:∀ {N:XE→Sto→Prop} {Y:St→Hp→Prop},Nx h o H N Y→NxM h o H (ad []) (fun δ' S' _=>N δ' S') Y:=fun {N Y} n o' H' δ' S' M' σ' ex ea he' hs' _ q'=>by
  rw [ea,z] at he' hs'
  exact n o' H' δ' S' σ' ex he' hs' q'
 refine ht h o H o H δ σ S [] _ D Ex.refl (fun a m=>by cases m) (by rw [z]; exact he) (by rw [z]; exact hs) RepM.nil q ⟨nx c.nx,?_,nx c.bk,nx c.ct⟩ x
 rintro o' H' S' M' y v ex ea hs' _ hx' q'
 rw [ea,z] at hs' hx'
 exact c.rt o' H' S' y v ex hs' hx' q'
theorem rs_of_m {t:TS} {dt:DSm} (ht:RSm E0 (fun _ _=>False) t dt):RS t (dOfM dt):=fun h o H δ σ S En D he hs q c=>rx_of_m ht h o H δ σ S En D he hs q c fun _ _ _ _ _ _ _ _ _ z=>z.elim
end
end L2
set_option Elab.async false
set_option linter.all false
set_option maxRecDepth 100000
namespace L2
open PySem PySem.Spec PyProof.Rows
section
variable {Φ:Phi} [Stb Φ] {ta tb:TE} {da db:DE}
end
theorem rs_cast {t t':TS} {d:DS} (h:RS t d) (e:t' = t:=by rfl):RS t' d:=e ▸ h
end L2
set_option Elab.async false
set_option linter.all false
set_option maxRecDepth 100000
namespace L2
open PySem PySem.Spec PySem.Calls PyProof.Rows
theorem kV_of {P:Program} {w:World} {k:Key} {u:Value} (h:(mixKind P w).is k u = true):RelV (kV k) u:=by
 have h':keyIs k u = true:=h
 cases k with
 | inl i =>
  have q:Value.isInt i u = true:=h'
  cases u <;> simp [Value.isInt] at q
  rename_i j t
  subst q
  exact ⟨t,rfl⟩
 | inr x =>
  have q:Value.isStrOf x u = true:=h'
  cases u <;> simp [Value.isStrOf] at q
  rename_i j t
  subst q
  exact ⟨t,rfl⟩
theorem frz_at {P:Program} {w:World} {H:Hp} {h:Heap} {a:Addr} {ob:Obj} {m:List (Key × V)} (ok:HOk P w H h) (e:H a = some (.frz ob (.dK m))):(a == sysModules) = false∧m.length ≤ sizeLine∧∃ es ep vs,ob.data = .dict es ep∧KV m vs∧h.DictAt (mixKind P w) a vs ep:=by
 obtain ⟨e1,hz,hne,vs,kv,o,es,ep,ho,r1,r2,r3⟩:=(show ObjOk P w H h a (.frz ob (.dK m)) from ok a _ e)
 rw [e1] at ho
 cases ho
 exact ⟨hne,hz,es,ep,vs,r2,kv,_,es,e1,r1,r2,r3⟩
theorem KV.get {kvs:List (Key × V)} {vs:List (Key × Value)} (r:KV kvs vs):∀ {i:Nat} {p:Key × V},kvs[i]? = some p→∃ u,vs[i]? = some (p.1,u)∧RelV p.2 u:=by
 unfold KV at r
 induction r with
 | nil=>intro i p e; simp at e
 | @cons p q ps qs h t ih =>
  intro i x e
  cases i with
  | zero =>
   simp at e
   subst e
   exact ⟨q.2,by simp [h.1],h.2⟩
  | succ i =>
   obtain ⟨u,e1,e2⟩:=ih (i:=i) (p:=x) (by simpa using e)
   exact ⟨u,by simpa using e1,e2⟩
section
variable {X:Cx} {tg:Expr}
end
def Iti (a:Addr) (ob:Obj) (m:List (Key × V)):It:=⟨fun i H=>i < m.length∧H a = some (.frz ob (.dK m)),fun i H x H'=>∃ p b,m[i]? = some p∧H b = none∧x = .ref b∧H' = upd H b (.tup [kV p.1,p.2]),fun i H=>m.length ≤ i∧H a = some (.frz ob (.dK m))⟩
def tnI (it a:Addr) (ob:Obj) (n:Nat) (i:Nat) (h:Heap):Prop:=∃ es ep ok ov,ob.data = .dict es ep∧IsItemIter h it a i n ep ok ov
theorem entry_itemiter:entryFor table "dict_itemiterator.__iter__" = some Builtin.«dict_keyiterator.__iter__» :=
 entryFor_alias (id':="dict_keyiterator.__iter__") (by kernel_rfl) rfl (by decide +kernel) (by kernel_rfl)
theorem pyIter_itemiter {prog:Program} {w:World} {A:Around} {E:Value→Shared→Prop} {s:Shared} {it d:Addr} {i n ep:Nat} {ok ov:Value} {Q:Value→Shared→Prop} (hit:IsItemIter s.heap it d i n ep ok ov) (h:Q (.ref it) s):wpAny (model prog w) A (pyIter (.ref it)) Q E s:=by
 have hT:s.TypeIs (.ref it) "dict_itemiterator":=⟨_,hit,rfl⟩
 refine wpAny_pyIter_slot hT F.slot_dict_itemiterator_iter (wpAny_call_entry F.slot_dict_itemiterator_iter hT entry_itemiter ?_ (F.args_dict_itemiterator_iter_1 _))
 show wpAny _ _ (ret (.ref it)) _ _ s
 exact wpAny_pure ⟨_,rfl,"dict_itemiterator",_,hT,F.slot_dict_itemiterator_next.lookup,h⟩
theorem turn_items {P:Program} {w:World} {K:PySem.W.Frag} {elts:List Expr} {n:Nat} {tpos:Pos} (a it:Addr) (ob:Obj) (m:List (Key × V)):Turn P w K (.Tuple elts n tpos) (Iti a ob m) [it] it (tnI it a ob m.length) where
 mem:=by simp
 obj:=fun i h ⟨_,_,_,_,_,st⟩ b hb=>by
  have e:b = it:=by simpa using hb
  subst e
  exact ⟨_,st,fun v z=>by cases z⟩
 keep:=fun i h h' ⟨es,ep,ok,ov,eo,st⟩ k=>⟨es,ep,ok,ov,eo,k it (by simp) _ st⟩
 item:=by
  intro X hP hw hK hc i pins s σ H E I hf st hg
  subst hP hw hK
  obtain ⟨es,ep,ok,ov,eo,st⟩:=st
  obtain ⟨hi,ea⟩:=hg
  obtain ⟨hne,hz,es',ep',vs,eo',kv,da⟩:=frz_at I.hok ea
  rw [eo] at eo'
  cases eo'
  obtain ⟨u,eu,ru⟩:=kv.get (List.getElem?_eq_getElem hi)
  have hl:vs.length = m.length:=kv.length.symm
  refine wpAny_pyNext_items_item (knd:=mixKind X.prog X.w) (kvs:=vs) (by rw [hl]; exact st) da eu fun key h' hk st' t1 sz kp=>?_
  refine ⟨_,rfl,wpAny_letOwnedTupleGo_items (s:={ s with heap:=h' }) st' fun g' e2 b2=>?_⟩
  have lt:it < s.heap.objs.size:=Heap.lt_size st
  have t2:g'.get? s.heap.objs.size = some { cls:=.type "tuple",data:=.seq #[key,u] }:=(b2.2 _ (Nat.ne_of_gt lt)).trans t1
  have neT:H s.heap.objs.size = none:=I.hok.fresh (Nat.le_refl _)
  rw [hl] at e2
  refine ⟨.ref s.heap.objs.size,upd H s.heap.objs.size (.tup [kV m[i].1,m[i].2]),I.turnLaid (ch:=[it]) (t':=s.toks) (fun b o nb q=>(b2.2 b fun z=>nb (by simp [z])).trans (kp b o (fun z=>nb (by simp [z])) q)) hf (Nat.le_refl _) ?_,rfl,
   ⟨m[i],_,List.getElem?_eq_getElem hi,neT,rfl,rfl⟩,⟨es,ep,_,_,eo,e2⟩,fun b hb=>?_⟩
  ·refine ⟨⟨by show 2 ≤ sizeLine; decide,_,t2,rfl⟩,[key,u],.cons (kV_of hk) (.cons ru .nil),⟨_,t2,rfl,_,rfl⟩⟩
  ·rw [List.mem_singleton.mp hb,upd_ne (Nat.ne_of_lt lt)]
   exact (hf _ (by simp)).1
 done:=by
  intro X hP hw hK hc i pins s σ H E I hf st hg
  subst hP hw hK
  obtain ⟨es,ep,ok,ov,eo,st⟩:=st
  obtain ⟨hi,ea⟩:=hg
  obtain ⟨hne,hz,es',ep',vs,eo',kv,da⟩:=frz_at I.hok ea
  rw [eo] at eo'
  cases eo'
  have hl:vs.length = m.length:=kv.length.symm
  obtain ⟨f0,f1,f2,f3,f4,f5⟩:=hf it (by simp)
  exact wpAny_pyNext_items_end (knd:=mixKind X.prog X.w) (kvs:=vs) (I.ok.hd hc) (by rw [hl]; exact st) da (List.getElem?_eq_none (by omega)) fun h' eb=>⟨rfl,I.turned (t':=s.toks) (fun b o hb e=>eb b o hb e) f0 f1 f3 f4 f5⟩
 self:=fun _ _ _ _ _ ⟨_,_,_,_,_,st⟩ h=>pyIter_itemiter st h
section
variable {X:Cx} {elts:List Expr} {n:Nat} {tpos apos cpos:Pos}
def iItems (te:TE):TI:=fun σ H R=>te σ H fun x H1=>∃ a ob m,x = .ref a∧H1 a = some (.frz ob (.dK m))∧R (Iti a ob m) H1
theorem pi_items {l:Expr} {te:TE} (hl:PE X l te) (hbase:attributeBase l "items" X.env (eval l X.env) = eval l X.env) (hline:(apos.endLine == cpos.line) = true):PI X (.Tuple elts n tpos) (.Call (.Attribute l "items" apos) [] [] cpos) (iItems te):=by
 intro pins s σ H R I h
 refine wpAny_Call_method (T:="dict") (id:="dict.items") hbase rfl hline F.plainAttrs_dict F.slot_dict_items F.type_dict_items (thn (hl pins s σ H _ I h) fun v s1 ⟨x,H1,I1,r1,q1⟩=>?_)
 obtain ⟨a,ob,m,e,ea,q⟩:=q1
 subst e
 cases r1
 obtain ⟨hne,hz,es,ep,vs,eo,kv,da⟩:=frz_at I1.hok ea
 have hl':vs.length = m.length:=kv.length.symm
 have hm:=da.dictOf
 refine ⟨hm.typeIs,hm.mapOf.noDict,?_⟩
 show wpAny _ _ (callWith cpos (.builtin "dict.items") [.ref a] [] []) _ _ s1
 refine method_meetsIn F.slot_dict_items F.entry_dict_items rfl (PyProof.Rows.evalArgs_none ⟨rfl,hm.typeIs,F.args_dict_items_1 _,_,meets_dict_items (mixKind X.prog X.w) a hne,⟨vs,hm⟩,?_⟩)
 have da1:=da.push { cls:=.type "dict_items",data:=.fields #[.ref a] }
 refine wpAny_pyIter_items (s:={ s1 with heap:=s1.heap.push { cls:=.type "dict_items",data:=.fields #[.ref a] } }) (knd:=mixKind X.prog X.w) ⟨_,Heap.get?_push_size _ rfl,rfl,rfl⟩ da1 ?_
 have I2:Inv X pins σ H1 { s1 with heap:=s1.heap.push { cls:=.type "dict_items",data:=.fields #[.ref a] } }:=I1.kept (t':=s1.toks) fun b o e=>Heap.get?_push_of_some _ e
 refine ⟨_,[_],_,_,H1,rfl,I2.kept (t':=s1.toks) fun b o e=>Heap.get?_push_of_some _ e,turn_items a _ ob m,⟨es,ep,_,_,eo,by rw [← hl']; exact Heap.get?_push_size _ rfl⟩,fun b hb=>?_,q⟩
 rw [List.mem_singleton.mp hb]
 exact I2.fpOk (Nat.le_refl _) (I2.hok.fresh (Nat.le_refl _))
end
def DD.itemsD (m:List (Key × PyData)):List PyData:=m.map fun p=>.tuple [kD p.1,p.2]
def diItems (e:DE):DI:=fun δ S R=>e δ S fun x S1=>∃ m,x = .d (.dict (DD.pairs (.k m)))∧R (DD.itemsD m) S1
theorem has_kD {H:Hp} {k:Key}:Has H (kD k) (kV k):=by
 cases k with
 | inl i=>exact has_int.mpr rfl
 | inr x=>exact has_str.mpr rfl
theorem HasM.get {H:Hp}:∀ {m:List (Key × PyData)} {m':List (Key × V)} {i:Nat} {p:Key × PyData},HasM H m m'→m[i]? = some p→∃ v,m'[i]? = some (p.1,v)∧Has H p.2 v
 | [],_,_,_,_,e=>by simp at e
 | q :: r,_,0,p,⟨v,t,e1,hv,l⟩,e=>by
  simp at e
  subst e e1
  exact ⟨v,rfl,hv⟩
 | q :: r,_,i + 1,p,⟨v,t,e1,hv,l⟩,e=>by
  subst e1
  obtain ⟨u,z1,z2⟩:=HasM.get (i:=i) l (by simpa using e)
  exact ⟨u,by simpa using z1,z2⟩
theorem ri_items {te:TE} {de:DE} (he':RE te de):RI (iItems te) (diItems de):=fun h o H δ σ S R Q he hs q c =>
 he' h o H δ σ S _ _ he hs q fun o1 H1 S1 x v e1 s1 x1 ⟨m,ex,d1⟩=>by
  subst ex
  obtain ⟨a,ob,m',rfl,ea,l⟩:=has_dk.mp (show Has _ _ v from x1)
  have hl:=l.length
  refine ⟨a,ob,m',rfl,vx_full _ _ ea,c o1 H1 S1 _ _ e1 s1 ⟨fun i o2 H2 e2 hi=>⟨by simp [DD.itemsD] at hi; omega,vx_full _ _ (e2.vx _ _ ea)⟩,fun i d o2 H2 e2 hi=>?_,fun i d o2 H2 y H3 S2 e2 s2 hi yy=>?_⟩ d1⟩
  ·have:=(List.getElem?_eq_some_iff.mp hi).1
   simp [DD.itemsD] at this
   exact ⟨by omega,vx_full _ _ (e2.vx _ _ ea)⟩
  ·obtain ⟨p,b,ep,nb,ey,e3⟩:=yy
   subst e3 ey
   unfold DD.itemsD at hi
   rw [List.getElem?_map] at hi
   obtain ⟨p2,e4,e5⟩:=Option.map_eq_some_iff.mp hi
   obtain ⟨u,z1,z2⟩:=l.get e4
   rw [ep] at z1
   cases z1
   have sm:Same H2 (upd H2 b (.tup [kV p2.1,u])):=Same.laid nb
   have fb:=s2.fresh nb
   refine ⟨sm,?_⟩
   rw [← e5]
   refine has_tuple.mpr ⟨b,_,rfl,vx_iff.mpr ⟨fb.1,fb.2,upd_same⟩,hasL_cons.mpr ⟨_,_,rfl,has_kD,hasL_cons.mpr ⟨_,_,rfl,?_,hasL_nil.mpr rfl⟩⟩⟩
   exact Has.mono (vx_same sm) _ _ (Has.mono e2.vx _ _ z2)
end L2
set_option Elab.async false
set_option linter.all false
set_option maxRecDepth 100000
namespace L2
open PySem PySem.Spec PyProof.Rows
section
variable {X:Cx} {pins:List (Addr × Obj)} {σ:St} {H:Hp} {s:Shared} {a:Addr}
end
section
variable {X:Cx} {G n:Str} {gp hpos pos:Pos} {i:Nat} {b₀ st:Stmt} {suite:List Stmt} {GA:Addr} {iniG:Option Value} {tb:XK→TS} {ts:TS}
end
end L2
set_option Elab.async false
set_option linter.all false
set_option maxRecDepth 100000
namespace L2
open PySem PySem.Spec PyProof.Rows
end L2
set_option Elab.async false
set_option linter.all false
set_option maxRecDepth 100000
namespace L2
open PySem PySem.Spec PyProof.Rows
section
variable {X:Cx} {pins:List (Addr × Obj)} {σ:St} {H:Hp} {s:Shared}
end
end L2
set_option Elab.async false
set_option linter.all false
set_option maxRecDepth 100000
namespace L2
open PySem PySem.Spec PyProof.Rows
section
variable {E:XK} {EX:EXD} {a b c d e f u:TS} {dt du:DS} {i:Nat}
theorem rs_seq2 (h:RS (tSeq a b) dt) (hu:RS u du):RS (tSeq a (tSeq b u)) (dSeq dt du):=rs_cast (rs_seq h hu)
end
end L2
set_option Elab.async false
set_option linter.all false
set_option maxRecDepth 100000
namespace L2
open PySem PySem.Spec PyProof.Rows
section
variable {P:Program} {w:World} {K:PySem.W.Frag} {mg:Str→Option Value} {base:Heap} {x:Str} {k:Nat} {ps:List Str} {sp:Sp}
end
section
variable {X:Cx}
end
end L2
set_option Elab.async false
set_option linter.all false
set_option maxRecDepth 100000
namespace HT
open PySem PyProof.Rows
section
open PySem.SeqAt
open PySem.AutoSeq1 (wpAny_loadPart')
open PySem.MeetsSeq PySem.MeetsSeq2 PySem.MeetsSeq3
end
end HT
namespace L2
open PySem PySem.Spec PyProof.Rows
section
variable {X:Cx}
end
end L2
set_option Elab.async false
set_option linter.all false
set_option maxRecDepth 100000
namespace L2
open PySem PySem.Spec PySem.Calls PyProof.Rows
theorem vals_ix:∀ (xs:List V) (us:List Value),xs.length = us.length→(∀ (j:Nat) (x:V) (u:Value),xs[j]? = some x→us[j]? = some u→RelV x u)→Vals xs us
 | [],[],_,_=>.nil
 | x :: xs,u :: us,hl,h=>.cons (h 0 x u rfl rfl) (vals_ix xs us (by simpa using hl) fun j y v e1 e2=>h (j + 1) y v (by simpa using e1) (by simpa using e2))
 | [],_ :: _,hl,_=>by simp at hl
 | _ :: _,[],hl,_=>by simp at hl
section
variable {X:Cx}
end
end L2
set_option Elab.async false
set_option linter.all false
set_option maxRecDepth 100000
namespace HT
open PySem PyProof.Rows
set_option maxRecDepth 8000 in
section
variable {prog:Program} {w:World} {K:Type} [DecidableEq K] {knd:PySem.KeyKind prog w K}
end
end HT
namespace L2
open PySem PySem.Spec PySem.Calls PyProof.Rows
section
variable {X:Cx}
end
end L2
set_option Elab.async false
set_option linter.all false
set_option maxRecDepth 100000
namespace HT
open PySem PyProof.Rows
set_option maxRecDepth 8000 in
section
variable {prog:Program} {w:World} {K:Type} [DecidableEq K] {knd:PySem.KeyKind prog w K}
end
end HT
namespace L2
open PySem PySem.Spec PySem.Calls PyProof.Rows
end L2
set_option Elab.async false
set_option linter.all false
set_option maxRecDepth 100000
namespace L2
open PySem PySem.Spec PyProof.Rows
end L2
set_option Elab.async false
set_option linter.all false
set_option maxRecDepth 100000
set_option maxHeartbeats 1000000
namespace L2
open PySem PySem.Spec PyProof.Rows
section
variable {X:Cx} {tg:Expr}
end
end L2
set_option Elab.async false
set_option linter.all false
set_option maxRecDepth 100000
namespace L2
open PySem PySem.Spec PyProof.Rows
end L2
set_option Elab.async false
set_option linter.all false
set_option maxRecDepth 100000
set_option maxHeartbeats 2000000
namespace L2
open PySem PyProof.Rows
def gallopS:Bool→Keyed→Array Keyed→Nat→Nat→Nat→StateT SortSt Sem (Option Nat):=sortPriv% PySem.Builtin.gallop
def mergeLoS:Array Keyed→Array Keyed→StateT SortSt Sem (Array Keyed):=sortPriv% PySem.Builtin.mergeLo
def mergeHiS:Array Keyed→Array Keyed→StateT SortSt Sem (Array Keyed):=sortPriv% PySem.Builtin.mergeHi
structure LtOk (prog:Program) (w:World) (A:Around) (E:Value→Shared→Prop) (s:Shared) (kd:SortKind) (D:Keyed→Prop) (lt:Keyed→Keyed→Bool):Prop where
 ask:∀ x y (st:SortSt) (Q:Option Bool→SortSt→Prop),D x→D y→kindOf st = kd→Q (some (lt x y)) st→wpS (model prog w) A E s (lt' x y) Q st
 asym:∀ x y,D x→D y→lt x y = true→lt y x = false
 tr:∀ x y z,D x→D y→D z→lt y x = false→lt z y = false→lt z x = false
section
variable {prog:Program} {w:World} {A:Around} {E:Value→Shared→Prop} {s:Shared} {kd:SortKind} {D:Keyed→Prop} {lt:Keyed→Keyed→Bool}
theorem wpS_elem {arr:Array Keyed} {i:Nat} {x:Keyed} {Q:Keyed→SortSt→Prop} {st:SortSt} (h:arr[i]? = some x) (q:Q x st):wpS (model prog w) A E s (elem' arr i) Q st:=by
 rw [elem'_eq,h]
 exact wpS_pure q
def bey (lt:Keyed→Keyed→Bool) (left:Bool) (key x:Keyed):Bool:=if left = true then lt x key else !lt key x
theorem wpS_bey (O:LtOk prog w A E s kd D lt) {left:Bool} {key x:Keyed} {arr:Array Keyed} {i:Nat} {Q:Option Bool→SortSt→Prop} {st:SortSt} (hk:kindOf st = kd) (hD:D key) (hg:arr[i]? = some x) (hx:D x) (q:Q (some (bey lt left key x)) st) :
  wpS (model prog w) A E s (do
   let y ← elem' arr i
   if left = true then lt' y key
    else do
     let r ← lt' key y
     pure (Option.map (fun b=>!b) r)) Q st:=by
 refine wpS_bind (wpS_elem hg ?_)
 unfold bey at q
 by_cases h:left = true
 ·rw [if_pos h] at q ⊢
  exact O.ask _ _ _ _ hx hD hk q
 ·rw [if_neg h] at q ⊢
  exact wpS_bind (O.ask _ _ _ _ hD hx hk (wpS_pure q))
theorem wpS_bin {n:Nat} {p:Nat→Bool} {α:Type} {f:Nat→Option α × Nat × Nat→StateT SortSt Sem (ForInStep (Option α × Nat × Nat))} {Q:Option α × Nat × Nat→SortSt→Prop} {st:SortSt}
  (hf:∀ x lo hi (Q':ForInStep (Option α × Nat × Nat)→SortSt→Prop),hi ≤ n→(hi ≤ lo→Q' (.done (none,lo,hi)) st)→(lo < hi→p (lo + (hi - lo) / 2) = true→Q' (.yield (none,lo + (hi - lo) / 2 + 1,hi)) st) →
   (lo < hi→p (lo + (hi - lo) / 2) = false→Q' (.yield (none,lo,lo + (hi - lo) / 2)) st)→wpS (model prog w) A E s (f x (none,lo,hi)) Q' st)
  (hmono:∀ i j,i ≤ j→j < n→p j = true→p i = true) {lo hi:Nat} (h1:lo ≤ hi) (h2:hi ≤ n) (h3:∀ i,i < lo→p i = true) (h4:∀ i,hi ≤ i→i < n→p i = false)
  (q:∀ k,k ≤ n→(∀ i,i < k→p i = true)→(∀ i,k ≤ i→i < n→p i = false)→Q (none,k,k) st):wpS (model prog w) A E s (forIn [:n] (none,lo,hi) f) Q st:=by
 refine wpS_forRange (I:=fun k c st'=>st' = st∧∃ lo hi,c = (none,lo,hi)∧lo ≤ hi∧hi ≤ n∧hi - lo + k ≤ n∧(∀ i,i < lo→p i = true)∧∀ i,hi ≤ i→i < n→p i = false) ?step ?fin ⟨rfl,lo,hi,rfl,h1,h2,by omega,h3,h4⟩
 case fin =>
  rintro c st' ⟨rfl,lo,hi,rfl,a1,a2,a3,a4,a5⟩
  have:lo = hi:=by omega
  subst this
  exact q lo a2 a4 a5
 case step =>
  rintro k c st' _ hkn ⟨rfl,lo,hi,rfl,a1,a2,a3,a4,a5⟩
  refine hf k lo hi _ a2 (fun hle=>?_) (fun hlt hp=>?_) fun hlt hp=>?_
  ·have:lo = hi:=by omega
   subst this
   exact q lo a2 a4 a5
  ·refine ⟨rfl,_,_,rfl,by omega,a2,by omega,fun i hi'=>?_,a5⟩
   exact hmono i (lo + (hi - lo) / 2) (by omega) (by omega) hp
  ·refine ⟨rfl,_,_,rfl,by omega,by omega,by omega,a4,fun i hi' hin=>?_⟩
   cases hpi:p i with
   | false=>rfl
   | true=>rw [hmono (lo + (hi - lo) / 2) i hi' hin hpi] at hp; cases hp
theorem wpS_gallop (O:LtOk prog w A E s kd D lt) {left:Bool} {key:Keyed} {arr:Array Keyed} {base n hint:Nat} {Q:Option Nat→SortSt→Prop} {st:SortSt} (hk:kindOf st = kd) (hD:D key) (g:Nat→Keyed) (hg:∀ i,i < n→arr[base + i]? = some (g i)) (hgD:∀ i,i < n→D (g i))
  (hmono:∀ i j,i ≤ j→j < n→bey lt left key (g j) = true→bey lt left key (g i) = true) (hh:hint < n)
  (q:∀ k,k ≤ n→(∀ i,i < k→bey lt left key (g i) = true)→(∀ i,k ≤ i→i < n→bey lt left key (g i) = false)→Q (some k) st):wpS (model prog w) A E s (gallopS left key arr base n hint) Q st:=by
 have hmF:∀ i j,i ≤ j→j < n→bey lt left key (g i) = false→bey lt left key (g j) = false:=fun i j h1 h2 h3=>by
  cases h:bey lt left key (g j) with
  | false=>rfl
  | true=>rw [hmono i j h1 h2 h] at h3; cases h3
 refine wpS_bind (wpS_bey O hk hD (hg hint hh) (hgD hint hh) ?_)
 dsimp only
 cases hb:bey lt left key (g hint) with
 | true =>
  simp only [if_true]
  refine wpS_bind (wpS_mono (wpS_forRange (I:=fun k c st'=>st' = st∧∃ la of_,c = (none,la,of_)∧la < of_∧k + 1 ≤ of_∧hint + la < n∧bey lt left key (g (hint + la)) = true)
   (Q:=fun c st'=>st' = st∧∃ la of_,c = (none,la,of_)∧la < of_∧hint + la < n∧bey lt left key (g (hint + la)) = true∧(n - hint ≤ of_∨(hint + of_ < n∧bey lt left key (g (hint + of_)) = false))) ?step ?fin ⟨rfl,0,1,rfl,by omega,by omega,by omega,hb⟩) ?post)
  case step =>
   rintro k c st' _ hk2 ⟨rfl,la,of_,rfl,h1,h2,h3,h4⟩
   dsimp only
   by_cases ho:of_ ≥ n - hint
   ·rw [if_pos ho]
    exact wpS_pure ⟨rfl,la,of_,rfl,h1,h3,h4,.inl ho⟩
   ·rw [if_neg ho]
    have hn:hint + of_ < n:=by omega
    refine wpS_bind (wpS_bey O hk hD (hg _ hn) (hgD _ hn) ?_)
    dsimp only
    cases hb2:bey lt left key (g (hint + of_)) with
    | true=>exact wpS_pure ⟨rfl,of_,2 * of_ + 1,rfl,by omega,by omega,hn,hb2⟩
    | false=>exact wpS_pure ⟨rfl,la,of_,rfl,h1,h3,h4,.inr ⟨hn,hb2⟩⟩
  case fin =>
   rintro c st' ⟨rfl,la,of_,rfl,h1,h2,h3,h4⟩
   exact ⟨rfl,la,of_,rfl,h1,h3,h4,.inl (by omega)⟩
  case post =>
   rintro c st' ⟨rfl,la,of_,rfl,h1,h3,h4,h5⟩
   dsimp only
   refine wpS_bind (wpS_bin (p:=fun i=>bey lt left key (g i)) ?hf hmono (by omega) (by omega) (fun i hi=>hmono i (hint + la) (by omega) h3 h4) (fun i hi hin=>?_) fun k k1 k2 k3=>?_)
   case hf =>
    intro x lo hi Q' hn e1 e2 e3
    dsimp only
    by_cases ho:lo ≥ hi
    ·rw [if_pos ho]
     exact wpS_pure (e1 ho)
    ·rw [if_neg ho]
     have hm:lo + (hi - lo) / 2 < n:=by omega
     refine wpS_bind (wpS_bey O hk hD (hg _ hm) (hgD _ hm) ?_)
     dsimp only
     cases hb2:bey lt left key (g (lo + (hi - lo) / 2)) with
     | true=>exact wpS_pure (e2 (by omega) hb2)
     | false=>exact wpS_pure (e3 (by omega) hb2)
   ·rcases h5 with h5 | ⟨h5,h6⟩
    ·omega
    ·exact hmF (hint + of_) i (by omega) hin h6
   ·exact wpS_pure (q k k1 k2 k3)
 | false =>
  simp only [Bool.false_eq_true,if_false]
  refine wpS_bind (wpS_mono (wpS_forRange (I:=fun k c st'=>st' = st∧∃ la of_,c = (none,la,of_)∧la < of_∧k + 1 ≤ of_∧la ≤ hint∧bey lt left key (g (hint - la)) = false)
   (Q:=fun c st'=>st' = st∧∃ la of_,c = (none,la,of_)∧la < of_∧la ≤ hint∧bey lt left key (g (hint - la)) = false∧(hint + 1 ≤ of_∨(of_ ≤ hint∧bey lt left key (g (hint - of_)) = true))) ?step ?fin ⟨rfl,0,1,rfl,by omega,by omega,by omega,hb⟩) ?post)
  case step =>
   rintro k c st' _ hk2 ⟨rfl,la,of_,rfl,h1,h2,h3,h4⟩
   dsimp only
   by_cases ho:of_ ≥ hint + 1
   ·rw [if_pos ho]
    exact wpS_pure ⟨rfl,la,of_,rfl,h1,h3,h4,.inl ho⟩
   ·rw [if_neg ho]
    have hn:hint - of_ < n:=by omega
    refine wpS_bind (wpS_bey O hk hD (hg _ hn) (hgD _ hn) ?_)
    dsimp only
    cases hb2:bey lt left key (g (hint - of_)) with
    | true=>exact wpS_pure ⟨rfl,la,of_,rfl,h1,h3,h4,.inr ⟨by omega,hb2⟩⟩
    | false=>exact wpS_pure ⟨rfl,of_,2 * of_ + 1,rfl,by omega,by omega,by omega,hb2⟩
  case fin =>
   rintro c st' ⟨rfl,la,of_,rfl,h1,h2,h3,h4⟩
   exact ⟨rfl,la,of_,rfl,h1,h3,h4,.inl (by omega)⟩
  case post =>
   rintro c st' ⟨rfl,la,of_,rfl,h1,h3,h4,h5⟩
   dsimp only
   refine wpS_bind (wpS_bin (p:=fun i=>bey lt left key (g i)) ?hf hmono (by omega) (by omega) (fun i hi=>?_) (fun i hi hin=>hmF (hint - la) i (by omega) hin h4) fun k k1 k2 k3=>?_)
   case hf =>
    intro x lo hi Q' hn e1 e2 e3
    dsimp only
    by_cases ho:lo ≥ hi
    ·rw [if_pos ho]
     exact wpS_pure (e1 ho)
    ·rw [if_neg ho]
     have hm:lo + (hi - lo) / 2 < n:=by omega
     refine wpS_bind (wpS_bey O hk hD (hg _ hm) (hgD _ hm) ?_)
     dsimp only
     cases hb2:bey lt left key (g (lo + (hi - lo) / 2)) with
     | true=>exact wpS_pure (e2 (by omega) hb2)
     | false=>exact wpS_pure (e3 (by omega) hb2)
   ·rcases h5 with h5 | ⟨h5,h6⟩
    ·omega
    ·exact hmono i (hint - of_) (by omega) (by omega) h6
   ·exact wpS_pure (q k k1 k2 k3)
def SrtL (lt:Keyed→Keyed→Bool) (l:List Keyed):Prop:=l.Pairwise fun x y=>lt y x = false
structure MI (lt:Keyed→Keyed→Bool) (L0 out A B:List Keyed):Prop where
 pm:(out ++ (A ++ B)).Perm L0
 so:SrtL lt out
 le:∀ x ∈ out,∀ y ∈ A ++ B,lt y x = false
 sa:SrtL lt A
 sb:SrtL lt B
theorem srt_snoc {l:List Keyed} {x:Keyed} (h:SrtL lt l) (k:∀ y ∈ l,lt x y = false):SrtL lt (l ++ [x]):=by
 unfold SrtL at *
 rw [List.pairwise_append]
 exact ⟨h,by simp,fun y m z mz=>by rw [List.mem_singleton.mp mz]; exact k y m⟩
theorem MI.takeA {L0 out A B:List Keyed} {x:Keyed} (h:MI lt L0 out (x :: A) B) (k:∀ y ∈ B,lt y x = false):MI lt L0 (out ++ [x]) A B:=by
 have sa:=h.sa
 unfold SrtL at sa
 rw [List.pairwise_cons] at sa
 refine ⟨by rw [List.append_assoc]; exact h.pm,srt_snoc h.so fun y m=>h.le y m x (by simp),fun z mz y my=>?_,sa.2,h.sb⟩
 rcases List.mem_append.mp mz with mz | mz
 ·exact h.le z mz y (by rcases List.mem_append.mp my with m | m <;> simp [m])
 ·rw [List.mem_singleton.mp mz]
  rcases List.mem_append.mp my with m | m
  ·exact sa.1 y m
  ·exact k y m
theorem MI.takeB {L0 out A B:List Keyed} {y:Keyed} (h:MI lt L0 out A (y :: B)) (k:∀ x ∈ A,lt x y = false):MI lt L0 (out ++ [y]) A B:=by
 have sb:=h.sb
 unfold SrtL at sb
 rw [List.pairwise_cons] at sb
 refine ⟨?_,srt_snoc h.so fun x m=>h.le x m y (by simp),fun z mz x mx=>?_,h.sa,sb.2⟩
 ·refine .trans ?_ h.pm
  rw [List.append_assoc]
  refine List.Perm.append_left _ ?_
  exact (List.perm_middle (a:=y) (l₁:=A) (l₂:=B)).symm
 ·rcases List.mem_append.mp mz with mz | mz
  ·exact h.le z mz x (by rcases List.mem_append.mp mx with m | m <;> simp [m])
  ·rw [List.mem_singleton.mp mz]
   rcases List.mem_append.mp mx with m | m
   ·exact k x m
   ·exact sb.1 x m
theorem MI.takesA {L0:List Keyed}:∀ {X out A B:List Keyed},MI lt L0 out (X ++ A) B→(∀ x ∈ X,∀ y ∈ B,lt y x = false)→MI lt L0 (out ++ X) A B
 | [],out,A,B,h,_=>by simpa using h
 | x :: X,out,A,B,h,k=>by
  have:=MI.takesA (MI.takeA h (k x List.mem_cons_self)) fun z m=>k z (List.mem_cons_of_mem _ m)
  simpa using this
theorem MI.takesB {L0:List Keyed}:∀ {Y out A B:List Keyed},MI lt L0 out A (Y ++ B)→(∀ y ∈ Y,∀ x ∈ A,lt x y = false)→MI lt L0 (out ++ Y) A B
 | [],out,A,B,h,_=>by simpa using h
 | y :: Y,out,A,B,h,k=>by
  have:=MI.takesB (MI.takeB h (k y List.mem_cons_self)) fun z m=>k z (List.mem_cons_of_mem _ m)
  simpa using this
def MDone (lt:Keyed→Keyed→Bool) (L0 l:List Keyed):Prop:=l.Perm L0∧SrtL lt l
theorem MI.doneA {L0 out A:List Keyed} (h:MI lt L0 out A []):MDone lt L0 (out ++ A):=by
 refine ⟨by simpa using h.pm,?_⟩
 unfold SrtL
 rw [List.pairwise_append]
 exact ⟨h.so,h.sa,fun x m y m'=>h.le x m y (by simpa using m')⟩
theorem MI.lastA {L0 out B:List Keyed} {x:Keyed} (h:MI lt L0 out [x] B) (k:∀ y ∈ B,lt x y = false):MDone lt L0 (out ++ B ++ [x]):=by
 have h2:MI lt L0 (out ++ B) [x] []:=MI.takesB (B:=[]) (by simpa using h) fun y m z mz=>by rw [List.mem_singleton.mp mz]; exact k y m
 exact h2.doneA
def sameSt (st st':SortSt):Prop:=kindOf st' = kindOf st∧arrOf st' = arrOf st∧pendingOf st' = pendingOf st∧failedOf st' = failedOf st
theorem sameSt.rfl' {st:SortSt}:sameSt st st:=⟨rfl,rfl,rfl,rfl⟩
theorem LtOk.irr (O:LtOk prog w A E s kd D lt) {x:Keyed} (h:D x):lt x x = false:=by
 cases e:lt x x with
 | false=>rfl
 | true=>rw [O.asym x x h h e] at e; cases e
theorem srt_get (O:LtOk prog w A E s kd D lt) {l:List Keyed} (h:SrtL lt l) (hD:∀ x ∈ l,D x) {i j:Nat} {x y:Keyed} (ij:i ≤ j) (hx:l[i]? = some x) (hy:l[j]? = some y):lt y x = false:=by
 rcases Nat.lt_or_eq_of_le ij with h1 | h1
 ·obtain ⟨hi,ex⟩:=List.getElem?_eq_some_iff.mp hx
  obtain ⟨hj,ey⟩:=List.getElem?_eq_some_iff.mp hy
  have:=List.pairwise_iff_getElem.mp h i j hi hj h1
  rw [ex,ey] at this
  exact this
 ·subst h1
  rw [hx] at hy
  cases hy
  exact O.irr (hD x (List.mem_of_getElem? hx))
theorem drop_cons {l:List Keyed} {i:Nat} {x:Keyed} (h:l[i]? = some x):l.drop i = x :: l.drop (i + 1):=by
 obtain ⟨hi,e⟩:=List.getElem?_eq_some_iff.mp h
 rw [List.drop_eq_getElem_cons hi,e]
theorem arr_get {a:Array Keyed} {i:Nat} (h:i < a.size):∃ x,a[i]? = some x∧a.toList[i]? = some x:=⟨a[i],by simp [h],by simp [h]⟩
theorem mem_drop_get {l:List Keyed} {i:Nat} {y:Keyed} (h:y ∈ l.drop i):∃ j,i ≤ j∧l[j]? = some y:=by
 obtain ⟨j,hj⟩:=List.mem_iff_getElem?.mp h
 rw [List.getElem?_drop] at hj
 exact ⟨i + j,by omega,hj⟩
structure MInv (lt:Keyed→Keyed→Bool) (a b out:Array Keyed) (ia ib:Nat):Prop where
 mi:MI lt (a.toList ++ b.toList) out.toList (a.toList.drop ia) (b.toList.drop ib)
 ha:ia + 1 < a.size
 hb:ib < b.size
section
variable {a b out:Array Keyed} {ia ib:Nat}
theorem MInv.stepB (O:LtOk prog w A E s kd D lt) (haD:∀ x ∈ a.toList,D x) (hbD:∀ x ∈ b.toList,D x) (hsa:SrtL lt a.toList) {x y:Keyed} (h:MInv lt a b out ia ib) (hx:a.toList[ia]? = some x) (hy:b.toList[ib]? = some y) (l:lt y x = true) :
  MI lt (a.toList ++ b.toList) (out.push y).toList (a.toList.drop ia) (b.toList.drop (ib + 1)):=by
 have m:=h.mi
 rw [drop_cons hy] at m
 have:=m.takeB fun z mz=>by
  obtain ⟨j,hj,ez⟩:=mem_drop_get mz
  have Dx:=haD x (List.mem_of_getElem? hx)
  have Dy:=hbD y (List.mem_of_getElem? hy)
  have Dz:=haD z (List.mem_of_getElem? ez)
  exact O.tr y x z Dy Dx Dz (O.asym y x Dy Dx l) (srt_get O hsa haD hj hx ez)
 simpa using this
theorem MInv.stepA (O:LtOk prog w A E s kd D lt) (haD:∀ x ∈ a.toList,D x) (hbD:∀ x ∈ b.toList,D x) (hsb:SrtL lt b.toList) {x y:Keyed} (h:MInv lt a b out ia ib) (hx:a.toList[ia]? = some x) (hy:b.toList[ib]? = some y) (l:lt y x = false) :
  MI lt (a.toList ++ b.toList) (out.push x).toList (a.toList.drop (ia + 1)) (b.toList.drop ib):=by
 have m:=h.mi
 rw [drop_cons hx] at m
 have:=m.takeA fun z mz=>by
  obtain ⟨j,hj,ez⟩:=mem_drop_get mz
  exact O.tr x y z (haD x (List.mem_of_getElem? hx)) (hbD y (List.mem_of_getElem? hy)) (hbD z (List.mem_of_getElem? ez)) l (srt_get O hsb hbD hj hy ez)
 simpa using this
theorem ext_drop (a:Array Keyed) (i:Nat):(a.extract i a.size).toList = a.toList.drop i:=by
 rw [Array.toList_extract,List.extract_eq_take_drop,List.take_of_length_le (by simp)]
theorem mi_doneB (hib:ib = b.size) (m:MI lt (a.toList ++ b.toList) out.toList (a.toList.drop ia) (b.toList.drop ib)):MDone lt (a.toList ++ b.toList) (out ++ a.extract ia a.size ++ b.extract ib b.size).toList:=by
 have e:b.toList.drop ib = []:=List.drop_of_length_le (by simp [hib])
 rw [Array.toList_append,Array.toList_append,ext_drop,ext_drop,e,List.append_nil]
 rw [e] at m
 exact m.doneA
theorem mi_doneA (hia:ia = a.size) (m:MI lt (a.toList ++ b.toList) out.toList (a.toList.drop ia) (b.toList.drop ib)):MDone lt (a.toList ++ b.toList) (out ++ a.extract ia a.size ++ b.extract ib b.size).toList:=by
 have e:a.toList.drop ia = []:=List.drop_of_length_le (by simp [hia])
 rw [Array.toList_append,Array.toList_append,ext_drop,ext_drop,e,List.append_nil]
 rw [e] at m
 have h2:MI lt (a.toList ++ b.toList) (out.toList ++ b.toList.drop ib) [] []:=MI.takesB (B:=[]) (by simpa using m) (fun y my x mx=>by cases mx)
 have:=h2.doneA
 simpa using this
theorem mi_last (hl:∀ x,a[a.size - 1]? = some x→∀ y ∈ b.toList,lt x y = false) (h1:ia + 1 = a.size) (m:MI lt (a.toList ++ b.toList) out.toList (a.toList.drop ia) (b.toList.drop ib)):MDone lt (a.toList ++ b.toList) (out ++ b.extract ib b.size ++ a.extract ia a.size).toList:=by
 obtain ⟨x,e1,e2⟩:=arr_get (a:=a) (i:=ia) (by omega)
 have ed:a.toList.drop ia = [x]:=by
  rw [drop_cons e2,List.drop_of_length_le (by simp; omega)]
 rw [ed] at m
 have hx:=hl x (by rw [show a.size - 1 = ia by omega]; exact e1)
 have:=m.lastA fun y my=>hx y (List.mem_of_mem_drop my)
 rw [Array.toList_append,Array.toList_append,ext_drop,ext_drop,ed]
 exact this
end
theorem gal (O:LtOk prog w A E s kd D lt) {left:Bool} {key:Keyed} {arr:Array Keyed} {base n hint:Nat} {Q:Option Nat→SortSt→Prop} {st:SortSt} (hk:kindOf st = kd) (Dk:D key) (hD:∀ j,base ≤ j→j < base + n→∃ x,arr[j]? = some x∧D x)
  (hs:∀ i j x y,base ≤ i→i ≤ j→j < base + n→arr[i]? = some x→arr[j]? = some y→lt y x = false) (hh:hint < n)
  (q:∀ k,k ≤ n→(∀ j x,base ≤ j→j < base + k→arr[j]? = some x→bey lt left key x = true)→(∀ j x,base + k ≤ j→j < base + n→arr[j]? = some x→bey lt left key x = false)→Q (some k) st):wpS (model prog w) A E s (gallopS left key arr base n hint) Q st:=by
 have hg:∀ i,i < n→arr[base + i]? = some ((arr[base + i]?).getD key):=fun i hi=>by
  obtain ⟨x,e,_⟩:=hD (base + i) (by omega) (by omega)
  rw [e]
  rfl
 have hgD:∀ i,i < n→D ((arr[base + i]?).getD key):=fun i hi=>by
  obtain ⟨x,e,d⟩:=hD (base + i) (by omega) (by omega)
  rw [e]
  exact d
 refine wpS_gallop O hk Dk (fun i=>(arr[base + i]?).getD key) hg hgD (fun i j hij hj hb=>?_) hh fun k k1 k2 k3=>q k k1 (fun j x h1 h2 e=>?_) fun j x h1 h2 e=>?_
 ·have s1:=hs (base + i) (base + j) _ _ (by omega) (by omega) (by omega) (hg i (by omega)) (hg j hj)
  have Di:=hgD i (by omega)
  have Dj:=hgD j hj
  try dsimp only at hb ⊢
  generalize (arr[base + i]?).getD key = x at s1 Di ⊢
  generalize (arr[base + j]?).getD key = y at s1 Dj hb
  cases left with
  | true =>
   unfold bey at hb ⊢
   rw [if_pos rfl] at hb ⊢
   cases hx:lt x key with
   | true=>rfl
   | false=>rw [O.tr key x y Dk Di Dj hx s1] at hb; cases hb
  | false =>
   unfold bey at hb ⊢
   rw [if_neg (by decide)] at hb ⊢
   have hb':lt key y = false:=by simpa using hb
   rw [O.tr x y key Di Dj Dk s1 hb']
   rfl
 ·have:=k2 (j - base) (by omega)
  try dsimp only at this
  rw [show base + (j - base) = j by omega,e] at this
  exact this
 ·have:=k3 (j - base) (by omega) (by omega)
  try dsimp only at this
  rw [show base + (j - base) = j by omega,e] at this
  exact this
theorem ext_take {a:Array Keyed} {i k:Nat}:(a.extract i (i + k)).toList = (a.toList.drop i).take k:=by
 rw [Array.toList_extract,List.extract_eq_take_drop,Nat.add_sub_cancel_left]
theorem mem_take_drop {l:List Keyed} {i k:Nat} {x:Keyed} (h:x ∈ (l.drop i).take k):∃ j,i ≤ j∧j < i + k∧l[j]? = some x:=by
 obtain ⟨j,hj⟩:=List.mem_iff_getElem?.mp h
 rw [List.getElem?_take] at hj
 split at hj
 ·rw [List.getElem?_drop] at hj
  exact ⟨i + j,by omega,by omega,hj⟩
 ·cases hj
theorem ext_nil (a:Array Keyed) (i:Nat):a.extract i (i + 0) = #[]:=by
 apply Array.toList_inj.mp
 rw [ext_take,List.take_zero]
section
variable {a b out:Array Keyed} {ia ib k:Nat} {L0:List Keyed}
theorem mi_blockA (m:MI lt L0 out.toList (a.toList.drop ia) (b.toList.drop ib)) (h:∀ j x,ia ≤ j→j < ia + k→a.toList[j]? = some x→∀ y ∈ b.toList.drop ib,lt y x = false):MI lt L0 (out ++ a.extract ia (ia + k)).toList (a.toList.drop (ia + k)) (b.toList.drop ib):=by
 rw [Array.toList_append,ext_take]
 refine MI.takesA ?_ fun x mx y my=>?_
 ·rw [← List.drop_drop,List.take_append_drop]
  exact m
 ·obtain ⟨j,h1,h2,e⟩:=mem_take_drop mx
  exact h j x h1 h2 e y my
theorem mi_blockB (m:MI lt L0 out.toList (a.toList.drop ia) (b.toList.drop ib)) (h:∀ j y,ib ≤ j→j < ib + k→b.toList[j]? = some y→∀ x ∈ a.toList.drop ia,lt x y = false):MI lt L0 (out ++ b.extract ib (ib + k)).toList (a.toList.drop ia) (b.toList.drop (ib + k)):=by
 rw [Array.toList_append,ext_take]
 refine MI.takesB ?_ fun x mx y my=>?_
 ·rw [← List.drop_drop,List.take_append_drop]
  exact m
 ·obtain ⟨j,h1,h2,e⟩:=mem_take_drop mx
  exact h j x h1 h2 e y my
theorem mi_pushA (m:MI lt L0 out.toList (a.toList.drop ia) (b.toList.drop ib)) {x:Keyed} (hx:a.toList[ia]? = some x) (h:∀ y ∈ b.toList.drop ib,lt y x = false):MI lt L0 (out.push x).toList (a.toList.drop (ia + 1)) (b.toList.drop ib):=by
 rw [drop_cons hx] at m
 have:=m.takeA h
 simpa using this
theorem mi_pushB (m:MI lt L0 out.toList (a.toList.drop ia) (b.toList.drop ib)) {y:Keyed} (hy:b.toList[ib]? = some y) (h:∀ x ∈ a.toList.drop ia,lt x y = false):MI lt L0 (out.push y).toList (a.toList.drop ia) (b.toList.drop (ib + 1)):=by
 rw [drop_cons hy] at m
 have:=m.takeB h
 simpa using this
end
theorem arr_of {a:Array Keyed} {i:Nat} {x:Keyed}:a[i]? = some x ↔ a.toList[i]? = some x:=by simp
theorem fin3 {prog:Program} {w:World} {A:Around} {E:Value→Shared→Prop} {s:Shared} {τ:Type} {P C:Prop} {_:Decidable P} {f g:StateT SortSt Sem τ} {Q':τ→SortSt→Prop} {st':SortSt} (hf:C→wpS (model prog w) A E s f Q' st') (hg:C→wpS (model prog w) A E s g Q' st') (h:C):wpS (model prog w) A E s (if P then f else g) Q' st':=by
 split
 ·exact hf h
 ·exact hg h
theorem wpS_mergeLo (O:LtOk prog w A E s kd D lt) {a b:Array Keyed} {Q:Array Keyed→SortSt→Prop} {st:SortSt} (hk:kindOf st = kd) (haD:∀ x ∈ a.toList,D x) (hbD:∀ x ∈ b.toList,D x) (ha:SrtL lt a.toList) (hb:SrtL lt b.toList) (ha1:1 ≤ a.size) (hb1:1 ≤ b.size)
  (h0:∀ y,b[0]? = some y→∀ x ∈ a.toList,lt x y = false) (hl:∀ x,a[a.size - 1]? = some x→∀ y ∈ b.toList,lt x y = false)
  (q:∀ (out:Array Keyed) st',MDone lt (a.toList ++ b.toList) out.toList→sameSt st st'→Q out st'):wpS (model prog w) A E s (mergeLoS a b) Q st:=by
 refine wpS_bind (wpS_lift (wpAny_rule ⟨rfl,?_⟩))
 obtain ⟨y0,ey0,ey0'⟩:=arr_get (a:=b) (i:=0) (by omega)
 refine wpS_bind (wpS_elem ey0 ?_)
 dsimp only
 have m0:MI lt (a.toList ++ b.toList) [] a.toList b.toList:=⟨List.Perm.refl _,List.Pairwise.nil,(fun x m=>by cases m),ha,hb⟩
 have m1:MI lt (a.toList ++ b.toList) (#[y0]:Array Keyed).toList (a.toList.drop 0) (b.toList.drop 1):=by
  have e:b.toList = y0 :: b.toList.drop 1:=by have:=drop_cons ey0'; simpa using this
  have m2:MI lt (a.toList ++ b.toList) [] a.toList (y0 :: b.toList.drop 1):=by
   have:=m0
   conv at this=>arg 5; rw [e]
   exact this
  have:=m2.takeB (h0 y0 ey0)
  simpa using this
 by_cases c1:1 = b.size
 ·rw [if_pos (by simpa using c1)]
  exact wpS_pure (q _ _ (mi_doneB c1 m1) sameSt.rfl')
 rw [if_neg (by simpa using c1)]
 by_cases c2:0 + 1 = a.size
 ·rw [if_pos (by simpa using c2)]
  exact wpS_pure (q _ _ (mi_last hl c2 m1) sameSt.rfl')
 rw [if_neg (by simpa using c2)]
 refine wpS_bind (wpS_get ?_)
 have tot:∀ {out:Array Keyed} {ia ib:Nat},MInv lt a b out ia ib→ia + ib < a.size + b.size:=fun h=>by have:=h.ha; have:=h.hb; omega
 refine wpS_bind (wpS_mono (wpS_forRange
  (I:=fun k c st'=>sameSt st st'∧∃ out ia ib mg,c = (none,out,ia,ib,mg)∧MInv lt a b out ia ib∧k < ia + ib)
  (Q:=fun c st'=>sameSt st st'∧∃ r rest,c = (some r,rest)∧MDone lt (a.toList ++ b.toList) r.toList) ?step ?fin ⟨sameSt.rfl',#[y0],0,1,_,rfl,⟨m1,by omega,by omega⟩,by omega⟩) ?post)
 case fin =>
  rintro c st' ⟨hst,out,ia,ib,mg,rfl,hm,hlt⟩
  have:=tot hm
  omega
 case post =>
  rintro c st' ⟨hst,r,rest,rfl,hd⟩
  dsimp only
  exact wpS_pure (q r st' hd hst)
 case step =>
  rintro k c st' _ hkt ⟨hst,out,ia,ib,mg,rfl,hm,hlt⟩
  dsimp only
  refine wpS_bind (wpS_mono (wpS_forRange
   (I:=fun j c st'=>sameSt st st'∧∃ out' ia' ib' ac bc,c = (none,out',ia',ib',ac,bc)∧MInv lt a b out' ia' ib'∧j + (ia + ib) ≤ ia' + ib')
   (Q:=fun c st'=>sameSt st st'∧((∃ r rest,c = (some r,rest)∧MDone lt (a.toList ++ b.toList) r.toList)∨∃ out' ia' ib' ac bc,c = (none,out',ia',ib',ac,bc)∧MInv lt a b out' ia' ib'∧ia + ib < ia' + ib')) ?step1 ?fin1 ⟨hst,out,ia,ib,0,0,rfl,hm,by omega⟩) ?post1)
  case fin1 =>
   rintro c st2 ⟨hst2,out',ia',ib',ac,bc,rfl,hm',hle⟩
   have:=tot hm'
   omega
  case step1 =>
   rintro j c st2 _ hj ⟨hst2,out',ia',ib',ac,bc,rfl,hm',hle⟩
   obtain ⟨y,ey,ey'⟩:=arr_get (a:=b) (i:=ib') hm'.hb
   obtain ⟨x,ex,ex'⟩:=arr_get (a:=a) (i:=ia') (by have:=hm'.ha; omega)
   have Dx:=haD x (List.mem_of_getElem? ex')
   have Dy:=hbD y (List.mem_of_getElem? ey')
   have hk2:kindOf st2 = kd:=hst2.1.trans hk
   dsimp only
   refine wpS_bind (wpS_elem ey (wpS_bind (wpS_elem ex (wpS_bind (O.ask y x st2 _ Dy Dx hk2 ?_)))))
   dsimp only
   cases hlt2:lt y x with
   | true =>
    have ms:=hm'.stepB O haD hbD ha ex' ey' hlt2
    simp only [if_true]
    refine wpS_bind (wpS_elem ey ?_)
    by_cases c3:ib' + 1 = b.size
    ·rw [if_pos (by simpa using c3)]
     exact wpS_pure ⟨hst2,.inl ⟨_,_,rfl,mi_doneB c3 ms⟩⟩
    ·rw [if_neg (by simpa using c3)]
     have hm2:MInv lt a b (out'.push y) ia' (ib' + 1):=⟨ms,hm'.ha,by have:=hm'.hb; omega⟩
     by_cases c4:bc + 1 ≥ mg
     ·rw [if_pos c4]
      exact wpS_pure ⟨hst2,.inr ⟨_,_,_,_,_,rfl,hm2,by omega⟩⟩
     ·rw [if_neg c4]
      exact wpS_pure ⟨hst2,_,_,_,_,_,rfl,hm2,by omega⟩
   | false =>
    have ms:=hm'.stepA O haD hbD hb ex' ey' hlt2
    simp only [Bool.false_eq_true,if_false]
    refine wpS_bind (wpS_elem ex ?_)
    by_cases c3:ia' + 1 + 1 = a.size
    ·rw [if_pos (by simpa using c3)]
     exact wpS_pure ⟨hst2,.inl ⟨_,_,rfl,mi_last hl c3 ms⟩⟩
    ·rw [if_neg (by simpa using c3)]
     have hm2:MInv lt a b (out'.push x) (ia' + 1) ib':=⟨ms,by have:=hm'.ha; omega,hm'.hb⟩
     by_cases c4:ac + 1 ≥ mg
     ·rw [if_pos c4]
      exact wpS_pure ⟨hst2,.inr ⟨_,_,_,_,_,rfl,hm2,by omega⟩⟩
     ·rw [if_neg c4]
      exact wpS_pure ⟨hst2,_,_,_,_,_,rfl,hm2,by omega⟩
  case post1 =>
   rintro c st2 ⟨hst2,hc⟩
   rcases hc with ⟨r,rest,rfl,hd⟩ | ⟨out',ia',ib',ac,bc,rfl,hm',hle⟩
   ·dsimp only
    exact wpS_pure ⟨hst2,_,_,rfl,hd⟩
   ·dsimp only
    refine wpS_bind (wpS_lift (wpAny_rule ⟨rfl,?_⟩))
    refine wpS_bind (wpS_mono (wpS_forRange
     (I:=fun j c st'=>sameSt st st'∧∃ out2 ia2 ib2 mg2 ac2 bc2,c = (none,out2,ia2,ib2,mg2,ac2,bc2)∧MInv lt a b out2 ia2 ib2∧j + (ia' + ib') ≤ ia2 + ib2)
     (Q:=fun c st'=>sameSt st st'∧((∃ r rest,c = (some r,rest)∧MDone lt (a.toList ++ b.toList) r.toList)∨∃ out2 ia2 ib2 mg2 ac2 bc2,c = (none,out2,ia2,ib2,mg2,ac2,bc2)∧MInv lt a b out2 ia2 ib2∧ia' + ib' ≤ ia2 + ib2)) ?step2 ?fin2 ⟨hst2,out',ia',ib',_,_,_,rfl,hm',by omega⟩) ?post2)
    case fin2 =>
     rintro c st3 ⟨hst3,out2,ia2,ib2,mg2,ac2,bc2,rfl,hm2,hle2⟩
     have:=tot hm2
     omega
    case post2 =>
     rintro c st3 ⟨hst3,hc⟩
     rcases hc with ⟨r,rest,rfl,hd⟩ | ⟨out2,ia2,ib2,mg2,ac2,bc2,rfl,hm2,hle2⟩
     ·dsimp only
      exact wpS_pure ⟨hst3,_,_,rfl,hd⟩
     ·dsimp only
      refine wpS_bind (wpS_modify (wpS_pure ⟨⟨hst3.1,hst3.2.1,hst3.2.2.1,hst3.2.2.2⟩,out2,ia2,ib2,_,rfl,hm2,by omega⟩))
    case step2 =>
     rintro j c st3 _ hj ⟨hst3,out2,ia2,ib2,mg2,ac2,bc2,rfl,hm2,hle2⟩
     obtain ⟨y,ey,ey'⟩:=arr_get (a:=b) (i:=ib2) hm2.hb
     have hia2:=hm2.ha
     have hib2:=hm2.hb
     have Dy:=hbD y (List.mem_of_getElem? ey')
     have aD:∀ j,j < a.size→∃ x,a[j]? = some x∧D x:=fun j hj=>by
      obtain ⟨x,e,e'⟩:=arr_get (a:=a) hj
      exact ⟨x,e,haD x (List.mem_of_getElem? e')⟩
     have bD:∀ j,j < b.size→∃ x,b[j]? = some x∧D x:=fun j hj=>by
      obtain ⟨x,e,e'⟩:=arr_get (a:=b) hj
      exact ⟨x,e,hbD x (List.mem_of_getElem? e')⟩
     -- what is told behind both ways of the first test
     dsimp only
     have fin2:∀ (P:Prop) (_:Decidable P) (f g:StateT SortSt Sem (ForInStep (Option (Array Keyed) × Array Keyed × Nat × Nat × Nat × Nat × Nat))) (Q':ForInStep (Option (Array Keyed) × Array Keyed × Nat × Nat × Nat × Nat × Nat)→SortSt→Prop) (st':SortSt),wpS (model prog w) A E s f Q' st'→wpS (model prog w) A E s g Q' st'→wpS (model prog w) A E s (if P then f else g) Q' st':=fun P _ f g Q' st' h1 h2=>by
      split
      ·exact h1
      ·exact h2
     refine fin3 (C:=?C3) ?f3 ?g3 ?h3
     case f3=>intro h; generalize mg2 - 1 = m0; revert m0; exact h
     case g3=>intro h; generalize mg2 = m0; revert m0; exact h
     intro m0
     all_goals
      refine wpS_bind (wpS_modify ?_)
      refine wpS_bind (wpS_elem ey ?_)
      refine wpS_bind (gal O (hst3.1.trans hk) Dy (fun j h1 h2=>aD j (by omega)) (fun i j x z h1 h2 h3 e1 e2=>srt_get O ha haD h2 (arr_of.mp e1) (arr_of.mp e2)) (by omega) fun k1 hk1 g1 g2=>?_)
      dsimp only
      have hst4:sameSt st st3:=hst3
      -- behind the block of a
      have bl:MI lt (a.toList ++ b.toList) (out2 ++ a.extract ia2 (ia2 + k1)).toList (a.toList.drop (ia2 + k1)) (b.toList.drop ib2):=mi_blockA hm2.mi fun j x h1 h2 e z mz=>by
       have:=g1 j x h1 h2 (arr_of.mpr e)
       obtain ⟨j2,hj2,ez⟩:=mem_drop_get mz
       have l1:lt y x = false:=by simpa [bey] using this
       exact O.tr x y z (haD x (List.mem_of_getElem? e)) Dy (hbD z (List.mem_of_getElem? ez)) l1 (srt_get O hb hbD hj2 ey' ez)
      have gt:∀ x ∈ a.toList.drop (ia2 + k1),lt x y = false:=fun x mx=>by
       obtain ⟨j2,hj2,ex⟩:=mem_drop_get mx
       have hlt3:=(List.getElem?_eq_some_iff.mp ex).1
       have:=g2 j2 x hj2 (by simp at hlt3; omega) (arr_of.mpr ex)
       have l1:lt y x = true:=by simpa [bey] using this
       exact O.asym y x Dy (haD x (List.mem_of_getElem? ex)) l1
      have ez0:k1 = 0→(out2 ++ a.extract ia2 (ia2 + k1)) = out2:=fun z=>by subst z; rw [ext_nil,Array.append_empty]
      -- from here on: outA,iaA
      have go:∀ (outA:Array Keyed) (iaA:Nat) (mgA acA:Nat),MI lt (a.toList ++ b.toList) outA.toList (a.toList.drop iaA) (b.toList.drop ib2)→(∀ x ∈ a.toList.drop iaA,lt x y = false)→ia2 ≤ iaA→iaA + 1 < a.size→True:=fun _ _ _ _ _ _ _ _=>trivial
      by_cases c5:k1 > 0
      ·rw [if_pos c5]
       by_cases c6:ia2 + k1 + 1 = a.size
       ·rw [if_pos (by simpa using c6)]
        exact wpS_pure ⟨hst4,.inl ⟨_,_,rfl,mi_last hl c6 bl⟩⟩
       rw [if_neg (by simpa using c6)]
       by_cases c7:ia2 + k1 = a.size
       ·rw [if_pos (by simpa using c7)]
        exact wpS_pure ⟨hst4,.inl ⟨_,_,rfl,mi_doneA c7 bl⟩⟩
       rw [if_neg (by simpa using c7)]
       refine wpS_bind (wpS_elem ey ?_)
       have mb:=mi_pushB bl ey' gt
       by_cases d1:ib2 + 1 = b.size
       ·rw [if_pos (by simpa using d1)]
        exact wpS_pure ⟨hst4,.inl ⟨_,_,rfl,mi_doneB d1 mb⟩⟩
       rw [if_neg (by simpa using d1)]
       obtain ⟨x,ex,ex'⟩:=arr_get (a:=a) (i:=(ia2 + k1)) (by omega)
       have Dx:=haD x (List.mem_of_getElem? ex')
       refine wpS_bind (wpS_elem ex ?_)
       refine wpS_bind (gal O (hst3.1.trans hk) Dx (fun j h1 h2=>bD j (by omega)) (fun i j x z h1 h2 h3 e1 e2=>srt_get O hb hbD h2 (arr_of.mp e1) (arr_of.mp e2)) (by omega) fun k2 hk2 f1 f2=>?_)
       dsimp only
       have bb:=mi_blockB (k:=k2) mb fun j z h1 h2 e x2 mx2=>by
        have:=f1 j z h1 h2 (arr_of.mpr e)
        obtain ⟨j2,hj2,ex2⟩:=mem_drop_get mx2
        have Dz:=hbD z (List.mem_of_getElem? e)
        have l1:lt z x = true:=by simpa [bey] using this
        exact O.tr z x x2 Dz Dx (haD x2 (List.mem_of_getElem? ex2)) (O.asym z x Dz Dx l1) (srt_get O ha haD hj2 ex' ex2)
       have gb:∀ z ∈ b.toList.drop (ib2 + 1 + k2),lt z x = false:=fun z mz=>by
        obtain ⟨j2,hj2,ez⟩:=mem_drop_get mz
        have hlt3:=(List.getElem?_eq_some_iff.mp ez).1
        have:=f2 j2 z hj2 (by simp at hlt3; omega) (arr_of.mpr ez)
        simpa [bey] using this
       by_cases d2:k2 > 0
       ·rw [if_pos d2]
        by_cases d3:ib2 + 1 + k2 = b.size
        ·rw [if_pos (by simpa using d3)]
         exact wpS_pure ⟨hst4,.inl ⟨_,_,rfl,mi_doneB d3 bb⟩⟩
        rw [if_neg (by simpa using d3)]
        refine wpS_bind (wpS_elem ex ?_)
        have mf:=mi_pushA bb ex' gb
        by_cases d4:(ia2 + k1) + 1 + 1 = a.size
        ·rw [if_pos (by simpa using d4)]
         exact wpS_pure ⟨hst4,.inl ⟨_,_,rfl,mi_last hl d4 mf⟩⟩
        rw [if_neg (by simpa using d4)]
        refine fin2 _ _ _ _ _ _ ?_ ?_
        ·exact wpS_pure ⟨hst4,.inr ⟨_,_,_,_,_,_,rfl,⟨mf,by omega,by omega⟩,by omega⟩⟩
        ·exact wpS_pure ⟨hst4,_,_,_,_,_,_,rfl,⟨mf,by omega,by omega⟩,by omega⟩
       ·rw [if_neg d2]
        have k0':k2 = 0:=by omega
        subst k0'
        have ee:∀ o:Array Keyed,o ++ b.extract (ib2 + 1) (ib2 + 1 + 0) = o:=fun o=>by rw [ext_nil,Array.append_empty]
        rw [ee,Nat.add_zero] at bb
        rw [Nat.add_zero] at gb
        refine wpS_bind (wpS_elem ex ?_)
        have mf:=mi_pushA bb ex' gb
        by_cases d4:(ia2 + k1) + 1 + 1 = a.size
        ·rw [if_pos (by simpa using d4)]
         exact wpS_pure ⟨hst4,.inl ⟨_,_,rfl,mi_last hl d4 mf⟩⟩
        rw [if_neg (by simpa using d4)]
        refine fin2 _ _ _ _ _ _ ?_ ?_
        ·exact wpS_pure ⟨hst4,.inr ⟨_,_,_,_,_,_,rfl,⟨mf,by omega,by omega⟩,by omega⟩⟩
        ·exact wpS_pure ⟨hst4,_,_,_,_,_,_,rfl,⟨mf,by omega,by omega⟩,by omega⟩
      ·rw [if_neg c5]
       have k0:k1 = 0:=by omega
       subst k0
       rw [ez0 rfl,Nat.add_zero] at bl
       rw [Nat.add_zero] at gt
       refine wpS_bind (wpS_elem ey ?_)
       have mb:=mi_pushB bl ey' gt
       by_cases d1:ib2 + 1 = b.size
       ·rw [if_pos (by simpa using d1)]
        exact wpS_pure ⟨hst4,.inl ⟨_,_,rfl,mi_doneB d1 mb⟩⟩
       rw [if_neg (by simpa using d1)]
       obtain ⟨x,ex,ex'⟩:=arr_get (a:=a) (i:=ia2) (by omega)
       have Dx:=haD x (List.mem_of_getElem? ex')
       refine wpS_bind (wpS_elem ex ?_)
       refine wpS_bind (gal O (hst3.1.trans hk) Dx (fun j h1 h2=>bD j (by omega)) (fun i j x z h1 h2 h3 e1 e2=>srt_get O hb hbD h2 (arr_of.mp e1) (arr_of.mp e2)) (by omega) fun k2 hk2 f1 f2=>?_)
       dsimp only
       have bb:=mi_blockB (k:=k2) mb fun j z h1 h2 e x2 mx2=>by
        have:=f1 j z h1 h2 (arr_of.mpr e)
        obtain ⟨j2,hj2,ex2⟩:=mem_drop_get mx2
        have Dz:=hbD z (List.mem_of_getElem? e)
        have l1:lt z x = true:=by simpa [bey] using this
        exact O.tr z x x2 Dz Dx (haD x2 (List.mem_of_getElem? ex2)) (O.asym z x Dz Dx l1) (srt_get O ha haD hj2 ex' ex2)
       have gb:∀ z ∈ b.toList.drop (ib2 + 1 + k2),lt z x = false:=fun z mz=>by
        obtain ⟨j2,hj2,ez⟩:=mem_drop_get mz
        have hlt3:=(List.getElem?_eq_some_iff.mp ez).1
        have:=f2 j2 z hj2 (by simp at hlt3; omega) (arr_of.mpr ez)
        simpa [bey] using this
       by_cases d2:k2 > 0
       ·rw [if_pos d2]
        by_cases d3:ib2 + 1 + k2 = b.size
        ·rw [if_pos (by simpa using d3)]
         exact wpS_pure ⟨hst4,.inl ⟨_,_,rfl,mi_doneB d3 bb⟩⟩
        rw [if_neg (by simpa using d3)]
        refine wpS_bind (wpS_elem ex ?_)
        have mf:=mi_pushA bb ex' gb
        by_cases d4:ia2 + 1 + 1 = a.size
        ·rw [if_pos (by simpa using d4)]
         exact wpS_pure ⟨hst4,.inl ⟨_,_,rfl,mi_last hl d4 mf⟩⟩
        rw [if_neg (by simpa using d4)]
        refine fin2 _ _ _ _ _ _ ?_ ?_
        ·exact wpS_pure ⟨hst4,.inr ⟨_,_,_,_,_,_,rfl,⟨mf,by omega,by omega⟩,by omega⟩⟩
        ·exact wpS_pure ⟨hst4,_,_,_,_,_,_,rfl,⟨mf,by omega,by omega⟩,by omega⟩
       ·rw [if_neg d2]
        have k0':k2 = 0:=by omega
        subst k0'
        have ee:∀ o:Array Keyed,o ++ b.extract (ib2 + 1) (ib2 + 1 + 0) = o:=fun o=>by rw [ext_nil,Array.append_empty]
        rw [ee,Nat.add_zero] at bb
        rw [Nat.add_zero] at gb
        refine wpS_bind (wpS_elem ex ?_)
        have mf:=mi_pushA bb ex' gb
        by_cases d4:ia2 + 1 + 1 = a.size
        ·rw [if_pos (by simpa using d4)]
         exact wpS_pure ⟨hst4,.inl ⟨_,_,rfl,mi_last hl d4 mf⟩⟩
        rw [if_neg (by simpa using d4)]
        refine fin2 _ _ _ _ _ _ ?_ ?_
        ·exact wpS_pure ⟨hst4,.inr ⟨_,_,_,_,_,_,rfl,⟨mf,by omega,by omega⟩,by omega⟩⟩
        ·exact wpS_pure ⟨hst4,_,_,_,_,_,_,rfl,⟨mf,by omega,by omega⟩,by omega⟩
def flt (lt:Keyed→Keyed→Bool):Keyed→Keyed→Bool:=fun x y=>lt y x
theorem MDone.rev {L0 l:List Keyed} (h:MDone (flt lt) L0 l):MDone lt L0 l.reverse:=by
 refine ⟨(List.reverse_perm l).trans h.1,?_⟩
 unfold SrtL
 rw [List.pairwise_reverse]
 exact h.2
theorem take_rev {l:List Keyed} {i:Nat} {x:Keyed} (h:l[i]? = some x):(l.take (i + 1)).reverse = x :: (l.take i).reverse:=by
 rw [List.take_add_one,h]
 simp
theorem mem_take_get {l:List Keyed} {i:Nat} {y:Keyed} (h:y ∈ (l.take i).reverse):∃ j,j < i∧l[j]? = some y:=by
 obtain ⟨j,hj⟩:=List.mem_iff_getElem?.mp (List.mem_reverse.mp h)
 rw [List.getElem?_take] at hj
 split at hj
 ·exact ⟨j,by assumption,hj⟩
 ·cases hj
theorem ext_front (a:Array Keyed) (n:Nat):(a.extract 0 n).toList = a.toList.take n:=by
 rw [Array.toList_extract,List.extract_eq_take_drop]
 simp
theorem srt_rev {l:List Keyed} (h:SrtL lt l) (n:Nat):SrtL (flt lt) (l.take n).reverse:=by
 unfold SrtL
 rw [List.pairwise_reverse]
 exact List.Pairwise.sublist (List.take_sublist n l) h
section
variable {a b out:Array Keyed} {na nb k:Nat} {L0:List Keyed}
theorem hi_pushA (m:MI (flt lt) L0 out.toList (a.toList.take (na + 1)).reverse (b.toList.take nb).reverse) {x:Keyed} (hx:a.toList[na]? = some x) (h:∀ y ∈ (b.toList.take nb).reverse,lt x y = false):MI (flt lt) L0 (out.push x).toList (a.toList.take na).reverse (b.toList.take nb).reverse:=by
 rw [take_rev hx] at m
 have:=m.takeA h
 simpa using this
theorem hi_pushB (m:MI (flt lt) L0 out.toList (a.toList.take na).reverse (b.toList.take (nb + 1)).reverse) {y:Keyed} (hy:b.toList[nb]? = some y) (h:∀ x ∈ (a.toList.take na).reverse,lt y x = false):MI (flt lt) L0 (out.push y).toList (a.toList.take na).reverse (b.toList.take nb).reverse:=by
 rw [take_rev hy] at m
 have:=m.takeB h
 simpa using this
theorem hi_pushA2 {n:Nat} (hn:n = na + 1) (m:MI (flt lt) L0 out.toList (a.toList.take n).reverse (b.toList.take nb).reverse) {x:Keyed} (hx:a.toList[na]? = some x) (h:∀ y ∈ (b.toList.take nb).reverse,lt x y = false):MI (flt lt) L0 (out.push x).toList (a.toList.take na).reverse (b.toList.take nb).reverse:=by
 subst hn
 exact hi_pushA m hx h
theorem hi_pushB2 {n:Nat} (hn:n = nb + 1) (m:MI (flt lt) L0 out.toList (a.toList.take na).reverse (b.toList.take n).reverse) {y:Keyed} (hy:b.toList[nb]? = some y) (h:∀ x ∈ (a.toList.take na).reverse,lt y x = false):MI (flt lt) L0 (out.push y).toList (a.toList.take na).reverse (b.toList.take nb).reverse:=by
 subst hn
 exact hi_pushB m hy h
theorem take_split {l:List Keyed} {i n:Nat} (h:i ≤ n):(l.take n).reverse = ((l.drop i).take (n - i)).reverse ++ (l.take i).reverse:=by
 rw [← List.reverse_append]
 congr 1
 have:=List.take_add (l:=l) (i:=i) (j:=n - i)
 rw [show i + (n - i) = n by omega] at this
 exact this
theorem ext_mid (a:Array Keyed) {i n:Nat} (h:i ≤ n):(a.extract i n).reverse.toList = ((a.toList.drop i).take (n - i)).reverse:=by
 rw [Array.toList_reverse,Array.toList_extract,List.extract_eq_take_drop]
theorem hi_blockA (m:MI (flt lt) L0 out.toList (a.toList.take na).reverse (b.toList.take nb).reverse) (hk:k ≤ na) (h:∀ j x,k ≤ j→j < na→a.toList[j]? = some x→∀ y ∈ (b.toList.take nb).reverse,lt x y = false):MI (flt lt) L0 (out ++ (a.extract k na).reverse).toList (a.toList.take k).reverse (b.toList.take nb).reverse:=by
 rw [Array.toList_append,ext_mid a hk]
 rw [take_split hk] at m
 refine MI.takesA m fun x mx y my=>?_
 obtain ⟨j,h1,h2,e⟩:=mem_take_drop (List.mem_reverse.mp mx)
 exact h j x h1 (by omega) e y my
theorem hi_blockB (m:MI (flt lt) L0 out.toList (a.toList.take na).reverse (b.toList.take nb).reverse) (hk:k ≤ nb) (h:∀ j y,k ≤ j→j < nb→b.toList[j]? = some y→∀ x ∈ (a.toList.take na).reverse,lt y x = false):MI (flt lt) L0 (out ++ (b.extract k nb).reverse).toList (a.toList.take na).reverse (b.toList.take k).reverse:=by
 rw [Array.toList_append,ext_mid b hk]
 rw [take_split hk] at m
 refine MI.takesB m fun x mx y my=>?_
 obtain ⟨j,h1,h2,e⟩:=mem_take_drop (List.mem_reverse.mp mx)
 exact h j x h1 (by omega) e y my
theorem hi_doneA (h0:na = 0) (m:MI (flt lt) L0 out.toList (a.toList.take na).reverse (b.toList.take nb).reverse):MDone lt L0 (a.extract 0 na ++ b.extract 0 nb ++ out.reverse).toList:=by
 subst h0
 have h2:MI (flt lt) L0 (out.toList ++ (b.toList.take nb).reverse) [] []:=MI.takesB (B:=[]) (by simpa using m) (fun y my x mx=>by cases mx)
 have:=h2.doneA.rev
 rw [Array.toList_append,Array.toList_append,ext_front,ext_front,Array.toList_reverse]
 simpa using this
theorem hi_doneB (h0:nb = 0) (m:MI (flt lt) L0 out.toList (a.toList.take na).reverse (b.toList.take nb).reverse):MDone lt L0 (a.extract 0 na ++ b.extract 0 nb ++ out.reverse).toList:=by
 subst h0
 have h1:MI (flt lt) L0 out.toList (a.toList.take na).reverse []:=by simpa using m
 have:=h1.doneA.rev
 rw [Array.toList_append,Array.toList_append,ext_front,ext_front,Array.toList_reverse]
 simpa using this
theorem hi_first (hf:∀ y,b[0]? = some y→∀ x ∈ a.toList,lt x y = false) (h1:nb = 1) (hb1:1 ≤ b.size) (m:MI (flt lt) L0 out.toList (a.toList.take na).reverse (b.toList.take nb).reverse):MDone lt L0 (b.extract 0 nb ++ a.extract 0 na ++ out.reverse).toList:=by
 subst h1
 obtain ⟨y,e1,e2⟩:=arr_get (a:=b) (i:=0) (by omega)
 have ed:(b.toList.take (0 + 1)).reverse = [y]:=by rw [take_rev e2]; simp
 rw [show (1:Nat) = 0 + 1 from rfl,ed] at m
 have h2:MI (flt lt) L0 (out.toList ++ (a.toList.take na).reverse) [] [y]:=MI.takesA (A:=[]) (by simpa using m) fun x mx z mz=>by
  rw [List.mem_singleton.mp mz]
  exact hf y e1 x (List.mem_of_mem_take (List.mem_reverse.mp mx))
 have h3:MI (flt lt) L0 (out.toList ++ (a.toList.take na).reverse ++ [y]) [] []:=MI.takesB (B:=[]) (by simpa using h2) (fun y my x mx=>by cases mx)
 have:=h3.doneA.rev
 have ee:b.toList.take 1 = [y]:=by have:=congrArg List.reverse ed; simpa using this
 rw [Array.toList_append,Array.toList_append,ext_front,ext_front,Array.toList_reverse,ee]
 simpa using this
end
structure HInv (lt:Keyed→Keyed→Bool) (a b out:Array Keyed) (na nb:Nat):Prop where
 mi:MI (flt lt) (a.toList ++ b.toList) out.toList (a.toList.take na).reverse (b.toList.take nb).reverse
 a0:0 < na
 a1:na ≤ a.size
 b0:1 < nb
 b1:nb ≤ b.size
theorem wpS_mergeHi (O:LtOk prog w A E s kd D lt) {a b:Array Keyed} {Q:Array Keyed→SortSt→Prop} {st:SortSt} (hk:kindOf st = kd) (haD:∀ x ∈ a.toList,D x) (hbD:∀ x ∈ b.toList,D x) (ha:SrtL lt a.toList) (hb:SrtL lt b.toList) (ha1:1 ≤ a.size) (hb1:1 ≤ b.size)
  (h0:∀ y,b[0]? = some y→∀ x ∈ a.toList,lt x y = false) (hl:∀ x,a[a.size - 1]? = some x→∀ y ∈ b.toList,lt x y = false)
  (q:∀ (out:Array Keyed) st',MDone lt (a.toList ++ b.toList) out.toList→sameSt st st'→Q out st'):wpS (model prog w) A E s (mergeHiS a b) Q st:=by
 refine wpS_bind (wpS_lift (wpAny_rule ⟨rfl,?_⟩))
 obtain ⟨x0,ex0,ex0'⟩:=arr_get (a:=a) (i:=a.size - 1) (by omega)
 refine wpS_bind (wpS_elem ex0 ?_)
 dsimp only
 have fin2:∀ {τ:Type} (P:Prop) (_:Decidable P) (f g:StateT SortSt Sem τ) (Q':τ→SortSt→Prop) (st':SortSt),wpS (model prog w) A E s f Q' st'→wpS (model prog w) A E s g Q' st'→wpS (model prog w) A E s (if P then f else g) Q' st':=fun P _ f g Q' st' h1 h2=>by
  split
  ·exact h1
  ·exact h2
 have ta:a.toList.take a.size = a.toList:=List.take_of_length_le (by simp)
 have tb:b.toList.take b.size = b.toList:=List.take_of_length_le (by simp)
 have m0:MI (flt lt) (a.toList ++ b.toList) (#[]:Array Keyed).toList (a.toList.take a.size).reverse (b.toList.take b.size).reverse:=by
  refine ⟨?_,List.Pairwise.nil,(fun x m=>by cases m),srt_rev ha _,srt_rev hb _⟩
  rw [ta,tb]
  exact (List.reverse_perm _).append (List.reverse_perm _)
 have m1:MI (flt lt) (a.toList ++ b.toList) (#[x0]:Array Keyed).toList (a.toList.take (a.size - 1)).reverse (b.toList.take b.size).reverse:=by
  have m2:=m0
  rw [show a.size = a.size - 1 + 1 by omega] at m2
  have:=hi_pushA m2 ex0' fun y my=>hl x0 ex0 y (List.mem_of_mem_take (List.mem_reverse.mp my))
  simpa using this
 by_cases c1:a.size - 1 = 0
 ·rw [if_pos (by simpa using c1)]
  exact wpS_pure (q _ _ (hi_doneA c1 m1) sameSt.rfl')
 rw [if_neg (by simpa using c1)]
 by_cases c2:b.size = 1
 ·rw [if_pos (by simpa using c2)]
  exact wpS_pure (q _ _ (hi_first h0 c2 hb1 m1) sameSt.rfl')
 rw [if_neg (by simpa using c2)]
 refine wpS_bind (wpS_get ?_)
 refine wpS_bind (wpS_mono (wpS_forRange (a:=0)
  (I:=fun k c st'=>sameSt st st'∧∃ out na nb mg,c = (none,na,nb,out,mg)∧HInv lt a b out na nb∧na + nb + k < a.size + b.size)
  (Q:=fun c st'=>sameSt st st'∧∃ (r:Array Keyed),∃ rest,c = (some r,rest)∧MDone lt (a.toList ++ b.toList) r.toList) ?step ?fin ⟨sameSt.rfl',#[x0],a.size - 1,b.size,_,rfl,⟨m1,by omega,by omega,by omega,by omega⟩,by omega⟩) ?post)
 case fin =>
  rintro c st' ⟨hst,out,na,nb,mg,rfl,hm,hlt⟩
  omega
 case post =>
  rintro c st' ⟨hst,r,rest,rfl,hd⟩
  dsimp only
  exact wpS_pure (q r st' hd hst)
 case step =>
  rintro k c st' _ hkt ⟨hst,out,na,nb,mg,rfl,hm,hlt⟩
  dsimp only
  refine wpS_bind (wpS_mono (wpS_forRange (a:=0)
   (I:=fun j c st'=>sameSt st st'∧∃ out' na' nb' ac bc,c = (none,na',nb',out',ac,bc)∧HInv lt a b out' na' nb'∧na' + nb' + j ≤ na + nb)
   (Q:=fun c st'=>sameSt st st'∧((∃ (r:Array Keyed),∃ rest,c = (some r,rest)∧MDone lt (a.toList ++ b.toList) r.toList)∨∃ out' na' nb' ac bc,c = (none,na',nb',out',ac,bc)∧HInv lt a b out' na' nb'∧na' + nb' < na + nb)) ?step1 ?fin1 ⟨hst,out,na,nb,0,0,rfl,hm,by omega⟩) ?post1)
  case fin1 =>
   rintro c st2 ⟨hst2,out',na',nb',ac,bc,rfl,hm',hle⟩
   have:=hm'.a0
   omega
  case step1 =>
   rintro j c st2 _ hj ⟨hst2,out',na',nb',ac,bc,rfl,hm',hle⟩
   have z1:=hm'.a0
   have z2:=hm'.a1
   have z3:=hm'.b0
   have z4:=hm'.b1
   obtain ⟨y,ey,ey'⟩:=arr_get (a:=b) (i:=nb' - 1) (by omega)
   obtain ⟨x,ex,ex'⟩:=arr_get (a:=a) (i:=na' - 1) (by omega)
   have Dx:=haD x (List.mem_of_getElem? ex')
   have Dy:=hbD y (List.mem_of_getElem? ey')
   have hk2:kindOf st2 = kd:=hst2.1.trans hk
   have mm:=hm'.mi
   dsimp only
   refine wpS_bind (wpS_elem ey (wpS_bind (wpS_elem ex (wpS_bind (O.ask y x st2 _ Dy Dx hk2 ?_)))))
   dsimp only
   cases hlt2:lt y x with
   | true =>
    have ms:MI (flt lt) (a.toList ++ b.toList) (out'.push x).toList (a.toList.take (na' - 1)).reverse (b.toList.take nb').reverse:=by
     rw [show na' = na' - 1 + 1 by omega] at mm
     exact hi_pushA mm ex' fun z mz=>by
      obtain ⟨j2,hj2,ez⟩:=mem_take_get mz
      exact O.tr z y x (hbD z (List.mem_of_getElem? ez)) Dy Dx (srt_get O hb hbD (by omega) ez ey') (O.asym y x Dy Dx hlt2)
    simp only [if_true]
    refine wpS_bind (wpS_elem ex ?_)
    by_cases c3:na' - 1 = 0
    ·rw [if_pos (by simpa using c3)]
     exact wpS_pure ⟨hst2,.inl ⟨_,_,rfl,hi_doneA c3 ms⟩⟩
    ·rw [if_neg (by simpa using c3)]
     have hm2:HInv lt a b (out'.push x) (na' - 1) nb':=⟨ms,by omega,by omega,z3,z4⟩
     refine fin2 _ _ _ _ _ _ ?_ ?_
     ·exact wpS_pure ⟨hst2,.inr ⟨_,_,_,_,_,rfl,hm2,by omega⟩⟩
     ·exact wpS_pure ⟨hst2,_,_,_,_,_,rfl,hm2,by omega⟩
   | false =>
    have ms:MI (flt lt) (a.toList ++ b.toList) (out'.push y).toList (a.toList.take na').reverse (b.toList.take (nb' - 1)).reverse:=by
     rw [show nb' = nb' - 1 + 1 by omega] at mm
     exact hi_pushB mm ey' fun z mz=>by
      obtain ⟨j2,hj2,ez⟩:=mem_take_get mz
      exact O.tr z x y (haD z (List.mem_of_getElem? ez)) Dx Dy (srt_get O ha haD (by omega) ez ex') hlt2
    simp only [Bool.false_eq_true,if_false]
    refine wpS_bind (wpS_elem ey ?_)
    by_cases c3:nb' - 1 = 1
    ·rw [if_pos (by simpa using c3)]
     exact wpS_pure ⟨hst2,.inl ⟨_,_,rfl,hi_first h0 c3 hb1 ms⟩⟩
    ·rw [if_neg (by simpa using c3)]
     have hm2:HInv lt a b (out'.push y) na' (nb' - 1):=⟨ms,z1,z2,by omega,by omega⟩
     refine fin2 _ _ _ _ _ _ ?_ ?_
     ·exact wpS_pure ⟨hst2,.inr ⟨_,_,_,_,_,rfl,hm2,by omega⟩⟩
     ·exact wpS_pure ⟨hst2,_,_,_,_,_,rfl,hm2,by omega⟩
  case post1 =>
   rintro c st2 ⟨hst2,hc⟩
   rcases hc with ⟨r,rest,rfl,hd⟩ | ⟨out',na',nb',ac,bc,rfl,hm',hle⟩
   ·dsimp only
    exact wpS_pure ⟨hst2,_,_,rfl,hd⟩
   ·dsimp only
    refine wpS_bind (wpS_lift (wpAny_rule ⟨rfl,?_⟩))
    refine wpS_bind (wpS_mono (wpS_forRange (a:=0)
     (I:=fun j c st'=>sameSt st st'∧∃ out2 na2 nb2 mg2 ac2 bc2,c = (none,na2,nb2,out2,mg2,ac2,bc2)∧HInv lt a b out2 na2 nb2∧na2 + nb2 + j ≤ na' + nb')
     (Q:=fun c st'=>sameSt st st'∧((∃ (r:Array Keyed),∃ rest,c = (some r,rest)∧MDone lt (a.toList ++ b.toList) r.toList)∨∃ out2 na2 nb2 mg2 ac2 bc2,c = (none,na2,nb2,out2,mg2,ac2,bc2)∧HInv lt a b out2 na2 nb2∧na2 + nb2 ≤ na' + nb')) ?step2 ?fin2 ⟨hst2,out',na',nb',_,_,_,rfl,hm',by omega⟩) ?post2)
    case fin2 =>
     rintro c st3 ⟨hst3,out2,na2,nb2,mg2,ac2,bc2,rfl,hm2,hle2⟩
     have:=hm2.a0
     have:=hm'.a1
     have:=hm'.b1
     omega
    case post2 =>
     rintro c st3 ⟨hst3,hc⟩
     rcases hc with ⟨r,rest,rfl,hd⟩ | ⟨out2,na2,nb2,mg2,ac2,bc2,rfl,hm2,hle2⟩
     ·dsimp only
      exact wpS_pure ⟨hst3,_,_,rfl,hd⟩
     ·dsimp only
      refine wpS_bind (wpS_modify (wpS_pure ⟨⟨hst3.1,hst3.2.1,hst3.2.2.1,hst3.2.2.2⟩,out2,na2,nb2,_,rfl,hm2,by omega⟩))
    case step2 =>
     rintro j c st3 _ hj ⟨hst3,out2,na2,nb2,mg2,ac2,bc2,rfl,hm2,hle2⟩
     have z1:=hm2.a0
     have z2:=hm2.a1
     have z3:=hm2.b0
     have z4:=hm2.b1
     obtain ⟨y,ey,ey'⟩:=arr_get (a:=b) (i:=nb2 - 1) (by omega)
     have Dy:=hbD y (List.mem_of_getElem? ey')
     have aD:∀ j,j < a.size→∃ x,a[j]? = some x∧D x:=fun j hj=>by
      obtain ⟨x,e,e'⟩:=arr_get (a:=a) hj
      exact ⟨x,e,haD x (List.mem_of_getElem? e')⟩
     have bD:∀ j,j < b.size→∃ x,b[j]? = some x∧D x:=fun j hj=>by
      obtain ⟨x,e,e'⟩:=arr_get (a:=b) hj
      exact ⟨x,e,hbD x (List.mem_of_getElem? e')⟩
     dsimp only
     refine fin3 (C:=?C3) ?f3 ?g3 ?h3
     case f3=>intro h; generalize mg2 - 1 = m0; revert m0; exact h
     case g3=>intro h; generalize mg2 = m0; revert m0; exact h
     intro m0
     all_goals
      refine wpS_bind (wpS_modify ?_)
      refine wpS_bind (wpS_elem ey ?_)
      refine wpS_bind (gal O (hst3.1.trans hk) Dy (fun j h1 h2=>aD j (by omega)) (fun i j x z h1 h2 h3 e1 e2=>srt_get O ha haD h2 (arr_of.mp e1) (arr_of.mp e2)) (by omega) fun k1 hk1 g1 g2=>?_)
      dsimp only
      have hst4:sameSt st st3:=hst3
      have bl:MI (flt lt) (a.toList ++ b.toList) (out2 ++ (a.extract k1 na2).reverse).toList (a.toList.take k1).reverse (b.toList.take nb2).reverse:=hi_blockA hm2.mi hk1 fun j x h1 h2 e z mz=>by
       have:=g2 j x (by omega) (by omega) (arr_of.mpr e)
       obtain ⟨j2,hj2,ez⟩:=mem_take_get mz
       have Dx:=haD x (List.mem_of_getElem? e)
       have l1:lt y x = true:=by simpa [bey] using this
       exact O.tr z y x (hbD z (List.mem_of_getElem? ez)) Dy Dx (srt_get O hb hbD (by omega) ez ey') (O.asym y x Dy Dx l1)
      have gt:∀ x ∈ (a.toList.take k1).reverse,lt y x = false:=fun x mx=>by
       obtain ⟨j2,hj2,ex⟩:=mem_take_get mx
       have:=g1 j2 x (by omega) (by omega) (arr_of.mpr ex)
       simpa [bey] using this
      by_cases c5:na2 - k1 > 0
      ·rw [if_pos c5]
       by_cases c6:k1 = 0
       ·rw [if_pos (by simpa using c6)]
        exact wpS_pure ⟨hst4,.inl ⟨_,_,rfl,hi_doneA c6 bl⟩⟩
       rw [if_neg (by simpa using c6)]
       refine wpS_bind (wpS_elem ey ?_)
       have mb:MI (flt lt) (a.toList ++ b.toList) ((out2 ++ (a.extract k1 na2).reverse).push y).toList (a.toList.take k1).reverse (b.toList.take (nb2 - 1)).reverse:=hi_pushB2 (by omega) bl ey' gt
       by_cases d1:nb2 - 1 = 1
       ·rw [if_pos (by simpa using d1)]
        exact wpS_pure ⟨hst4,.inl ⟨_,_,rfl,hi_first h0 d1 hb1 mb⟩⟩
       rw [if_neg (by simpa using d1)]
       obtain ⟨x,ex,ex'⟩:=arr_get (a:=a) (i:=k1 - 1) (by omega)
       have Dx:=haD x (List.mem_of_getElem? ex')
       refine wpS_bind (wpS_elem ex ?_)
       refine wpS_bind (gal O (hst3.1.trans hk) Dx (fun j h1 h2=>bD j (by omega)) (fun i j x z h1 h2 h3 e1 e2=>srt_get O hb hbD h2 (arr_of.mp e1) (arr_of.mp e2)) (by omega) fun k2 hk2 f1 f2=>?_)
       dsimp only
       have bb:=hi_blockB (k:=k2) mb hk2 fun j z h1 h2 e x2 mx2=>by
        have:=f2 j z (by omega) (by omega) (arr_of.mpr e)
        obtain ⟨j2,hj2,ex2⟩:=mem_take_get mx2
        have Dz:=hbD z (List.mem_of_getElem? e)
        have l1:lt z x = false:=by simpa [bey] using this
        exact O.tr x2 x z (haD x2 (List.mem_of_getElem? ex2)) Dx Dz (srt_get O ha haD (by omega) ex2 ex') l1
       have gb:∀ z ∈ (b.toList.take k2).reverse,lt x z = false:=fun z mz=>by
        obtain ⟨j2,hj2,ez⟩:=mem_take_get mz
        have:=f1 j2 z (by omega) (by omega) (arr_of.mpr ez)
        have l1:lt z x = true:=by simpa [bey] using this
        exact O.asym z x (hbD z (List.mem_of_getElem? ez)) Dx l1
       by_cases d2:nb2 - 1 - k2 > 0
       ·rw [if_pos d2]
        by_cases d3:k2 = 1
        ·rw [if_pos (by simpa using d3)]
         exact wpS_pure ⟨hst4,.inl ⟨_,_,rfl,hi_first h0 d3 hb1 bb⟩⟩
        rw [if_neg (by simpa using d3)]
        by_cases d5:k2 = 0
        ·rw [if_pos (by simpa using d5)]
         exact wpS_pure ⟨hst4,.inl ⟨_,_,rfl,hi_doneB d5 bb⟩⟩
        rw [if_neg (by simpa using d5)]
        refine wpS_bind (wpS_elem ex ?_)
        have mf:MI (flt lt) (a.toList ++ b.toList) (((out2 ++ (a.extract k1 na2).reverse).push y ++ (b.extract k2 (nb2 - 1)).reverse).push x).toList (a.toList.take (k1 - 1)).reverse (b.toList.take k2).reverse:=hi_pushA2 (by omega) bb ex' gb
        by_cases d4:k1 - 1 = 0
        ·rw [if_pos (by simpa using d4)]
         exact wpS_pure ⟨hst4,.inl ⟨_,_,rfl,hi_doneA d4 mf⟩⟩
        rw [if_neg (by simpa using d4)]
        refine fin2 _ _ _ _ _ _ ?_ ?_
        ·exact wpS_pure ⟨hst4,.inr ⟨_,_,_,_,_,_,rfl,⟨mf,by omega,by omega,by omega,by omega⟩,by omega⟩⟩
        ·exact wpS_pure ⟨hst4,_,_,_,_,_,_,rfl,⟨mf,by omega,by omega,by omega,by omega⟩,by omega⟩
       ·rw [if_neg d2]
        have k0':k2 = nb2 - 1:=by omega
        subst k0'
        have ee:∀ o:Array Keyed,o ++ (b.extract (nb2 - 1) (nb2 - 1)).reverse = o:=fun o=>by
         have:b.extract (nb2 - 1) (nb2 - 1 + 0) = #[]:=ext_nil b _
         rw [Nat.add_zero] at this
         rw [this]
         simp
        rw [ee] at bb
        refine wpS_bind (wpS_elem ex ?_)
        have mf:MI (flt lt) (a.toList ++ b.toList) (((out2 ++ (a.extract k1 na2).reverse).push y).push x).toList (a.toList.take (k1 - 1)).reverse (b.toList.take (nb2 - 1)).reverse:=hi_pushA2 (by omega) bb ex' gb
        by_cases d4:k1 - 1 = 0
        ·rw [if_pos (by simpa using d4)]
         exact wpS_pure ⟨hst4,.inl ⟨_,_,rfl,hi_doneA d4 mf⟩⟩
        rw [if_neg (by simpa using d4)]
        refine fin2 _ _ _ _ _ _ ?_ ?_
        ·exact wpS_pure ⟨hst4,.inr ⟨_,_,_,_,_,_,rfl,⟨mf,by omega,by omega,by omega,by omega⟩,by omega⟩⟩
        ·exact wpS_pure ⟨hst4,_,_,_,_,_,_,rfl,⟨mf,by omega,by omega,by omega,by omega⟩,by omega⟩
      ·rw [if_neg c5]
       have k0:k1 = na2:=by omega
       subst k0
       have ez0:∀ o:Array Keyed,o ++ (a.extract k1 k1).reverse = o:=fun o=>by
        have:a.extract k1 (k1 + 0) = #[]:=ext_nil a k1
        rw [Nat.add_zero] at this
        rw [this]
        simp
       rw [ez0] at bl
       refine wpS_bind (wpS_elem ey ?_)
       have mb:MI (flt lt) (a.toList ++ b.toList) (out2.push y).toList (a.toList.take k1).reverse (b.toList.take (nb2 - 1)).reverse:=hi_pushB2 (by omega) bl ey' gt
       by_cases d1:nb2 - 1 = 1
       ·rw [if_pos (by simpa using d1)]
        exact wpS_pure ⟨hst4,.inl ⟨_,_,rfl,hi_first h0 d1 hb1 mb⟩⟩
       rw [if_neg (by simpa using d1)]
       obtain ⟨x,ex,ex'⟩:=arr_get (a:=a) (i:=k1 - 1) (by omega)
       have Dx:=haD x (List.mem_of_getElem? ex')
       refine wpS_bind (wpS_elem ex ?_)
       refine wpS_bind (gal O (hst3.1.trans hk) Dx (fun j h1 h2=>bD j (by omega)) (fun i j x z h1 h2 h3 e1 e2=>srt_get O hb hbD h2 (arr_of.mp e1) (arr_of.mp e2)) (by omega) fun k2 hk2 f1 f2=>?_)
       dsimp only
       have bb:=hi_blockB (k:=k2) mb hk2 fun j z h1 h2 e x2 mx2=>by
        have:=f2 j z (by omega) (by omega) (arr_of.mpr e)
        obtain ⟨j2,hj2,ex2⟩:=mem_take_get mx2
        have Dz:=hbD z (List.mem_of_getElem? e)
        have l1:lt z x = false:=by simpa [bey] using this
        exact O.tr x2 x z (haD x2 (List.mem_of_getElem? ex2)) Dx Dz (srt_get O ha haD (by omega) ex2 ex') l1
       have gb:∀ z ∈ (b.toList.take k2).reverse,lt x z = false:=fun z mz=>by
        obtain ⟨j2,hj2,ez⟩:=mem_take_get mz
        have:=f1 j2 z (by omega) (by omega) (arr_of.mpr ez)
        have l1:lt z x = true:=by simpa [bey] using this
        exact O.asym z x (hbD z (List.mem_of_getElem? ez)) Dx l1
       by_cases d2:nb2 - 1 - k2 > 0
       ·rw [if_pos d2]
        by_cases d3:k2 = 1
        ·rw [if_pos (by simpa using d3)]
         exact wpS_pure ⟨hst4,.inl ⟨_,_,rfl,hi_first h0 d3 hb1 bb⟩⟩
        rw [if_neg (by simpa using d3)]
        by_cases d5:k2 = 0
        ·rw [if_pos (by simpa using d5)]
         exact wpS_pure ⟨hst4,.inl ⟨_,_,rfl,hi_doneB d5 bb⟩⟩
        rw [if_neg (by simpa using d5)]
        refine wpS_bind (wpS_elem ex ?_)
        have mf:MI (flt lt) (a.toList ++ b.toList) ((out2.push y ++ (b.extract k2 (nb2 - 1)).reverse).push x).toList (a.toList.take (k1 - 1)).reverse (b.toList.take k2).reverse:=hi_pushA2 (by omega) bb ex' gb
        by_cases d4:k1 - 1 = 0
        ·rw [if_pos (by simpa using d4)]
         exact wpS_pure ⟨hst4,.inl ⟨_,_,rfl,hi_doneA d4 mf⟩⟩
        rw [if_neg (by simpa using d4)]
        refine fin2 _ _ _ _ _ _ ?_ ?_
        ·exact wpS_pure ⟨hst4,.inr ⟨_,_,_,_,_,_,rfl,⟨mf,by omega,by omega,by omega,by omega⟩,by omega⟩⟩
        ·exact wpS_pure ⟨hst4,_,_,_,_,_,_,rfl,⟨mf,by omega,by omega,by omega,by omega⟩,by omega⟩
       ·rw [if_neg d2]
        have k0':k2 = nb2 - 1:=by omega
        subst k0'
        have ee:∀ o:Array Keyed,o ++ (b.extract (nb2 - 1) (nb2 - 1)).reverse = o:=fun o=>by
         have:b.extract (nb2 - 1) (nb2 - 1 + 0) = #[]:=ext_nil b _
         rw [Nat.add_zero] at this
         rw [this]
         simp
        rw [ee] at bb
        refine wpS_bind (wpS_elem ex ?_)
        have mf:MI (flt lt) (a.toList ++ b.toList) ((out2.push y).push x).toList (a.toList.take (k1 - 1)).reverse (b.toList.take (nb2 - 1)).reverse:=hi_pushA2 (by omega) bb ex' gb
        by_cases d4:k1 - 1 = 0
        ·rw [if_pos (by simpa using d4)]
         exact wpS_pure ⟨hst4,.inl ⟨_,_,rfl,hi_doneA d4 mf⟩⟩
        rw [if_neg (by simpa using d4)]
        refine fin2 _ _ _ _ _ _ ?_ ?_
        ·exact wpS_pure ⟨hst4,.inr ⟨_,_,_,_,_,_,rfl,⟨mf,by omega,by omega,by omega,by omega⟩,by omega⟩⟩
        ·exact wpS_pure ⟨hst4,_,_,_,_,_,_,rfl,⟨mf,by omega,by omega,by omega,by omega⟩,by omega⟩
def G (xs:Array Keyed) (i:Nat):Keyed:=(xs[i]?).getD (.none,.none)
theorem G_at {xs:Array Keyed} {i:Nat} (h:i < xs.size):xs[i]? = some (G xs i):=by unfold G; simp [h]
def Sg (lt:Keyed→Keyed→Bool) (xs:Array Keyed) (lo hi:Nat):Prop:=∀ i j,lo ≤ i→i ≤ j→j < hi→lt (G xs j) (G xs i) = false
structure Tb (kd:SortKind) (D:Keyed→Prop) (a₀:Array Keyed) (lo:Nat) (st0 st:SortSt):Prop where
 kd:kindOf st = kd
 fl:failedOf st = none
 pm:(arrOf st).Perm a₀
 pe:pendingOf st = pendingOf st0
 lo:∀ i,i < lo→G (arrOf st) i = G (arrOf st0) i
 d:∀ x ∈ a₀.toList,D x
section
variable {a₀:Array Keyed} {lo:Nat} {st0 st st':SortSt}
theorem Tb.size (h:Tb kd D a₀ lo st0 st):(arrOf st).size = a₀.size:=h.pm.size_eq
theorem Tb.at (h:Tb kd D a₀ lo st0 st) {i:Nat} (hi:i < a₀.size):(arrOf st)[i]? = some (G (arrOf st) i):=G_at (by rw [h.size]; exact hi)
theorem Tb.dd (h:Tb kd D a₀ lo st0 st) {i:Nat} (hi:i < a₀.size):D (G (arrOf st) i):=by
 have e:=h.at hi
 have m:G (arrOf st) i ∈ (arrOf st).toList:=List.mem_of_getElem? (by rw [← arr_of]; exact e)
 exact h.d _ ((Array.perm_iff_toList_perm.mp h.pm).mem_iff.mp m)
theorem wpS_ltG (O:LtOk prog w A E s kd D lt) (h:Tb kd D a₀ lo st0 st) {i j:Nat} {Q:Option Bool→SortSt→Prop} (hi:i < a₀.size) (hj:j < a₀.size) (q:Q (some (lt (G (arrOf st) i) (G (arrOf st) j))) st):wpS (model prog w) A E s (ltAt' i j) Q st:=by
 rw [ltAt'_eq]
 refine wpS_bind (wpS_get ?_)
 refine wpS_bind (wpS_elem (h.at hi) (wpS_bind (wpS_elem (h.at hj) ?_)))
 exact O.ask _ _ _ _ (h.dd hi) (h.dd hj) h.kd q
theorem G_mirror {xs:Array Keyed} {i j k:Nat} (hj:j ≤ xs.size):G (mirror xs i j ((j - i) / 2)) k = if i ≤ k∧k < j then G xs (i + j - 1 - k) else G xs k:=by
 unfold G
 rw [getElem?_mirror_all hj]
 split <;> rfl
theorem G_bubble {xs:Array Keyed} {src d k:Nat} (hs:src < xs.size) (hd:d ≤ src):G (bubble xs src d) k = if k = src - d then G xs src else if src - d < k∧k ≤ src then G xs (k - 1) else G xs k:=by
 unfold G
 rw [getElem?_bubble hs d hd]
 split
 ·rfl
 ·split <;> rfl
theorem Tb.mirror (h:Tb kd D a₀ lo st0 st) {i j:Nat} (hi:lo ≤ i) (hj:j ≤ a₀.size):Tb kd D a₀ lo st0 (setArr st (mirror (arrOf st) i j ((j - i) / 2))):=by
 refine ⟨h.kd,h.fl,(mirror_perm _ _ _ _).trans h.pm,h.pe,fun k hk=>?_,h.d⟩
 show G (PyProof.Rows.mirror (arrOf st) i j ((j - i) / 2)) k = _
 rw [G_mirror (by rw [h.size]; exact hj),if_neg (by omega)]
 exact h.lo k hk
theorem Tb.bubble (h:Tb kd D a₀ lo st0 st) {src d:Nat} (hs:src < a₀.size) (hd:d ≤ src) (hl:lo ≤ src - d):Tb kd D a₀ lo st0 (setArr st (bubble (arrOf st) src d)):=by
 refine ⟨h.kd,h.fl,(bubble_perm _ _ _).trans h.pm,h.pe,fun k hk=>?_,h.d⟩
 show G (PyProof.Rows.bubble (arrOf st) src d) k = _
 rw [G_bubble (by rw [h.size]; exact hs) hd,if_neg (by omega),if_neg (by omega)]
 exact h.lo k hk
theorem wpS_rev {i j:Nat} {Q:Unit→SortSt→Prop} (q:Q () (setArr st (mirror (arrOf st) i j ((j - i) / 2)))):wpS (model prog w) A E s (reverseSlice' i j) Q st:=by
 rw [reverseSlice'_eq]
 exact wpS_modify q
theorem Sg.more (O:LtOk prog w A E s kd D lt) (h:Tb kd D a₀ lo st0 st) {l n:Nat} (hn:n < a₀.size) (hl:l < n) (hs:Sg lt (arrOf st) l n) (h1:lt (G (arrOf st) n) (G (arrOf st) (n - 1)) = false):Sg lt (arrOf st) l (n + 1):=fun i j hi hij hj=>by
 by_cases e:j < n
 ·exact hs i j hi hij e
 ·have ej:j = n:=by omega
  subst ej
  by_cases e2:i = j
  ·rw [e2]; exact O.irr (h.dd hn)
  ·exact O.tr _ (G (arrOf st) (j - 1)) _ (h.dd (by omega)) (h.dd (by omega)) (h.dd hn) (hs i (j - 1) hi (by omega) (by omega)) h1
theorem Sg.one (O:LtOk prog w A E s kd D lt) (h:Tb kd D a₀ lo st0 st) {l:Nat} (hn:l < a₀.size):Sg lt (arrOf st) l (l + 1):=fun i j hi hij hj=>by
 have e1:i = l:=by omega
 have e2:j = l:=by omega
 rw [e1,e2]
 exact O.irr (h.dd hn)
def Fg (lt:Keyed→Keyed→Bool) (xs:Array Keyed) (lo hi:Nat):Prop:=∀ i j,lo ≤ i→i ≤ j→j < hi→lt (G xs i) (G xs j) = false
theorem fg_mirror {xs:Array Keyed} {l n:Nat} (hn:n ≤ xs.size) (hs:Fg lt xs l n):Sg lt (mirror xs l n ((n - l) / 2)) l n:=fun i j hi hij hj=>by
 rw [G_mirror hn,G_mirror hn,if_pos (by omega),if_pos (by omega)]
 exact hs _ _ (by omega) (by omega) (by omega)
end
def Eg (lt:Keyed→Keyed→Bool) (xs:Array Keyed) (lo hi:Nat):Prop:=∀ i j,lo ≤ i→i < hi→lo ≤ j→j < hi→lt (G xs i) (G xs j) = false
theorem fg_seg {xs:Array Keyed} {l i n:Nat} (hn:n ≤ xs.size) (hl:l ≤ i) (hf:Fg lt xs l n) (he:Eg lt xs i n):Fg lt (mirror xs i n ((n - i) / 2)) l n:=fun p q hp hpq hq=>by
 rw [G_mirror hn,G_mirror hn]
 by_cases h1:i ≤ p
 ·rw [if_pos (by omega),if_pos (by omega)]
  exact he _ _ (by omega) (by omega) (by omega) (by omega)
 ·rw [if_neg (by omega)]
  by_cases h2:i ≤ q
  ·rw [if_pos (by omega)]
   exact hf _ _ hp (by omega) (by omega)
  ·rw [if_neg (by omega)]
   exact hf p q hp hpq hq
theorem G_mirror_out {xs:Array Keyed} {i n k:Nat} (hn:n ≤ xs.size) (hk:n ≤ k):G (mirror xs i n ((n - i) / 2)) k = G xs k:=by
 rw [G_mirror hn,if_neg (by omega)]
theorem G_mirror_last {xs:Array Keyed} {i n:Nat} (hn:n ≤ xs.size) (hi:i < n):G (mirror xs i n ((n - i) / 2)) (n - 1) = G xs i:=by
 rw [G_mirror hn,if_pos (by omega)]
 congr 1
 omega
theorem fg_less (O:LtOk prog w A E s kd D lt) {a₀:Array Keyed} {lo:Nat} {st0 st:SortSt} (h:Tb kd D a₀ lo st0 st) {l n:Nat} (hn:n < a₀.size) (hl:l < n) (hs:Fg lt (arrOf st) l n) (h1:lt (G (arrOf st) (n - 1)) (G (arrOf st) n) = false):Fg lt (arrOf st) l (n + 1):=fun i j hi hij hj=>by
 by_cases e:j < n
 ·exact hs i j hi hij e
 ·have ej:j = n:=by omega
  subst ej
  by_cases e2:i = j
  ·rw [e2]; exact O.irr (h.dd hn)
  ·exact O.tr _ (G (arrOf st) (j - 1)) _ (h.dd hn) (h.dd (by omega)) (h.dd (by omega)) h1 (hs i (j - 1) hi (by omega) (by omega))
theorem wpS_count (O:LtOk prog w A E s kd D lt) {a₀:Array Keyed} {lo nrem:Nat} {st0 st:SortSt} {Q:Option Nat→SortSt→Prop} (h:Tb kd D a₀ lo st0 st) (hn:lo + nrem ≤ a₀.size) (h1:1 ≤ nrem)
  (q:∀ m st',Tb kd D a₀ lo st0 st'→1 ≤ m→m ≤ nrem→Sg lt (arrOf st') lo (lo + m)→Q (some m) st'):wpS (model prog w) A E s (countRun' lo nrem) Q st:=by
 refine wpS_bind (wpS_mono (wpS_forRange (a:=1)
  (I:=fun k c st'=>st' = st∧c = (none,k)∧Sg lt (arrOf st) lo (lo + k))
  (Q:=fun c st'=>st' = st∧∃ n,c = (none,n)∧1 ≤ n∧n ≤ nrem∧Sg lt (arrOf st) lo (lo + n)∧(n = nrem∨lt (G (arrOf st) (lo + n)) (G (arrOf st) (lo + n - 1)) = true)) ?step ?fin ⟨rfl,rfl,Sg.one O h (by omega)⟩) ?post)
 case fin =>
  rintro c st' ⟨rfl,rfl,hs⟩
  rw [show max 1 nrem = nrem by omega] at hs ⊢
  exact ⟨rfl,nrem,rfl,h1,Nat.le_refl _,hs,.inl rfl⟩
 case step =>
  rintro k c st' hk1 hk2 ⟨rfl,rfl,hs⟩
  dsimp only
  refine wpS_bind (wpS_ltG O h (i:=lo + k) (j:=lo + k - 1) (by omega) (by omega) ?_)
  dsimp only
  cases e:lt (G (arrOf st') (lo + k)) (G (arrOf st') (lo + k - 1)) with
  | true =>
   simp only [if_true]
   exact wpS_pure ⟨rfl,k,rfl,hk1,by omega,hs,.inr e⟩
  | false =>
   simp only [Bool.false_eq_true,if_false]
   refine wpS_pure ⟨rfl,rfl,?_⟩
   exact Sg.more (n:=lo + k) O h (by omega) (by omega) hs e
 case post =>
  rintro c st' ⟨rfl,n,rfl,n1,n2,hs,hor⟩
  dsimp only
  by_cases hnn:n = nrem
  ·rw [if_pos (by simpa using hnn)]
   exact wpS_pure (q n st' h n1 n2 hs)
  rw [if_neg (by simpa using hnn)]
  have hlt:=hor.resolve_left hnn
  by_cases hgt:n > 1
  ·rw [if_pos hgt]
   refine wpS_bind (wpS_ltG O h (i:=lo) (j:=lo + n - 1) (by omega) (by omega) ?_)
   dsimp only
   cases e0:lt (G (arrOf st') lo) (G (arrOf st') (lo + n - 1)) with
   | true =>
    simp only [if_true]
    exact wpS_pure (q n st' h n1 n2 hs)
   | false =>
    simp only [Bool.false_eq_true,if_false]
    have hsz:lo + n ≤ (arrOf st').size:=by rw [h.size]; omega
    have hal:∀ p q,lo ≤ p→p < lo + n→lo ≤ q→q < lo + n→lt (G (arrOf st') p) (G (arrOf st') q) = false:=fun p q p1 p2 q1 q2=>by
     have s1:=hs lo q (Nat.le_refl _) q1 q2
     have s2:=hs p (lo + n - 1) p1 (by omega) (by omega)
     have d0:=h.dd (i:=lo) (by omega)
     have dn:=h.dd (i:=lo + n - 1) (by omega)
     have dp:=h.dd (i:=p) (by omega)
     have dq:=h.dd (i:=q) (by omega)
     have s3:=hs q (lo + n - 1) q1 (by omega) (by omega)
     have s4:=hs lo p (Nat.le_refl _) p1 p2
     by_cases hpq:p ≤ q
     ·-- G p ≤ G last ≤ G lo ≤ G q would want both ways
      exact O.tr _ (G (arrOf st') lo) _ dq d0 dp (O.tr _ (G (arrOf st') (lo + n - 1)) _ dq dn d0 s3 e0) s4
     ·exact hs q p q1 (by omega) p2
    have hT:=h.mirror (i:=lo) (j:=lo + n) (Nat.le_refl _) (by omega)
    have hF:Fg lt (arrOf (setArr st' (mirror (arrOf st') lo (lo + n) ((lo + n - lo) / 2)))) lo (lo + (n + 1)):=by
     have hf0:Fg lt (arrOf st') lo (lo + n):=fun p q p1 pq q2=>hal p q p1 (by omega) (by omega) q2
     have hf1:=fg_seg hsz (Nat.le_refl _) hf0 fun p q p1 p2 q1 q2=>hal p q p1 p2 q1 q2
     refine fg_less (n:=lo + n) O hT (by omega) (by omega) hf1 ?_
     show lt (G (mirror (arrOf st') lo (lo + n) _) (lo + n - 1)) (G (mirror (arrOf st') lo (lo + n) _) (lo + n)) = false
     rw [G_mirror_out hsz (Nat.le_refl _),G_mirror_last hsz (by omega)]
     have d1:=h.dd (i:=lo + n) (by omega)
     have d2:=h.dd (i:=lo + n - 1) (by omega)
     exact O.tr _ _ _ d1 d2 (h.dd (by omega)) (O.asym _ _ d1 d2 hlt) e0
    refine wpS_bind (wpS_rev ?_)
    revert hT hF
    generalize (setArr st' (mirror (arrOf st') lo (lo + n) ((lo + n - lo) / 2))) = stA
    intro hT hF
    refine wpS_bind (wpS_lift (wpAny_rule ⟨rfl,?_⟩))
    refine wpS_bind (wpS_mono (wpS_forRange (a:=n + 1)
     (I:=fun k c st'=>Tb kd D a₀ lo st0 st'∧∃ neq,c = (none,k,neq)∧Fg lt (arrOf st') lo (lo + k)∧neq + 1 ≤ k∧Eg lt (arrOf st') (lo + k - (neq + 1)) (lo + k))
     (Q:=fun c st'=>Tb kd D a₀ lo st0 st'∧∃ m neq,c = (none,m,neq)∧1 ≤ m∧m ≤ nrem∧Fg lt (arrOf st') lo (lo + m)∧neq + 1 ≤ m∧Eg lt (arrOf st') (lo + m - (neq + 1)) (lo + m)) ?step2 ?fin2 ⟨hT,0,rfl,hF,by omega,fun i j h1 h2 h3 h4=>by
      have e1:i = j:=by omega
      rw [e1]
      exact O.irr (hT.dd (by omega))⟩) ?post2)
    case fin2 =>
     rintro c st2 ⟨hT2,neq,rfl,hF2,hq2,hE2⟩
     rw [show max (n + 1) nrem = nrem by omega] at hF2 hq2 hE2 ⊢
     exact ⟨hT2,nrem,neq,rfl,by omega,Nat.le_refl _,hF2,hq2,hE2⟩
    case step2 =>
     rintro k c st2 hk1 hk2 ⟨hT2,neq,rfl,hF2,hq2,hE2⟩
     dsimp only
     refine wpS_bind (wpS_ltG O hT2 (i:=lo + k) (j:=lo + k - 1) (by omega) (by omega) ?_)
     dsimp only
     have hsz:lo + k ≤ (arrOf st2).size:=by rw [hT2.size]; omega
     cases e:lt (G (arrOf st2) (lo + k)) (G (arrOf st2) (lo + k - 1)) with
     | true =>
      simp only [if_true]
      by_cases hq0:neq > 0
      ·rw [if_pos hq0]
       have hT3:=hT2.mirror (i:=lo + k - (neq + 1)) (j:=lo + k) (by omega) (by omega)
       refine wpS_bind (wpS_rev (wpS_pure ⟨hT3,0,rfl,?_,by omega,fun i j h1 h2 h3 h4=>by
        have e1:i = j:=by omega
        rw [e1]
        exact O.irr (hT3.dd (by omega))⟩))
       refine fg_less (n:=lo + k) O hT3 (by omega) (by omega) (fg_seg hsz (by omega) hF2 hE2) ?_
       show lt (G (mirror (arrOf st2) (lo + k - (neq + 1)) (lo + k) _) (lo + k - 1)) (G (mirror (arrOf st2) (lo + k - (neq + 1)) (lo + k) _) (lo + k)) = false
       rw [G_mirror_out hsz (Nat.le_refl _),G_mirror_last hsz (by omega)]
       have d1:=hT2.dd (i:=lo + k) (by omega)
       have d2:=hT2.dd (i:=lo + k - 1) (by omega)
       have d3:=hT2.dd (i:=lo + k - (neq + 1)) (by omega)
       exact O.tr _ _ _ d1 d2 d3 (O.asym _ _ d1 d2 e) (hE2 _ _ (by omega) (by omega) (by omega) (by omega))
      ·rw [if_neg hq0]
       refine wpS_pure ⟨hT2,0,rfl,?_,by omega,fun i j h1 h2 h3 h4=>by
        have e1:i = j:=by omega
        rw [e1]
        exact O.irr (hT2.dd (by omega))⟩
       exact fg_less (n:=lo + k) O hT2 (by omega) (by omega) hF2 (O.asym _ _ (hT2.dd (by omega)) (hT2.dd (by omega)) e)
     | false =>
      simp only [Bool.false_eq_true,if_false]
      refine wpS_bind (wpS_ltG O hT2 (i:=lo + k - 1) (j:=lo + k) (by omega) (by omega) ?_)
      dsimp only
      cases e2:lt (G (arrOf st2) (lo + k - 1)) (G (arrOf st2) (lo + k)) with
      | true =>
       simp only [if_true]
       exact wpS_pure ⟨hT2,k,neq,rfl,by omega,by omega,hF2,hq2,hE2⟩
      | false =>
       simp only [Bool.false_eq_true,if_false]
       refine wpS_pure ⟨hT2,neq + 1,rfl,fg_less (n:=lo + k) O hT2 (by omega) (by omega) hF2 e2,by omega,fun i j h1 h2 h3 h4=>?_⟩
       have dk:=hT2.dd (i:=lo + k) (by omega)
       have dl:=hT2.dd (i:=lo + k - 1) (by omega)
       by_cases z1:i = lo + k
       ·rw [z1]
        by_cases z2:j = lo + k
        ·rw [z2]; exact O.irr dk
        ·exact O.tr _ _ _ (hT2.dd (by omega)) dl dk (hE2 _ _ (by omega) (by omega) (by omega) (by omega)) e
       ·by_cases z2:j = lo + k
        ·rw [z2]
         exact O.tr _ _ _ dk dl (hT2.dd (by omega)) e2 (hE2 _ _ (by omega) (by omega) (by omega) (by omega))
        ·exact hE2 i j (by omega) (by omega) (by omega) (by omega)
    case post2 =>
     rintro c st2 ⟨hT2,m,neq,rfl,m1,m2,hF2,hq2,hE2⟩
     dsimp only
     have hsz:lo + m ≤ (arrOf st2).size:=by rw [hT2.size]; omega
     have hT3:=hT2.mirror (i:=lo + m - (neq + 1)) (j:=lo + m) (by omega) (by omega)
     have hF3:=fg_seg hsz (by omega) hF2 hE2
     by_cases hq0:neq > 0
     ·rw [if_pos hq0]
      refine wpS_bind (wpS_rev ?_)
      have hT4:=hT3.mirror (i:=lo) (j:=lo + m) (Nat.le_refl _) (by omega)
      have hS4:Sg lt (arrOf (setArr (setArr st2 (mirror (arrOf st2) (lo + m - (neq + 1)) (lo + m) ((lo + m - (lo + m - (neq + 1))) / 2))) (mirror (mirror (arrOf st2) (lo + m - (neq + 1)) (lo + m) ((lo + m - (lo + m - (neq + 1))) / 2)) lo (lo + m) ((lo + m - lo) / 2)))) lo (lo + m):=fg_mirror (by rw [mirror_size]; exact hsz) hF3
      refine wpS_bind (wpS_rev ?_)
      revert hT4 hS4
      generalize (setArr (setArr st2 (mirror (arrOf st2) (lo + m - (neq + 1)) (lo + m) ((lo + m - (lo + m - (neq + 1))) / 2))) (mirror (mirror (arrOf st2) (lo + m - (neq + 1)) (lo + m) ((lo + m - (lo + m - (neq + 1))) / 2)) lo (lo + m) ((lo + m - lo) / 2))) = st4
      intro hT4 hS4
      refine wpS_bind (wpS_mono (wpS_forRange (a:=m)
       (I:=fun k c st'=>st' = st4∧c = (none,k)∧Sg lt (arrOf st4) lo (lo + k))
       (Q:=fun c st'=>st' = st4∧∃ n,c = (none,n)∧1 ≤ n∧n ≤ nrem∧Sg lt (arrOf st4) lo (lo + n)) ?step3 ?fin3 ⟨rfl,rfl,hS4⟩) ?post3)
      case fin3 =>
       rintro c st5 ⟨rfl,rfl,hs⟩
       rw [show max m nrem = nrem by omega] at hs ⊢
       exact ⟨rfl,nrem,rfl,by omega,Nat.le_refl _,hs⟩
      case step3 =>
       rintro k c st5 hk1 hk2 ⟨rfl,rfl,hs⟩
       dsimp only
       refine wpS_bind (wpS_ltG O hT4 (i:=lo + k) (j:=lo + k - 1) (by omega) (by omega) ?_)
       dsimp only
       cases e:lt (G (arrOf st5) (lo + k)) (G (arrOf st5) (lo + k - 1)) with
       | true =>
        simp only [if_true]
        exact wpS_pure ⟨rfl,k,rfl,by omega,by omega,hs⟩
       | false =>
        simp only [Bool.false_eq_true,if_false]
        exact wpS_pure ⟨rfl,rfl,Sg.more (n:=lo + k) O hT4 (by omega) (by omega) hs e⟩
      case post3 =>
       rintro c st5 ⟨rfl,n',rfl,p1,p2,hs⟩
       dsimp only
       exact wpS_pure (q n' st5 hT4 p1 p2 hs)
     ·rw [if_neg hq0]
      have hT4:=hT2.mirror (i:=lo) (j:=lo + m) (Nat.le_refl _) (by omega)
      have hS4:Sg lt (arrOf (setArr st2 (mirror (arrOf st2) lo (lo + m) ((lo + m - lo) / 2)))) lo (lo + m):=fg_mirror hsz hF2
      refine wpS_bind (wpS_rev ?_)
      revert hT4 hS4
      generalize (setArr st2 (mirror (arrOf st2) lo (lo + m) ((lo + m - lo) / 2))) = st4
      intro hT4 hS4
      refine wpS_bind (wpS_mono (wpS_forRange (a:=m)
       (I:=fun k c st'=>st' = st4∧c = (none,k)∧Sg lt (arrOf st4) lo (lo + k))
       (Q:=fun c st'=>st' = st4∧∃ n,c = (none,n)∧1 ≤ n∧n ≤ nrem∧Sg lt (arrOf st4) lo (lo + n)) ?step3 ?fin3 ⟨rfl,rfl,hS4⟩) ?post3)
      case fin3 =>
       rintro c st5 ⟨rfl,rfl,hs⟩
       rw [show max m nrem = nrem by omega] at hs ⊢
       exact ⟨rfl,nrem,rfl,by omega,Nat.le_refl _,hs⟩
      case step3 =>
       rintro k c st5 hk1 hk2 ⟨rfl,rfl,hs⟩
       dsimp only
       refine wpS_bind (wpS_ltG O hT4 (i:=lo + k) (j:=lo + k - 1) (by omega) (by omega) ?_)
       dsimp only
       cases e:lt (G (arrOf st5) (lo + k)) (G (arrOf st5) (lo + k - 1)) with
       | true =>
        simp only [if_true]
        exact wpS_pure ⟨rfl,k,rfl,by omega,by omega,hs⟩
       | false =>
        simp only [Bool.false_eq_true,if_false]
        exact wpS_pure ⟨rfl,rfl,Sg.more (n:=lo + k) O hT4 (by omega) (by omega) hs e⟩
      case post3 =>
       rintro c st5 ⟨rfl,n',rfl,p1,p2,hs⟩
       dsimp only
       exact wpS_pure (q n' st5 hT4 p1 p2 hs)
  ·rw [if_neg hgt]
   have n1':n = 1:=by omega
   have hT:=h
   have hF:Fg lt (arrOf st') lo (lo + (n + 1)):=by
    subst n1'
    refine fg_less (n:=lo + 1) O h (by omega) (by omega) (fun p q p1 pq q2=>?_) (O.asym _ _ (h.dd (by omega)) (h.dd (by omega)) hlt)
    have e1:p = q:=by omega
    rw [e1]
    exact O.irr (h.dd (by omega))
   refine wpS_bind (wpS_lift (wpAny_rule ⟨rfl,?_⟩))
   refine wpS_bind (wpS_mono (wpS_forRange (a:=n + 1)
    (I:=fun k c st'=>Tb kd D a₀ lo st0 st'∧∃ neq,c = (none,k,neq)∧Fg lt (arrOf st') lo (lo + k)∧neq + 1 ≤ k∧Eg lt (arrOf st') (lo + k - (neq + 1)) (lo + k))
    (Q:=fun c st'=>Tb kd D a₀ lo st0 st'∧∃ m neq,c = (none,m,neq)∧1 ≤ m∧m ≤ nrem∧Fg lt (arrOf st') lo (lo + m)∧neq + 1 ≤ m∧Eg lt (arrOf st') (lo + m - (neq + 1)) (lo + m)) ?step2 ?fin2 ⟨hT,0,rfl,hF,by omega,fun i j h1 h2 h3 h4=>by
     have e1:i = j:=by omega
     rw [e1]
     exact O.irr (hT.dd (by omega))⟩) ?post2)
   case fin2 =>
    rintro c st2 ⟨hT2,neq,rfl,hF2,hq2,hE2⟩
    rw [show max (n + 1) nrem = nrem by omega] at hF2 hq2 hE2 ⊢
    exact ⟨hT2,nrem,neq,rfl,by omega,Nat.le_refl _,hF2,hq2,hE2⟩
   case step2 =>
    rintro k c st2 hk1 hk2 ⟨hT2,neq,rfl,hF2,hq2,hE2⟩
    dsimp only
    refine wpS_bind (wpS_ltG O hT2 (i:=lo + k) (j:=lo + k - 1) (by omega) (by omega) ?_)
    dsimp only
    have hsz:lo + k ≤ (arrOf st2).size:=by rw [hT2.size]; omega
    cases e:lt (G (arrOf st2) (lo + k)) (G (arrOf st2) (lo + k - 1)) with
    | true =>
     simp only [if_true]
     by_cases hq0:neq > 0
     ·rw [if_pos hq0]
      have hT3:=hT2.mirror (i:=lo + k - (neq + 1)) (j:=lo + k) (by omega) (by omega)
      refine wpS_bind (wpS_rev (wpS_pure ⟨hT3,0,rfl,?_,by omega,fun i j h1 h2 h3 h4=>by
       have e1:i = j:=by omega
       rw [e1]
       exact O.irr (hT3.dd (by omega))⟩))
      refine fg_less (n:=lo + k) O hT3 (by omega) (by omega) (fg_seg hsz (by omega) hF2 hE2) ?_
      show lt (G (mirror (arrOf st2) (lo + k - (neq + 1)) (lo + k) _) (lo + k - 1)) (G (mirror (arrOf st2) (lo + k - (neq + 1)) (lo + k) _) (lo + k)) = false
      rw [G_mirror_out hsz (Nat.le_refl _),G_mirror_last hsz (by omega)]
      have d1:=hT2.dd (i:=lo + k) (by omega)
      have d2:=hT2.dd (i:=lo + k - 1) (by omega)
      have d3:=hT2.dd (i:=lo + k - (neq + 1)) (by omega)
      exact O.tr _ _ _ d1 d2 d3 (O.asym _ _ d1 d2 e) (hE2 _ _ (by omega) (by omega) (by omega) (by omega))
     ·rw [if_neg hq0]
      refine wpS_pure ⟨hT2,0,rfl,?_,by omega,fun i j h1 h2 h3 h4=>by
       have e1:i = j:=by omega
       rw [e1]
       exact O.irr (hT2.dd (by omega))⟩
      exact fg_less (n:=lo + k) O hT2 (by omega) (by omega) hF2 (O.asym _ _ (hT2.dd (by omega)) (hT2.dd (by omega)) e)
    | false =>
     simp only [Bool.false_eq_true,if_false]
     refine wpS_bind (wpS_ltG O hT2 (i:=lo + k - 1) (j:=lo + k) (by omega) (by omega) ?_)
     dsimp only
     cases e2:lt (G (arrOf st2) (lo + k - 1)) (G (arrOf st2) (lo + k)) with
     | true =>
      simp only [if_true]
      exact wpS_pure ⟨hT2,k,neq,rfl,by omega,by omega,hF2,hq2,hE2⟩
     | false =>
      simp only [Bool.false_eq_true,if_false]
      refine wpS_pure ⟨hT2,neq + 1,rfl,fg_less (n:=lo + k) O hT2 (by omega) (by omega) hF2 e2,by omega,fun i j h1 h2 h3 h4=>?_⟩
      have dk:=hT2.dd (i:=lo + k) (by omega)
      have dl:=hT2.dd (i:=lo + k - 1) (by omega)
      by_cases z1:i = lo + k
      ·rw [z1]
       by_cases z2:j = lo + k
       ·rw [z2]; exact O.irr dk
       ·exact O.tr _ _ _ (hT2.dd (by omega)) dl dk (hE2 _ _ (by omega) (by omega) (by omega) (by omega)) e
      ·by_cases z2:j = lo + k
       ·rw [z2]
        exact O.tr _ _ _ dk dl (hT2.dd (by omega)) e2 (hE2 _ _ (by omega) (by omega) (by omega) (by omega))
       ·exact hE2 i j (by omega) (by omega) (by omega) (by omega)
   case post2 =>
    rintro c st2 ⟨hT2,m,neq,rfl,m1,m2,hF2,hq2,hE2⟩
    dsimp only
    have hsz:lo + m ≤ (arrOf st2).size:=by rw [hT2.size]; omega
    have hT3:=hT2.mirror (i:=lo + m - (neq + 1)) (j:=lo + m) (by omega) (by omega)
    have hF3:=fg_seg hsz (by omega) hF2 hE2
    by_cases hq0:neq > 0
    ·rw [if_pos hq0]
     refine wpS_bind (wpS_rev ?_)
     have hT4:=hT3.mirror (i:=lo) (j:=lo + m) (Nat.le_refl _) (by omega)
     have hS4:Sg lt (arrOf (setArr (setArr st2 (mirror (arrOf st2) (lo + m - (neq + 1)) (lo + m) ((lo + m - (lo + m - (neq + 1))) / 2))) (mirror (mirror (arrOf st2) (lo + m - (neq + 1)) (lo + m) ((lo + m - (lo + m - (neq + 1))) / 2)) lo (lo + m) ((lo + m - lo) / 2)))) lo (lo + m):=fg_mirror (by rw [mirror_size]; exact hsz) hF3
     refine wpS_bind (wpS_rev ?_)
     revert hT4 hS4
     generalize (setArr (setArr st2 (mirror (arrOf st2) (lo + m - (neq + 1)) (lo + m) ((lo + m - (lo + m - (neq + 1))) / 2))) (mirror (mirror (arrOf st2) (lo + m - (neq + 1)) (lo + m) ((lo + m - (lo + m - (neq + 1))) / 2)) lo (lo + m) ((lo + m - lo) / 2))) = st4
     intro hT4 hS4
     refine wpS_bind (wpS_mono (wpS_forRange (a:=m)
      (I:=fun k c st'=>st' = st4∧c = (none,k)∧Sg lt (arrOf st4) lo (lo + k))
      (Q:=fun c st'=>st' = st4∧∃ n,c = (none,n)∧1 ≤ n∧n ≤ nrem∧Sg lt (arrOf st4) lo (lo + n)) ?step3 ?fin3 ⟨rfl,rfl,hS4⟩) ?post3)
     case fin3 =>
      rintro c st5 ⟨rfl,rfl,hs⟩
      rw [show max m nrem = nrem by omega] at hs ⊢
      exact ⟨rfl,nrem,rfl,by omega,Nat.le_refl _,hs⟩
     case step3 =>
      rintro k c st5 hk1 hk2 ⟨rfl,rfl,hs⟩
      dsimp only
      refine wpS_bind (wpS_ltG O hT4 (i:=lo + k) (j:=lo + k - 1) (by omega) (by omega) ?_)
      dsimp only
      cases e:lt (G (arrOf st5) (lo + k)) (G (arrOf st5) (lo + k - 1)) with
      | true =>
       simp only [if_true]
       exact wpS_pure ⟨rfl,k,rfl,by omega,by omega,hs⟩
      | false =>
       simp only [Bool.false_eq_true,if_false]
       exact wpS_pure ⟨rfl,rfl,Sg.more (n:=lo + k) O hT4 (by omega) (by omega) hs e⟩
     case post3 =>
      rintro c st5 ⟨rfl,n',rfl,p1,p2,hs⟩
      dsimp only
      exact wpS_pure (q n' st5 hT4 p1 p2 hs)
    ·rw [if_neg hq0]
     have hT4:=hT2.mirror (i:=lo) (j:=lo + m) (Nat.le_refl _) (by omega)
     have hS4:Sg lt (arrOf (setArr st2 (mirror (arrOf st2) lo (lo + m) ((lo + m - lo) / 2)))) lo (lo + m):=fg_mirror hsz hF2
     refine wpS_bind (wpS_rev ?_)
     revert hT4 hS4
     generalize (setArr st2 (mirror (arrOf st2) lo (lo + m) ((lo + m - lo) / 2))) = st4
     intro hT4 hS4
     refine wpS_bind (wpS_mono (wpS_forRange (a:=m)
      (I:=fun k c st'=>st' = st4∧c = (none,k)∧Sg lt (arrOf st4) lo (lo + k))
      (Q:=fun c st'=>st' = st4∧∃ n,c = (none,n)∧1 ≤ n∧n ≤ nrem∧Sg lt (arrOf st4) lo (lo + n)) ?step3 ?fin3 ⟨rfl,rfl,hS4⟩) ?post3)
     case fin3 =>
      rintro c st5 ⟨rfl,rfl,hs⟩
      rw [show max m nrem = nrem by omega] at hs ⊢
      exact ⟨rfl,nrem,rfl,by omega,Nat.le_refl _,hs⟩
     case step3 =>
      rintro k c st5 hk1 hk2 ⟨rfl,rfl,hs⟩
      dsimp only
      refine wpS_bind (wpS_ltG O hT4 (i:=lo + k) (j:=lo + k - 1) (by omega) (by omega) ?_)
      dsimp only
      cases e:lt (G (arrOf st5) (lo + k)) (G (arrOf st5) (lo + k - 1)) with
      | true =>
       simp only [if_true]
       exact wpS_pure ⟨rfl,k,rfl,by omega,by omega,hs⟩
      | false =>
       simp only [Bool.false_eq_true,if_false]
       exact wpS_pure ⟨rfl,rfl,Sg.more (n:=lo + k) O hT4 (by omega) (by omega) hs e⟩
     case post3 =>
      rintro c st5 ⟨rfl,n',rfl,p1,p2,hs⟩
      dsimp only
      exact wpS_pure (q n' st5 hT4 p1 p2 hs)
theorem wpS_bsort (O:LtOk prog w A E s kd D lt) {a₀:Array Keyed} {lo n ok:Nat} {st0 st:SortSt} {Q:Bool→SortSt→Prop} (h:Tb kd D a₀ lo st0 st) (hn:lo + n ≤ a₀.size) (h1:1 ≤ ok) (hok:ok ≤ n) (hs:Sg lt (arrOf st) lo (lo + ok))
  (q:∀ st',Tb kd D a₀ lo st0 st'→Sg lt (arrOf st') lo (lo + n)→Q true st'):wpS (model prog w) A E s (binarySort' lo n ok) Q st:=by
 refine wpS_bind (wpS_mono (wpS_forRange (a:=max ok 1)
  (I:=fun k c st'=>c = (none,())∧Tb kd D a₀ lo st0 st'∧Sg lt (arrOf st') lo (lo + k))
  (Q:=fun c st'=>c = (none,())∧Tb kd D a₀ lo st0 st'∧Sg lt (arrOf st') lo (lo + n)) ?step ?fin ⟨rfl,h,by rw [show max ok 1 = ok by omega]; exact hs⟩) ?post)
 case fin =>
  rintro c st' ⟨rfl,hT,hS⟩
  rw [show max (max ok 1) n = n by omega] at hS
  exact ⟨rfl,hT,hS⟩
 case post =>
  rintro c st' ⟨rfl,hT,hS⟩
  dsimp only
  exact wpS_pure (q st' hT hS)
 case step =>
  rintro k c st' hk1 hk2 ⟨rfl,hT,hS⟩
  have k1:1 ≤ k:=by omega
  dsimp only
  refine wpS_bind (wpS_mono (wpS_forRange (a:=0)
   (I:=fun j c st2=>st2 = st'∧∃ l r,c = (none,l,r)∧l ≤ r∧r ≤ k∧r - l + j ≤ k∧(∀ i,i < l→lt (G (arrOf st') (lo + k)) (G (arrOf st') (lo + i)) = false)∧∀ i,r ≤ i→i < k→lt (G (arrOf st') (lo + k)) (G (arrOf st') (lo + i)) = true)
   (Q:=fun c st2=>st2 = st'∧∃ l,c = (none,l,l)∧l ≤ k∧(∀ i,i < l→lt (G (arrOf st') (lo + k)) (G (arrOf st') (lo + i)) = false)∧∀ i,l ≤ i→i < k→lt (G (arrOf st') (lo + k)) (G (arrOf st') (lo + i)) = true) ?step2 ?fin2 ⟨rfl,0,k,rfl,by omega,by omega,by omega,fun i hi=>by omega,fun i h1 h2=>by omega⟩) ?post2)
  case fin2 =>
   rintro c st2 ⟨rfl,l,r,rfl,a1,a2,a3,a4,a5⟩
   have:l = r:=by omega
   subst this
   exact ⟨rfl,l,rfl,a2,a4,a5⟩
  case step2 =>
   rintro j c st2 _ hj ⟨rfl,l,r,rfl,a1,a2,a3,a4,a5⟩
   dsimp only
   by_cases hlr:l ≥ r
   ·rw [if_pos hlr]
    have:l = r:=by omega
    subst this
    exact wpS_pure ⟨rfl,l,rfl,a2,a4,a5⟩
   rw [if_neg hlr]
   have hm:(l + r) / 2 < k:=by omega
   refine wpS_bind (wpS_ltG O hT (i:=lo + k) (j:=lo + (l + r) / 2) (by omega) (by omega) ?_)
   dsimp only
   have dk:=hT.dd (i:=lo + k) (by omega)
   have dm:=hT.dd (i:=lo + (l + r) / 2) (by omega)
   cases e:lt (G (arrOf st2) (lo + k)) (G (arrOf st2) (lo + (l + r) / 2)) with
   | true =>
    simp only [if_true]
    refine wpS_pure ⟨rfl,l,(l + r) / 2,rfl,by omega,by omega,by omega,a4,fun i i1 i2=>?_⟩
    have di:=hT.dd (i:=lo + i) (by omega)
    cases e2:lt (G (arrOf st2) (lo + k)) (G (arrOf st2) (lo + i)) with
    | true=>rfl
    | false =>
     have:=O.tr _ _ _ dm di dk (hS (lo + (l + r) / 2) (lo + i) (by omega) (by omega) (by omega)) e2
     rw [this] at e
     cases e
   | false =>
    simp only [Bool.false_eq_true,if_false]
    refine wpS_pure ⟨rfl,(l + r) / 2 + 1,r,rfl,by omega,by omega,by omega,fun i i1=>?_,a5⟩
    exact O.tr _ _ _ (hT.dd (by omega)) dm dk (hS (lo + i) (lo + (l + r) / 2) (by omega) (by omega) (by omega)) e
  case post2 =>
   rintro c st2 ⟨rfl,l,rfl,l1,l2,l3⟩
   dsimp only
   have hks:lo + k < (arrOf st2).size:=by rw [hT.size]; omega
   have hd:lo + k - (lo + l) = k - l:=by omega
   refine wpS_bind (wpS_modify (wpS_pure ⟨rfl,hT.bubble (src:=lo + k) (d:=lo + k - (lo + l)) (by omega) (by omega) (by omega),?_⟩))
   intro i j hi hij hj
   show lt (G (bubble (arrOf st2) (lo + k) (lo + k - (lo + l))) j) (G (bubble (arrOf st2) (lo + k) (lo + k - (lo + l))) i) = false
   rw [G_bubble hks (by omega),G_bubble hks (by omega),show lo + k - (lo + k - (lo + l)) = lo + l by omega]
   have dk:=hT.dd (i:=lo + k) (by omega)
   by_cases i1:i = lo + l
   ·rw [if_pos i1]
    by_cases j1:j = lo + l
    ·rw [if_pos j1]; exact O.irr dk
    ·rw [if_neg j1,if_pos (by omega)]
     have:=l3 (j - 1 - lo) (by omega) (by omega)
     rw [show lo + (j - 1 - lo) = j - 1 by omega] at this
     exact O.asym _ _ dk (hT.dd (by omega)) this
   ·rw [if_neg i1]
    by_cases i2:lo + l < i∧i ≤ lo + k
    ·rw [if_pos i2,if_neg (by omega),if_pos (by omega)]
     exact hS _ _ (by omega) (by omega) (by omega)
    ·rw [if_neg i2]
     by_cases j1:j = lo + l
     ·rw [if_pos j1]
      have:=l2 (i - lo) (by omega)
      rw [show lo + (i - lo) = i by omega] at this
      exact this
     ·rw [if_neg j1]
      by_cases j2:lo + l < j∧j ≤ lo + k
      ·rw [if_pos j2]
       exact hS _ _ (by omega) (by omega) (by omega)
      ·rw [if_neg j2]
       exact hS i j hi hij (by omega)
structure Ts (kd:SortKind) (D:Keyed→Prop) (a₀:Array Keyed) (st:SortSt):Prop where
 kd:kindOf st = kd
 fl:failedOf st = none
 pm:(arrOf st).Perm a₀
 d:∀ x ∈ a₀.toList,D x
section
variable {a₀:Array Keyed} {st:SortSt}
theorem Ts.size (h:Ts kd D a₀ st):(arrOf st).size = a₀.size:=h.pm.size_eq
theorem Ts.mem (h:Ts kd D a₀ st) {x:Keyed} (m:x ∈ (arrOf st).toList):D x:=h.d x ((Array.perm_iff_toList_perm.mp h.pm).mem_iff.mp m)
theorem Ts.at (h:Ts kd D a₀ st) {i:Nat} (hi:i < a₀.size):(arrOf st)[i]? = some (G (arrOf st) i):=G_at (by rw [h.size]; exact hi)
theorem Ts.dd (h:Ts kd D a₀ st) {i:Nat} (hi:i < a₀.size):D (G (arrOf st) i):=h.mem (List.mem_of_getElem? (by rw [← arr_of]; exact h.at hi))
theorem Ts.tb (h:Ts kd D a₀ st) (lo:Nat):Tb kd D a₀ lo st st:=⟨h.kd,h.fl,h.pm,rfl,fun _ _=>rfl,h.d⟩
end
theorem G_list {xs:Array Keyed} {i:Nat} {x:Keyed} (h:xs.toList[i]? = some x):G xs i = x:=by
 unfold G
 rw [arr_of.mpr h]
 rfl
theorem write_back (s:Nat):∀ (l:List Keyed) (k:Nat) (xs:Array Keyed),s + k + l.length ≤ xs.size→((l.zipIdx k).foldl (fun a p=>a.setIfInBounds (s + p.2) p.1) xs).toList = xs.toList.take (s + k) ++ l ++ xs.toList.drop (s + k + l.length)
 | [],k,xs,_=>by simp
 | x :: l,k,xs,h=>by
  rw [List.length_cons] at h
  rw [List.zipIdx_cons,List.foldl_cons,write_back s l (k + 1) _ (by rw [Array.size_setIfInBounds]; omega)]
  simp only [Array.toList_setIfInBounds]
  have hl:s + k < xs.toList.length:=by simp; omega
  have e1:(xs.toList.set (s + k) x).take (s + (k + 1)) = xs.toList.take (s + k) ++ [x]:=by
   rw [show s + (k + 1) = s + k + 1 by omega,List.take_add_one,List.getElem?_set_self hl,List.take_set_of_le (Nat.le_refl _)]
   rfl
  have e2:(xs.toList.set (s + k) x).drop (s + (k + 1) + l.length) = xs.toList.drop (s + k + (x :: l).length):=by
   rw [List.drop_set_of_lt (by omega),List.length_cons]
   congr 1
   omega
  rw [e1,e2]
  simp
theorem wpS_set {x:SortSt} {Q:PUnit→SortSt→Prop} {st:SortSt} (h:Q ⟨⟩ x):wpS (model prog w) A E s (set x:StateT SortSt Sem PUnit) Q st:=by
 unfold wpS
 rw [StateT.run_set]
 exact wpAny_pure ⟨rfl,h⟩
theorem seg_mem {xs:Array Keyed} {lo hi:Nat} (hh:hi ≤ xs.size) {x:Keyed} (m:x ∈ (xs.extract lo hi).toList):∃ r,lo ≤ r∧r < hi∧G xs r = x:=by
 rw [Array.toList_extract,List.extract_eq_take_drop] at m
 obtain ⟨j,hj⟩:=List.mem_iff_getElem?.mp m
 rw [List.getElem?_take] at hj
 split at hj
 ·rw [List.getElem?_drop] at hj
  exact ⟨lo + j,by omega,by omega,G_list hj⟩
 ·cases hj
theorem seg_at {xs:Array Keyed} {lo hi j:Nat} (hh:hi ≤ xs.size) (hj:j < hi - lo):(xs.extract lo hi)[j]? = some (G xs (lo + j)):=by
 rw [arr_of,Array.toList_extract,List.extract_eq_take_drop,List.getElem?_take,if_pos (by omega),List.getElem?_drop,← arr_of]
 exact G_at (by omega)
theorem seg_srt {xs:Array Keyed} {lo hi:Nat} (hh:hi ≤ xs.size) (h:Sg lt xs lo hi):SrtL lt (xs.extract lo hi).toList:=by
 unfold SrtL
 rw [List.pairwise_iff_getElem]
 intro i j hi' hj' hij
 have e1:=List.getElem?_eq_getElem hi'
 have e2:=List.getElem?_eq_getElem hj'
 have hl:(xs.extract lo hi).toList.length = hi - lo:=by simp; omega
 rw [← arr_of,seg_at hh (by omega)] at e1 e2
 rw [← Option.some.inj e1,← Option.some.inj e2]
 exact h _ _ (by omega) (by omega) (by omega)
theorem wpS_mergeAt (O:LtOk prog w A E s kd D lt) {a₀:Array Keyed} {i sa na pw sb nb pw2:Nat} {st:SortSt} {Q:Bool→SortSt→Prop} (h:Ts kd D a₀ st) (e1:(pendingOf st)[i]? = some (sa,na,pw)) (e2:(pendingOf st)[i + 1]? = some (sb,nb,pw2)) (hsb:sb = sa + na) (na1:1 ≤ na) (nb1:1 ≤ nb) (hsz:sb + nb ≤ a₀.size)
  (sA:Sg lt (arrOf st) sa (sa + na)) (sB:Sg lt (arrOf st) sb (sb + nb))
  (q:∀ st',Ts kd D a₀ st'→pendingOf st' = ((pendingOf st).setIfInBounds i (sa,na + nb,pw)).eraseIdxIfInBounds (i + 1)→(∀ j,j < sa∨sa + na + nb ≤ j→G (arrOf st') j = G (arrOf st) j)→Sg lt (arrOf st') sa (sa + na + nb)→Q true st'):wpS (model prog w) A E s (mergeAt' i) Q st:=by
 refine wpS_bind (wpS_get ?_)
 dsimp only
 simp only [e1,e2]
 have hsA:(arrOf st).size = a₀.size:=h.size
 refine wpS_bind (wpS_set ?_)
 refine wpS_bind (wpS_elem (h.at (i:=sb) (by omega)) ?_)
 refine wpS_bind (gal O (key:=G (arrOf st) sb) (hint:=0) h.kd (h.dd (by omega)) (fun j h1 h2=>⟨_,h.at (by omega),h.dd (by omega)⟩) (fun i j x y h1 h2 h3 ex ey=>by
  rw [h.at (by omega)] at ex ey
  cases ex
  cases ey
  exact sA i j h1 h2 h3) (by omega) fun k hk g1 g2=>?_)
 dsimp only
 have g1':∀ j,sa ≤ j→j < sa + k→lt (G (arrOf st) sb) (G (arrOf st) j) = false:=fun j h1 h2=>by
  have:=g1 j _ h1 h2 (h.at (by omega))
  simpa [bey] using this
 have g2':∀ j,sa + k ≤ j→j < sa + na→lt (G (arrOf st) sb) (G (arrOf st) j) = true:=fun j h1 h2=>by
  have:=g2 j _ h1 h2 (h.at (by omega))
  simpa [bey] using this
 by_cases c1:na - k = 0
 ·rw [if_pos (by simpa using c1)]
  refine wpS_pure (q _ ⟨h.kd,h.fl,h.pm,h.d⟩ rfl (fun j _=>rfl) fun p r hp hpr hr=>?_)
  show lt (G (arrOf st) r) (G (arrOf st) p) = false
  by_cases z1:r < sa + na
  ·exact sA p r hp hpr z1
  ·by_cases z2:p < sa + na
   ·exact O.tr _ _ _ (h.dd (by omega)) (h.dd (i:=sb) (by omega)) (h.dd (by omega)) (g1' p hp (by omega)) (sB sb r (Nat.le_refl _) (by omega) (by omega))
   ·exact sB p r (by omega) hpr (by omega)
 rw [if_neg (by simpa using c1)]
 have ei:sa + k + (na - k) - 1 = sb - 1:=by omega
 rw [ei]
 refine wpS_bind (wpS_elem (h.at (i:=sb - 1) (by omega)) ?_)
 refine wpS_bind (gal O (key:=G (arrOf st) (sb - 1)) (hint:=nb - 1) h.kd (h.dd (by omega)) (fun j h1 h2=>⟨_,h.at (by omega),h.dd (by omega)⟩) (fun i j x y h1 h2 h3 ex ey=>by
  rw [h.at (by omega)] at ex ey
  cases ex
  cases ey
  exact sB i j h1 h2 h3) (by omega) fun m hm f1 f2=>?_)
 dsimp only
 have f1':∀ j,sb ≤ j→j < sb + m→lt (G (arrOf st) j) (G (arrOf st) (sb - 1)) = true:=fun j h1 h2=>by
  have:=f1 j _ h1 h2 (h.at (by omega))
  simpa [bey] using this
 have f2':∀ j,sb + m ≤ j→j < sb + nb→lt (G (arrOf st) j) (G (arrOf st) (sb - 1)) = false:=fun j h1 h2=>by
  have:=f2 j _ h1 h2 (h.at (by omega))
  simpa [bey] using this
 by_cases c2:m = 0
 ·rw [if_pos (by simpa using c2)]
  refine wpS_pure (q _ ⟨h.kd,h.fl,h.pm,h.d⟩ rfl (fun j _=>rfl) fun p r hp hpr hr=>?_)
  show lt (G (arrOf st) r) (G (arrOf st) p) = false
  by_cases z1:r < sa + na
  ·exact sA p r hp hpr z1
  ·by_cases z2:p < sa + na
   ·exact O.tr _ _ _ (h.dd (by omega)) (h.dd (i:=sb - 1) (by omega)) (h.dd (by omega)) (sA p (sb - 1) hp (by omega) (by omega)) (f2' r (by omega) (by omega))
   ·exact sB p r (by omega) hpr (by omega)
 rw [if_neg (by simpa using c2)]
 have xD:∀ x ∈ ((arrOf st).extract (sa + k) sb).toList,D x:=fun x mx=>by
  obtain ⟨r,r1,r2,rfl⟩:=seg_mem (by omega) mx
  exact h.dd (by omega)
 have yD:∀ x ∈ ((arrOf st).extract sb (sb + m)).toList,D x:=fun x mx=>by
  obtain ⟨r,r1,r2,rfl⟩:=seg_mem (by omega) mx
  exact h.dd (by omega)
 have xS:=seg_srt (lt:=lt) (xs:=arrOf st) (lo:=sa + k) (hi:=sb) (by omega) fun p r h1 h2 h3=>sA p r (by omega) h2 (by omega)
 have yS:=seg_srt (lt:=lt) (xs:=arrOf st) (lo:=sb) (hi:=sb + m) (by omega) fun p r h1 h2 h3=>sB p r (by omega) h2 (by omega)
 have xz:((arrOf st).extract (sa + k) sb).size = sb - (sa + k):=by simp; omega
 have yz:((arrOf st).extract sb (sb + m)).size = m:=by simp; omega
 have y0:∀ y,((arrOf st).extract sb (sb + m))[0]? = some y→∀ x ∈ ((arrOf st).extract (sa + k) sb).toList,lt x y = false:=fun y ey x mx=>by
  rw [seg_at (by omega) (by omega)] at ey
  cases ey
  obtain ⟨r,r1,r2,rfl⟩:=seg_mem (by omega) mx
  exact O.asym _ _ (h.dd (by omega)) (h.dd (by omega)) (g2' r r1 (by omega))
 have xl:∀ x,((arrOf st).extract (sa + k) sb)[((arrOf st).extract (sa + k) sb).size - 1]? = some x→∀ y ∈ ((arrOf st).extract sb (sb + m)).toList,lt x y = false:=fun x ex y my=>by
  rw [xz,seg_at (by omega) (by omega)] at ex
  cases ex
  obtain ⟨r,r1,r2,rfl⟩:=seg_mem (by omega) my
  rw [show sa + k + (sb - (sa + k) - 1) = sb - 1 by omega]
  exact O.asym _ _ (h.dd (by omega)) (h.dd (by omega)) (f1' r r1 r2)
 have fin:∀ (out:Array Keyed) (st':SortSt) (st1:SortSt),MDone lt (((arrOf st).extract (sa + k) sb).toList ++ ((arrOf st).extract sb (sb + m)).toList) out.toList→sameSt st1 st'→arrOf st1 = arrOf st→kindOf st1 = kindOf st→failedOf st1 = failedOf st→pendingOf st1 = ((pendingOf st).setIfInBounds i (sa,na + nb,pw)).eraseIdxIfInBounds (i + 1) →
   ∀ st2:SortSt,kindOf st2 = kindOf st'→failedOf st2 = failedOf st'→pendingOf st2 = pendingOf st'→arrOf st2 = List.foldl (fun a x=>a.setIfInBounds (sa + k + x.snd) x.fst) (arrOf st') out.toList.zipIdx→Q true st2∧failedOf st2 = none:=fun out st' st1 hd hss ea1 ek1 ef1 ep1 st2 ek ef ep ea=>by
  obtain ⟨s1,s2,s3,s4⟩:=hss
  have hol:out.toList.length = sb - (sa + k) + m:=by
   have:=hd.1.length_eq
   rw [List.length_append] at this
   simp only [Array.length_toList] at this ⊢
   omega
  rw [s2,ea1] at ea
  have hw:=write_back (sa + k) out.toList 0 (arrOf st) (by omega)
  have ht:(arrOf st2).toList = (arrOf st).toList.take (sa + k) ++ out.toList ++ (arrOf st).toList.drop (sb + m):=by
   rw [ea]
   rw [Nat.add_zero] at hw
   rw [hw]
   congr 2
   omega
  have hpm:(arrOf st2).Perm (arrOf st):=by
   rw [Array.perm_iff_toList_perm,ht]
   have e0:(arrOf st).toList = (arrOf st).toList.take (sa + k) ++ (((arrOf st).extract (sa + k) sb).toList ++ ((arrOf st).extract sb (sb + m)).toList) ++ (arrOf st).toList.drop (sb + m):=by
    rw [Array.toList_extract,Array.toList_extract,List.extract_eq_take_drop,List.extract_eq_take_drop,List.append_assoc,List.append_assoc,show sb + m - sb = m by omega]
    have q1:(arrOf st).toList.drop (sb + m) = ((arrOf st).toList.drop sb).drop m:=by rw [List.drop_drop]
    rw [q1,List.take_append_drop]
    have q2:(arrOf st).toList.drop sb = ((arrOf st).toList.drop (sa + k)).drop (sb - (sa + k)):=by rw [List.drop_drop]; congr 1; omega
    rw [q2,List.take_append_drop,List.take_append_drop]
   conv=>rhs; rw [e0]
   exact (hd.1.append_left _).append_right _
  have hTs:Ts kd D a₀ st2:=⟨ek.trans (s1.trans (ek1.trans h.kd)),ef.trans (s4.trans (ef1.trans h.fl)),hpm.trans h.pm,h.d⟩
  have tl:((arrOf st).toList.take (sa + k)).length = sa + k:=by rw [List.length_take,Array.length_toList]; omega
  have gout:∀ j,j < sa + k∨sb + m ≤ j→G (arrOf st2) j = G (arrOf st) j:=fun j hj=>by
   unfold G
   congr 1
   rw [← Array.getElem?_toList,← Array.getElem?_toList,ht]
   rcases hj with hj | hj
   ·rw [List.append_assoc,List.getElem?_append_left (by omega),List.getElem?_take,if_pos hj]
   ·rw [List.getElem?_append_right (by rw [List.length_append,tl,hol]; omega),List.length_append,tl,hol,List.getElem?_drop]
    congr 1
    omega
  have gin:∀ j,sa + k ≤ j→j < sb + m→∃ z,out.toList[j - (sa + k)]? = some z∧G (arrOf st2) j = z∧∃ r,sa + k ≤ r∧r < sb + m∧G (arrOf st) r = z:=fun j h1 h2=>by
   have hj:j - (sa + k) < out.toList.length:=by omega
   have ez:=List.getElem?_eq_getElem hj
   refine ⟨_,ez,G_list ?_,?_⟩
   ·rw [ht,List.append_assoc,List.getElem?_append_right (by omega),tl,List.getElem?_append_left hj]
    exact ez
   ·have mz:=hd.1.mem_iff.mp (List.mem_of_getElem? ez)
    rcases List.mem_append.mp mz with mz | mz
    ·obtain ⟨r,r1,r2,r3⟩:=seg_mem (by omega) mz
     exact ⟨r,r1,by omega,r3⟩
    ·obtain ⟨r,r1,r2,r3⟩:=seg_mem (by omega) mz
     exact ⟨r,by omega,r2,r3⟩
  refine ⟨q st2 hTs (ep.trans (s3.trans ep1)) (fun j hj=>gout j (by omega)) fun p r hp hpr hr=>?_,hTs.fl⟩
  have up:∀ p q',sa ≤ p→p < sa + k→sb ≤ q'→q' < sb + nb→lt (G (arrOf st) q') (G (arrOf st) p) = false:=fun p q' p1 p2 q1 q2=>O.tr _ _ _ (h.dd (by omega)) (h.dd (i:=sb) (by omega)) (h.dd (by omega)) (g1' p p1 p2) (sB sb q' (Nat.le_refl _) q1 q2)
  have dn:∀ p q',sa ≤ p→p < sb→sb + m ≤ q'→q' < sb + nb→lt (G (arrOf st) q') (G (arrOf st) p) = false:=fun p q' p1 p2 q1 q2=>O.tr _ _ _ (h.dd (by omega)) (h.dd (i:=sb - 1) (by omega)) (h.dd (by omega)) (sA p (sb - 1) p1 (by omega) (by omega)) (f2' q' q1 q2)
  by_cases p1:p < sa + k
  ·rw [gout p (.inl p1)]
   by_cases r1:r < sa + k
   ·rw [gout r (.inl r1)]
    exact sA p r hp hpr (by omega)
   by_cases r2:sb + m ≤ r
   ·rw [gout r (.inr r2)]
    exact up p r hp p1 (by omega) (by omega)
   ·obtain ⟨z,_,ez,t,t1,t2,t3⟩:=gin r (by omega) (by omega)
    rw [ez,← t3]
    by_cases tb:t < sb
    ·exact sA p t hp (by omega) (by omega)
    ·exact up p t hp p1 (by omega) (by omega)
  by_cases p2:sb + m ≤ p
  ·rw [gout p (.inr p2),gout r (.inr (by omega))]
   exact sB p r (by omega) hpr (by omega)
  obtain ⟨z,oz,ez,t,t1,t2,t3⟩:=gin p (by omega) (by omega)
  by_cases r2:sb + m ≤ r
  ·rw [gout r (.inr r2),ez,← t3]
   by_cases tb:t < sb
   ·exact dn t r (by omega) tb r2 (by omega)
   ·exact sB t r (by omega) (by omega) (by omega)
  ·obtain ⟨z',oz',ez',_⟩:=gin r (by omega) (by omega)
   rw [ez,ez']
   exact srt_get O hd.2 (fun x mx=>by
    rcases List.mem_append.mp (hd.1.mem_iff.mp mx) with mx | mx
    ·exact xD x mx
    ·exact yD x mx) (show p - (sa + k) ≤ r - (sa + k) by omega) oz oz'
 have xz1:1 ≤ ((arrOf st).extract (sa + k) sb).size:=by rw [xz]; omega
 have yz1:1 ≤ ((arrOf st).extract sb (sb + m)).size:=by rw [yz]; omega
 have xz1:1 ≤ ((arrOf st).extract (sa + k) sb).size:=by rw [xz]; omega
 have yz1:1 ≤ ((arrOf st).extract sb (sb + m)).size:=by rw [yz]; omega
 by_cases c3:na - k ≤ m
 ·rw [if_pos c3]
  refine wpS_bind (wpS_mergeLo O h.kd xD yD xS yS xz1 yz1 y0 xl fun out st' hd hss=>?_)
  refine wpS_bind (wpS_modify (wpS_bind (wpS_get ?_)))
  obtain ⟨z1,z2⟩:=fin out st' _ hd hss rfl rfl rfl rfl (setArr st' (List.foldl (fun a x=>a.setIfInBounds (sa + k + x.snd) x.fst) (arrOf st') out.toList.zipIdx)) rfl rfl rfl rfl
  refine wpS_pure ?_
  show Q (failedOf (setArr st' (List.foldl (fun a x=>a.setIfInBounds (sa + k + x.snd) x.fst) (arrOf st') out.toList.zipIdx))).isNone (setArr st' (List.foldl (fun a x=>a.setIfInBounds (sa + k + x.snd) x.fst) (arrOf st') out.toList.zipIdx))
  rw [z2]
  exact z1
 ·rw [if_neg c3]
  refine wpS_bind (wpS_mergeHi O h.kd xD yD xS yS xz1 yz1 y0 xl fun out st' hd hss=>?_)
  refine wpS_bind (wpS_modify (wpS_bind (wpS_get ?_)))
  obtain ⟨z1,z2⟩:=fin out st' _ hd hss rfl rfl rfl rfl (setArr st' (List.foldl (fun a x=>a.setIfInBounds (sa + k + x.snd) x.fst) (arrOf st') out.toList.zipIdx)) rfl rfl rfl rfl
  refine wpS_pure ?_
  show Q (failedOf (setArr st' (List.foldl (fun a x=>a.setIfInBounds (sa + k + x.snd) x.fst) (arrOf st') out.toList.zipIdx))).isNone (setArr st' (List.foldl (fun a x=>a.setIfInBounds (sa + k + x.snd) x.fst) (arrOf st') out.toList.zipIdx))
  rw [z2]
  exact z1
def Stk (lt:Keyed→Keyed→Bool) (xs:Array Keyed):Nat→List (Nat × Nat × Nat)→Nat→Prop
 | s,[],e=>s = e
 | s,r :: p,e=>r.1 = s∧1 ≤ r.2.1∧Sg lt xs s (s + r.2.1)∧Stk lt xs (s + r.2.1) p e
theorem Stk.le {xs:Array Keyed}:∀ {p:List (Nat × Nat × Nat)} {s e:Nat},Stk lt xs s p e→s + p.length ≤ e
 | [],s,e,h=>by have:s = e:=h; simp; omega
 | r :: p,s,e,h=>by
  obtain ⟨h1,h2,h3,h4⟩:=h
  have:=Stk.le h4
  rw [List.length_cons]
  omega
theorem Stk.mono {xs ys:Array Keyed}:∀ {p:List (Nat × Nat × Nat)} {s e:Nat},Stk lt xs s p e→(∀ i,s ≤ i→i < e→G ys i = G xs i)→Stk lt ys s p e
 | [],s,e,h,_=>h
 | r :: p,s,e,h,k=>by
  obtain ⟨h1,h2,h3,h4⟩:=h
  have:=Stk.le h4
  refine ⟨h1,h2,fun i j hi hij hj=>?_,Stk.mono h4 fun i hi hj=>k i (by omega) hj⟩
  rw [k i (by omega) (by omega),k j (by omega) (by omega)]
  exact h3 i j hi hij hj
theorem Stk.push {xs:Array Keyed} {n w':Nat}:∀ {p:List (Nat × Nat × Nat)} {s e:Nat},Stk lt xs s p e→1 ≤ n→Sg lt xs e (e + n)→Stk lt xs s (p ++ [(e,n,w')]) (e + n)
 | [],s,e,h,h1,h2=>by
  have:s = e:=h
  subst this
  exact ⟨rfl,h1,h2,rfl⟩
 | r :: p,s,e,h,k1,k2=>by
  obtain ⟨h1,h2,h3,h4⟩:=h
  exact ⟨h1,h2,h3,Stk.push h4 k1 k2⟩
theorem Stk.modLast {xs:Array Keyed} {pw:Nat}:∀ {p:List (Nat × Nat × Nat)} {s e:Nat},Stk lt xs s p e→∀ k,Stk lt xs s (p.modify k fun x=>(x.1,x.2.1,pw)) e
 | [],s,e,h,k=>by simpa using h
 | r :: p,s,e,h,0=>by
  obtain ⟨h1,h2,h3,h4⟩:=h
  exact ⟨h1,h2,h3,h4⟩
 | r :: p,s,e,h,k + 1=>by
  obtain ⟨h1,h2,h3,h4⟩:=h
  exact ⟨h1,h2,h3,Stk.modLast h4 k⟩
theorem Stk.at {xs:Array Keyed} {sa na pw sb nb pw2:Nat}:∀ {p:List (Nat × Nat × Nat)} {s e i:Nat},Stk lt xs s p e→p[i]? = some (sa,na,pw)→p[i + 1]? = some (sb,nb,pw2) →
  s ≤ sa∧sb = sa + na∧1 ≤ na∧1 ≤ nb∧sb + nb ≤ e∧Sg lt xs sa (sa + na)∧Sg lt xs sb (sb + nb)∧∀ ys:Array Keyed,(∀ j,j < sa∨sa + na + nb ≤ j→G ys j = G xs j)→Sg lt ys sa (sa + na + nb)→Stk lt ys s ((p.set i (sa,na + nb,pw)).eraseIdx (i + 1)) e
 | [],s,e,i,_,h1,_=>by simp at h1
 | r :: p,s,e,0,h,e1,e2=>by
  have er:r = (sa,na,pw):=by simpa using e1
  subst er
  cases p with
  | nil=>simp at e2
  | cons r2 p =>
   have er2:r2 = (sb,nb,pw2):=by simpa using e2
   subst er2
   obtain ⟨h1,h2,h3,h5,h6,h7,h8⟩:=h
   have h1':sa = s:=h1
   have h5':sb = s + na:=h5
   subst h1'
   have hle:=Stk.le h8
   have h6':1 ≤ nb:=h6
   have h2':1 ≤ na:=h2
   subst h5'
   have h8':Stk lt xs (sa + na + nb) p e:=h8
   refine ⟨Nat.le_refl _,rfl,h2',h6',by have:sa + na + nb + p.length ≤ e:=hle; omega,h3,h7,fun ys k1 k2=>?_⟩
   refine ⟨rfl,by show 1 ≤ na + nb; omega,?_,?_⟩
   ·show Sg lt ys sa (sa + (na + nb))
    rw [← Nat.add_assoc]
    exact k2
   ·show Stk lt ys (sa + (na + nb)) p e
    rw [← Nat.add_assoc]
    exact Stk.mono h8' fun i hi hj=>k1 i (.inr hi)
 | r :: p,s,e,i + 1,h,e1,e2=>by
  obtain ⟨h1,h2,h3,h4⟩:=h
  obtain ⟨q1,q2,q3,q4,q5,q6,q7,q8⟩:=Stk.at h4 (by simpa using e1) (by simpa using e2)
  refine ⟨by omega,q2,q3,q4,q5,q6,q7,fun ys k1 k2=>?_⟩
  refine ⟨h1,h2,fun i j hi hij hj=>?_,q8 ys k1 k2⟩
  rw [k1 i (.inl (by omega)),k1 j (.inl (by omega))]
  exact h3 i j hi hij hj
theorem wpS_mergeK (O:LtOk prog w A E s kd D lt) {a₀:Array Keyed} {i lo:Nat} {st:SortSt} {Q:Bool→SortSt→Prop} (h:Ts kd D a₀ st) (hs:Stk lt (arrOf st) 0 (pendingOf st).toList lo) (hlo:lo ≤ a₀.size) (hi:i + 1 < (pendingOf st).size)
  (q:∀ st',Ts kd D a₀ st'→Stk lt (arrOf st') 0 (pendingOf st').toList lo→(pendingOf st').size + 1 = (pendingOf st).size→(∀ j,lo ≤ j→G (arrOf st') j = G (arrOf st) j)→Q true st'):wpS (model prog w) A E s (mergeAt' i) Q st:=by
 obtain ⟨⟨sa,na,pw⟩,g1⟩:∃ r,(pendingOf st)[i]? = some r:=⟨_,Array.getElem?_eq_getElem (by omega)⟩
 obtain ⟨⟨sb,nb,pw2⟩,g2⟩:∃ r,(pendingOf st)[i + 1]? = some r:=⟨_,Array.getElem?_eq_getElem (by omega)⟩
 obtain ⟨q1,q2,q3,q4,q5,q6,q7,q8⟩:=Stk.at hs (i:=i) (by rw [← Array.getElem?_toList] at g1; exact g1) (by rw [← Array.getElem?_toList] at g2; exact g2)
 refine wpS_mergeAt O h g1 g2 q2 q3 q4 (by omega) q6 q7 fun st' hT hp hg hS=>?_
 have hpl:(pendingOf st').toList = ((pendingOf st).toList.set i (sa,na + nb,pw)).eraseIdx (i + 1):=by
  rw [hp,Array.eraseIdxIfInBounds,dif_pos (by rw [Array.size_setIfInBounds]; exact hi),Array.toList_eraseIdx,Array.toList_setIfInBounds]
 refine q st' hT ?_ ?_ fun j hj=>hg j (.inr (by omega))
 ·rw [hpl]
  exact q8 _ hg hS
 ·have:=congrArg List.length hpl
  rw [List.length_eraseIdx_of_lt (by simp; omega),List.length_set,Array.length_toList,Array.length_toList] at this
  omega
theorem wpS_runs (O:LtOk prog w A E s kd D lt) {a₀:Array Keyed} {st:SortSt} {Q:Unit→SortSt→Prop} (h:Ts kd D a₀ st) (hp0:pendingOf st = #[]) (h2:2 ≤ a₀.size)
  (q:∀ st',Ts kd D a₀ st'→Sg lt (arrOf st') 0 a₀.size→Q () st'):wpS (model prog w) A E s sortRuns' Q st:=by
 rw [sortRuns'_eq]
 refine wpS_bind (wpS_get ?_)
 dsimp only
 rw [h.size]
 generalize minRun' a₀.size a₀.size 0 = mr
 refine wpS_bind (wpS_mono (wpS_forRange (a:=0)
  (I:=fun k c st'=>∃ lo,c = (none,lo)∧k ≤ lo∧lo ≤ a₀.size∧Ts kd D a₀ st'∧Stk lt (arrOf st') 0 (pendingOf st').toList lo)
  (Q:=fun c st'=>∃ lo,c = (none,lo)∧lo = a₀.size∧Ts kd D a₀ st'∧Stk lt (arrOf st') 0 (pendingOf st').toList lo) ?step ?fin ⟨0,rfl,Nat.le_refl _,Nat.zero_le _,h,by rw [hp0]; rfl⟩) ?post)
 case fin =>
  rintro c st' ⟨lo,rfl,k1,k2,hT,hS⟩
  exact ⟨lo,rfl,by omega,hT,hS⟩
 case post =>
  rintro c st' ⟨lo,rfl,rfl,hT,hS⟩
  dsimp only
  have hz:=Stk.le hS
  rw [Array.length_toList] at hz
  refine wpS_bind (wpS_mono (wpS_forRange (a:=0)
   (I:=fun k c st2=>c = (none,())∧Ts kd D a₀ st2∧Stk lt (arrOf st2) 0 (pendingOf st2).toList a₀.size∧(pendingOf st2).size + k ≤ a₀.size + 0∨c = (none,())∧Ts kd D a₀ st2∧Stk lt (arrOf st2) 0 (pendingOf st2).toList a₀.size∧(pendingOf st2).size ≤ 1)
   (Q:=fun c st2=>c = (none,())∧Ts kd D a₀ st2∧Stk lt (arrOf st2) 0 (pendingOf st2).toList a₀.size∧(pendingOf st2).size ≤ 1) ?stepF ?finF (.inl ⟨rfl,hT,hS,by omega⟩)) ?postF)
  case finF =>
   rintro c st2 (⟨rfl,h3,h4,h5⟩ | hh)
   ·exact ⟨rfl,h3,h4,by omega⟩
   ·exact hh
  case stepF =>
   rintro k c st2 _ hk hh
   have hh':c = (none,())∧Ts kd D a₀ st2∧Stk lt (arrOf st2) 0 (pendingOf st2).toList a₀.size∧((pendingOf st2).size + k ≤ a₀.size∨(pendingOf st2).size ≤ 1):=by
    rcases hh with ⟨a1,a2,a3,a4⟩ | ⟨a1,a2,a3,a4⟩
    ·exact ⟨a1,a2,a3,.inl (by omega)⟩
    ·exact ⟨a1,a2,a3,.inr a4⟩
   obtain ⟨rfl,h3,h4,h5⟩:=hh'
   refine wpS_bind (wpS_get ?_)
   try dsimp only
   by_cases d1:(pendingOf st2).size ≤ 1
   ·rw [if_pos d1]
    exact wpS_pure ⟨rfl,h3,h4,d1⟩
   rw [if_neg d1]
   generalize hgen:(if (if (pendingOf st2).size - 2 > 0 then Option.map (fun x=>x.snd.fst) (pendingOf st2)[(pendingOf st2).size - 2 - 1]? else none).any (fun x=>decide (x < (pendingOf st2)[(pendingOf st2).size - 2 + 1]?.elim 0 fun x=>x.snd.fst)) = true then (pendingOf st2).size - 2 - 1 else (pendingOf st2).size - 2) = ii
   have hii:ii + 1 < (pendingOf st2).size:=by
    have hx:∀ (P:Prop) (_:Decidable P),(if P then (pendingOf st2).size - 2 - 1 else (pendingOf st2).size - 2) + 1 < (pendingOf st2).size:=fun P _=>by
     by_cases z:P
     ·rw [if_pos z]; omega
     ·rw [if_neg z]; omega
    rw [← hgen]
    exact hx _ _
   refine wpS_bind (wpS_mergeK O h3 h4 (Nat.le_refl _) hii fun st5 h6 s6 z6 g6=>?_)
   simp only [Bool.not_true,Bool.false_eq_true,if_false]
   exact wpS_pure (.inl ⟨rfl,h6,s6,by omega⟩)
  case postF =>
   rintro c st2 ⟨rfl,h3,h4,h5⟩
   dsimp only
   refine wpS_pure (q st2 h3 ?_)
   cases hl:(pendingOf st2).toList with
   | nil =>
    rw [hl] at h4
    have:0 = a₀.size:=h4
    omega
   | cons r rest =>
    have hr:rest = []:=by
     have:=congrArg List.length hl
     rw [Array.length_toList,List.length_cons] at this
     exact List.eq_nil_of_length_eq_zero (by omega)
    rw [hl,hr] at h4
    obtain ⟨e1,e2,e3,e4⟩:=h4
    have e4':0 + r.2.1 = a₀.size:=e4
    rw [← e4']
    exact e3
 case step =>
  rintro k c st' _ hk ⟨lo,rfl,k1,k2,hT,hS⟩
  dsimp only
  by_cases c1:lo ≥ a₀.size
  ·rw [if_pos c1]
   exact wpS_pure ⟨lo,rfl,by omega,hT,hS⟩
  rw [if_neg c1]
  refine wpS_bind (wpS_count O (hT.tb lo) (by omega) (by omega) fun m st2 hT2 m1 m2 hS2=>?_)
  dsimp only
  by_cases c2:m < mr
  ·rw [if_pos c2]
   refine wpS_bind (wpS_lift (wpAny_rule ⟨rfl,?_⟩))
   refine wpS_bind (wpS_bsort O hT2 (n:=min (a₀.size - lo) mr) (by omega) m1 (by omega) hS2 fun stN hTN hRun=>?_)
   simp only [Bool.not_true,Bool.false_eq_true,if_false]
   have n1:1 ≤ min (a₀.size - lo) mr:=by omega
   have n2:lo + min (a₀.size - lo) mr ≤ a₀.size:=by omega
   generalize min (a₀.size - lo) mr = n at n1 n2 hRun
   have hTs:Ts kd D a₀ stN:=⟨hTN.kd,hTN.fl,hTN.pm,hTN.d⟩
   have hSN:Stk lt (arrOf stN) 0 (pendingOf stN).toList lo:=by
    rw [hTN.pe]
    exact Stk.mono hS fun i _ hi=>hTN.lo i hi
   refine wpS_bind (wpS_get ?_)
   have fin:∀ stM:SortSt,Ts kd D a₀ stM→Stk lt (arrOf stM) 0 (pendingOf stM).toList lo→(∀ j,lo ≤ j→G (arrOf stM) j = G (arrOf stN) j)→Stk lt (arrOf stM) 0 ((pendingOf stM).push (lo,n,0)).toList (lo + n):=fun stM hM hMS hMg=>by
    rw [Array.toList_push]
    refine Stk.push hMS n1 fun i j hi hij hj=>?_
    rw [hMg i hi,hMg j (by omega)]
    exact hRun i j hi hij hj
   cases hbk:(pendingOf stN).back? with
   | none =>
    try dsimp only
    exact wpS_bind (wpS_modify (wpS_pure ⟨lo + n,rfl,by omega,by omega,⟨hTs.kd,hTs.fl,hTs.pm,hTs.d⟩,fin stN hTs hSN fun _ _=>rfl⟩))
   | some r =>
    obtain ⟨s1,n1',w1⟩:=r
    try dsimp only
    generalize power' a₀.size (2 * s1 + n1') (2 * s1 + n1' + n1' + n) a₀.size = pw
    refine wpS_bind (wpS_mono (wpS_forRange (a:=0)
     (I:=fun _ c stM=>c = (none,())∧Ts kd D a₀ stM∧Stk lt (arrOf stM) 0 (pendingOf stM).toList lo∧∀ j,lo ≤ j→G (arrOf stM) j = G (arrOf stN) j)
     (Q:=fun c stM=>c = (none,())∧Ts kd D a₀ stM∧Stk lt (arrOf stM) 0 (pendingOf stM).toList lo∧∀ j,lo ≤ j→G (arrOf stM) j = G (arrOf stN) j) ?stepM (fun _ _ hh=>hh) ⟨rfl,hTs,hSN,fun _ _=>rfl⟩) ?postM)
    case stepM =>
     rintro kk c stM _ _ ⟨rfl,hM,hMS,hMg⟩
     refine wpS_bind (wpS_get ?_)
     try dsimp only
     by_cases d1:(pendingOf stM).size > 1
     ·rw [if_pos d1]
      obtain ⟨⟨oa,ob,oc⟩,og⟩:∃ r,(pendingOf stM)[(pendingOf stM).size - 2]? = some r:=⟨_,Array.getElem?_eq_getElem (by omega)⟩
      rw [og]
      dsimp only
      by_cases d2:oc ≤ pw
      ·rw [if_pos d2]
       exact wpS_pure ⟨rfl,hM,hMS,hMg⟩
      ·rw [if_neg d2]
       refine wpS_bind (wpS_mergeK O hM hMS k2 (by omega) fun st5 h5 s5 z5 g5=>?_)
       simp only [Bool.not_true,Bool.false_eq_true,if_false]
       exact wpS_pure ⟨rfl,h5,s5,fun j hj=>(g5 j hj).trans (hMg j hj)⟩
     ·rw [if_neg d1]
      exact wpS_pure ⟨rfl,hM,hMS,hMg⟩
    case postM =>
     rintro c stM ⟨rfl,hM,hMS,hMg⟩
     dsimp only
     refine wpS_bind (wpS_modify (wpS_bind (wpS_modify (wpS_pure ⟨lo + n,rfl,by omega,by omega,⟨hM.kd,hM.fl,hM.pm,hM.d⟩,?_⟩))))
     refine fin (setPending stM ((pendingOf stM).modify ((pendingOf stM).size - 1) fun x=>(x.1,x.2.1,pw))) ⟨hM.kd,hM.fl,hM.pm,hM.d⟩ ?_ hMg
     show Stk lt (arrOf stM) 0 ((pendingOf stM).modify ((pendingOf stM).size - 1) fun x=>(x.1,x.2.1,pw)).toList lo
     rw [Array.toList_modify]
     exact Stk.modLast hMS _
  ·rw [if_neg c2]
   have n1:1 ≤ m:=m1
   have n2:lo + m ≤ a₀.size:=by omega
   have hRun:=hS2
   have hTN:=hT2
   generalize m = n at n1 n2 hRun
   revert hTN hRun
   generalize st2 = stN
   intro hTN hRun
   have hTs:Ts kd D a₀ stN:=⟨hTN.kd,hTN.fl,hTN.pm,hTN.d⟩
   have hSN:Stk lt (arrOf stN) 0 (pendingOf stN).toList lo:=by
    rw [hTN.pe]
    exact Stk.mono hS fun i _ hi=>hTN.lo i hi
   refine wpS_bind (wpS_get ?_)
   have fin:∀ stM:SortSt,Ts kd D a₀ stM→Stk lt (arrOf stM) 0 (pendingOf stM).toList lo→(∀ j,lo ≤ j→G (arrOf stM) j = G (arrOf stN) j)→Stk lt (arrOf stM) 0 ((pendingOf stM).push (lo,n,0)).toList (lo + n):=fun stM hM hMS hMg=>by
    rw [Array.toList_push]
    refine Stk.push hMS n1 fun i j hi hij hj=>?_
    rw [hMg i hi,hMg j (by omega)]
    exact hRun i j hi hij hj
   cases hbk:(pendingOf stN).back? with
   | none =>
    try dsimp only
    exact wpS_bind (wpS_modify (wpS_pure ⟨lo + n,rfl,by omega,by omega,⟨hTs.kd,hTs.fl,hTs.pm,hTs.d⟩,fin stN hTs hSN fun _ _=>rfl⟩))
   | some r =>
    obtain ⟨s1,n1',w1⟩:=r
    try dsimp only
    generalize power' a₀.size (2 * s1 + n1') (2 * s1 + n1' + n1' + n) a₀.size = pw
    refine wpS_bind (wpS_mono (wpS_forRange (a:=0)
     (I:=fun _ c stM=>c = (none,())∧Ts kd D a₀ stM∧Stk lt (arrOf stM) 0 (pendingOf stM).toList lo∧∀ j,lo ≤ j→G (arrOf stM) j = G (arrOf stN) j)
     (Q:=fun c stM=>c = (none,())∧Ts kd D a₀ stM∧Stk lt (arrOf stM) 0 (pendingOf stM).toList lo∧∀ j,lo ≤ j→G (arrOf stM) j = G (arrOf stN) j) ?stepM (fun _ _ hh=>hh) ⟨rfl,hTs,hSN,fun _ _=>rfl⟩) ?postM)
    case stepM =>
     rintro kk c stM _ _ ⟨rfl,hM,hMS,hMg⟩
     refine wpS_bind (wpS_get ?_)
     try dsimp only
     by_cases d1:(pendingOf stM).size > 1
     ·rw [if_pos d1]
      obtain ⟨⟨oa,ob,oc⟩,og⟩:∃ r,(pendingOf stM)[(pendingOf stM).size - 2]? = some r:=⟨_,Array.getElem?_eq_getElem (by omega)⟩
      rw [og]
      dsimp only
      by_cases d2:oc ≤ pw
      ·rw [if_pos d2]
       exact wpS_pure ⟨rfl,hM,hMS,hMg⟩
      ·rw [if_neg d2]
       refine wpS_bind (wpS_mergeK O hM hMS k2 (by omega) fun st5 h5 s5 z5 g5=>?_)
       simp only [Bool.not_true,Bool.false_eq_true,if_false]
       exact wpS_pure ⟨rfl,h5,s5,fun j hj=>(g5 j hj).trans (hMg j hj)⟩
     ·rw [if_neg d1]
      exact wpS_pure ⟨rfl,hM,hMS,hMg⟩
    case postM =>
     rintro c stM ⟨rfl,hM,hMS,hMg⟩
     dsimp only
     refine wpS_bind (wpS_modify (wpS_bind (wpS_modify (wpS_pure ⟨lo + n,rfl,by omega,by omega,⟨hM.kd,hM.fl,hM.pm,hM.d⟩,?_⟩))))
     refine fin (setPending stM ((pendingOf stM).modify ((pendingOf stM).size - 1) fun x=>(x.1,x.2.1,pw))) ⟨hM.kd,hM.fl,hM.pm,hM.d⟩ ?_ hMg
     show Stk lt (arrOf stM) 0 ((pendingOf stM).modify ((pendingOf stM).size - 1) fun x=>(x.1,x.2.1,pw)).toList lo
     rw [Array.toList_modify]
     exact Stk.modLast hMS _
end
end L2
set_option Elab.async false
set_option linter.all false
set_option maxRecDepth 100000
set_option maxHeartbeats 1000000
namespace L2
open PySem PySem.Spec PySem.Calls PyProof.Rows PySem.W
section
variable {prog:Program} {w:World} {A:Around} {E:Value→Shared→Prop} {s:Shared}
theorem list_sort_gen {a:Addr} {vs:List Value} {n:Nat} {kd:SortKind} {lt:Keyed→Keyed→Bool} {P:PySem.Fin→Shared→Prop} (ho:s.heap.get? a = some (seqObj "list" vs.toArray n)) (hz:vs.length ≤ 10000000)
  (hkd:∀ h3,KeptBut a s.heap h3→∀ (Q:SortKind→Shared→Prop),2 ≤ vs.length→Q kd { s with heap:=h3 }→wpAny (model prog w) A (keyKind' vs.toArray) Q E { s with heap:=h3 })
  (hO:∀ h3,KeptBut a s.heap h3→LtOk prog w A E { s with heap:=h3 } kd (fun x=>x.1 = x.2∧x.1 ∈ vs) lt)
  (h:∀ h' c (out:List Value),KeptBut a s.heap h'→out.Perm vs→out.Pairwise (fun x y=>lt (y,y) (x,x) = false)→h'.get? a = some (seqObj "list" out.toArray c)→P (.done (.ret .none)) { s with heap:=h' }) :
  wpAny (model prog w) A (Builtin.«list.sort» ⟨[.ref a],[]⟩) P E s:=by
 have ha:a < s.heap.objs.size:=Heap.lt_size ho
 have s1:=Heap.SameBut.update s.heap a (Obj.mapSeq fun _=>(#[]:Array Value))
 obtain ⟨e1,ho1⟩:∃ e1,(s.heap.update a (Obj.mapSeq fun _=>(#[]:Array Value))).get? a = some (seqObj "list" #[] e1):=⟨_,get?_update_seq ho fun _=>#[]⟩
 have keep:KeptBut a s.heap (((s.heap.update a (Obj.mapSeq fun _=>(#[]:Array Value))).push (seqObj "tuple" vs.toArray 0)).push (seqObj "list" #[] 0)):=fun b o nb e =>
  Heap.get?_push_of_some _ (Heap.get?_push_of_some _ ((s1.2 b nb).trans e))
 have ha3:(((s.heap.update a (Obj.mapSeq fun _=>(#[]:Array Value))).push (seqObj "tuple" vs.toArray 0)).push (seqObj "list" #[] 0)).get? a = some (seqObj "list" #[] e1):=Heap.get?_push_of_some _ (Heap.get?_push_of_some _ ho1)
 rw [list_sort_plain]
 refine wpAny_bind (listItems_at ho rfl ?_)
 refine wpAny_bind (listUpdate_at ho rfl ?_ (by rw [List.size_toArray,sizeLine_eq]; omega) (Nat.zero_le _))
 refine wpAny_bind (seqEpoch_at ho1 rfl ?_)
 refine wpAny_bind (wpAny_newTuple ?_ (by show vs.length ≤ _; rw [sizeLine_eq]; omega))
 refine wpAny_bind (wpAny_newList ?_ (Nat.zero_le _))
 refine wpAny_holding ?_
 show wpAny (model prog w) A _ P E { s with heap:=((s.heap.update a (Obj.mapSeq fun _=>(#[]:Array Value))).push (seqObj "tuple" vs.toArray 0)).push (seqObj "list" #[] 0) }
 generalize ((s.heap.update a (Obj.mapSeq fun _=>(#[]:Array Value))).push (seqObj "tuple" vs.toArray 0)).push (seqObj "list" #[] 0) = h3 at keep ha3 ⊢
 dsimp only
 by_cases hn2:vs.toArray.size < 2
 ·rw [if_pos hn2,if_pos hn2]
  refine wpAny_bind (wpAny_pure ?_)
  rw [StateT.run_pure]
  refine wpAny_bind (wpAny_pure ?_)
  dsimp only
  have eo:(arrOf (SortSt.mk' general' (vs.toArray.zip vs.toArray) #[] 7 none)).map (·.2) = List.toArray vs:=by
   apply Array.toList_inj.mp
   show ((vs.toArray.zip vs.toArray).map (·.2)).toList = vs
   rw [Array.toList_map,Array.toList_zip,List.map_snd_zip (Nat.le_refl _)]
  rw [eo]
  have s2:=Heap.SameBut.update h3 a (Obj.mapSeq fun _=>List.toArray vs)
  obtain ⟨c2,hc2⟩:∃ c2,(h3.update a (Obj.mapSeq fun _=>List.toArray vs)).get? a = some (seqObj "list" (List.toArray vs) c2):=⟨_,get?_update_seq ha3 fun _=>List.toArray vs⟩
  refine wpAny_bind (seqEpoch_at ha3 rfl ?_)
  refine wpAny_bind (listUpdate_at ha3 rfl ?_ (Nat.zero_le _) (by show (List.toArray vs).size ≤ _; rw [List.size_toArray,sizeLine_eq]; omega))
  simp only [bne_self_eq_false,Bool.false_eq_true,if_false]
  refine wpAny_pure (h _ c2 vs (fun b o nb e=>(s2.2 b nb).trans (keep b o nb e)) (List.Perm.refl _) ?_ hc2)
  rw [List.size_toArray] at hn2
  match vs,hn2 with
  | [],_=>exact List.Pairwise.nil
  | [x],_=>exact List.pairwise_singleton _ _
 ·rw [if_neg hn2,if_neg hn2]
  rw [List.size_toArray] at hn2
  refine wpAny_bind (hkd h3 keep _ (by omega) ?_)
  have O:=hO h3 keep
  have hT:Ts kd (fun x:Keyed=>x.1 = x.2∧x.1 ∈ vs) (pairsOf vs) (SortSt.mk' kd (vs.toArray.zip vs.toArray) #[] 7 none):=⟨rfl,rfl,Array.Perm.refl _,fun x m=>by
   rw [pairsOf_toList] at m
   exact mem_zip_self m⟩
  refine wpAny_bind (wpAny_mono (wpS_runs O (Q:=fun _ st'=>Ts kd (fun x:Keyed=>x.1 = x.2∧x.1 ∈ vs) (pairsOf vs) st'∧Sg lt (arrOf st') 0 (pairsOf vs).size) hT rfl (by rw [pairsOf_size]; omega) fun st' a1 a2=>⟨a1,a2⟩) ?_ fun _ _ e=>e)
  rintro ⟨⟨⟩,st'⟩ s' ⟨rfl,hT',hS'⟩
  dsimp only
  have hp:((arrOf st').toList.map (·.2)).Perm vs:=by
   have h1:=(Array.perm_iff_toList_perm.mp hT'.pm).map (·.2)
   rw [pairsOf_toList,List.map_snd_zip (Nat.le_refl _)] at h1
   exact h1
  have hs:((arrOf st').toList.map (·.2)).Pairwise (fun x y=>lt (y,y) (x,x) = false):=by
   rw [List.pairwise_map,List.pairwise_iff_getElem]
   intro i j hi hj hij
   have hi':i < (pairsOf vs).size:=by rw [← hT'.size]; simpa using hi
   have hj':j < (pairsOf vs).size:=by rw [← hT'.size]; simpa using hj
   have g1:=hT'.at hi'
   have g2:=hT'.at hj'
   rw [arr_of,List.getElem?_eq_getElem hi] at g1
   rw [arr_of,List.getElem?_eq_getElem hj] at g2
   have d1:=(hT'.dd hi').1
   have d2:=(hT'.dd hj').1
   rw [Option.some.inj g1,Option.some.inj g2]
   have z1:((G (arrOf st') i).2,(G (arrOf st') i).2) = G (arrOf st') i:=Prod.ext d1.symm rfl
   have z2:((G (arrOf st') j).2,(G (arrOf st') j).2) = G (arrOf st') j:=Prod.ext d2.symm rfl
   rw [z1,z2]
   exact hS' i j (Nat.zero_le _) (Nat.le_of_lt hij) hj'
  have eo:(arrOf st').map (·.2) = List.toArray ((arrOf st').toList.map (·.2)):=by
   apply Array.toList_inj.mp
   rw [Array.toList_map]
  rw [eo]
  generalize (arrOf st').toList.map (·.2) = out at hp hs
  have s2:=Heap.SameBut.update h3 a (Obj.mapSeq fun _=>List.toArray out)
  obtain ⟨c2,hc2⟩:∃ c2,(h3.update a (Obj.mapSeq fun _=>List.toArray out)).get? a = some (seqObj "list" (List.toArray out) c2):=⟨_,get?_update_seq ha3 fun _=>List.toArray out⟩
  refine wpAny_bind (seqEpoch_at ha3 rfl ?_)
  refine wpAny_bind (listUpdate_at ha3 rfl ?_ (Nat.zero_le _) (by show (List.toArray out).size ≤ _; rw [List.size_toArray,hp.length_eq,sizeLine_eq]; omega))
  rw [hT'.fl]
  simp only [bne_self_eq_false,Bool.false_eq_true,if_false]
  exact wpAny_pure (h _ c2 out (fun b o nb e=>(s2.2 b nb).trans (keep b o nb e)) hp hs hc2)
theorem wpS_lt {kd:SortKind} {x y:Keyed} {b:Bool} {st:SortSt} {Q:Option Bool→SortSt→Prop} (hk:kindOf st = kd) (h:wpAny (model prog w) A (keyLt' kd x.1 y.1) (fun c s'=>s' = s∧c = b) (fun _ _=>False) s) (q:Q (some b) st):wpS (model prog w) A E s (lt' x y) Q st:=by
 rw [lt'_eq]
 refine wpS_bind (wpS_get ?_)
 rw [hk]
 refine wpS_bind (wpS_lift (wpAny_attempt (wpAny_mono h (fun c s' hc=>?_) fun _ _ e=>e.elim)))
 obtain ⟨rfl,rfl⟩:=hc
 exact ⟨rfl,wpS_pure q⟩
theorem ltok_ints {vs:List Value} {ns:List Int} (hI:IntsAre vs ns):LtOk prog w A E s oneType' (fun x=>x.1 = x.2∧x.1 ∈ vs) (fun x y=>decide (numOf x.1 < numOf y.1)) where
 ask:=fun x y st Q hx hy hk q=>by
  obtain ⟨n,t,ex⟩:=hI.all _ hx.2
  obtain ⟨m,u,ey⟩:=hI.all _ hy.2
  refine wpS_lt hk ?_ q
  rw [keyLt'_oneType,ex,ey]
  exact oneLt_int ⟨rfl,rfl⟩
 asym:=fun x y _ _ h=>decide_eq_false (by have:=of_decide_eq_true h; omega)
 tr:=fun x y z _ _ _ h1 h2=>decide_eq_false (by have:=of_decide_eq_false h1; have:=of_decide_eq_false h2; omega)
theorem sort_rest {vs:List Value} {kd:SortKind} {lt:Keyed→Keyed→Bool} {P:PySem.Fin→Shared→Prop} (hz:vs.length ≤ 10000000)
  (hkd:∀ (A':Around) (E':Value→Shared→Prop) h3,(∀ b o,s.heap.get? b = some o→h3.get? b = some o)→∀ (Q:SortKind→Shared→Prop),2 ≤ vs.length→Q kd { s with heap:=h3 }→wpAny (model prog w) A' (keyKind' vs.toArray) Q E' { s with heap:=h3 })
  (hO:∀ (A':Around) (E':Value→Shared→Prop) h3,(∀ b o,s.heap.get? b = some o→h3.get? b = some o)→LtOk prog w A' E' { s with heap:=h3 } kd (fun x=>x.1 = x.2∧x.1 ∈ vs) lt)
  (h:∀ D h' c (out:List Value),s.heap.objs.size ≤ D→(∀ b o,s.heap.get? b = some o→h'.get? b = some o)→out.Perm vs→out.Pairwise (fun x y=>lt (y,y) (x,x) = false)→h'.get? D = some (seqObj "list" out.toArray c)→P (.done (.ret (.ref D))) { s with heap:=h' }) :
  wpAny (model prog w) A (newList vs >>= fun l=>holding [l] (call (.builtin "list.sort") [l] []) >>= fun _=>ret l) P E s:=by
 refine wpAny_bind (wpAny_newList ?_ (by show vs.length ≤ _; rw [sizeLine_eq]; omega))
 have hoL:(s.heap.push (seqObj "list" vs.toArray 0)).get? s.heap.objs.size = some (seqObj "list" vs.toArray 0):=Heap.get?_push_size _ rfl
 have keep:∀ b o,s.heap.get? b = some o→(s.heap.push (seqObj "list" vs.toArray 0)).get? b = some o:=fun b o q=>Heap.get?_push_of_some _ q
 show wpAny _ _ _ _ _ { s with heap:=s.heap.push (seqObj "list" vs.toArray 0) }
 refine wpAny_bind (wpAny_holding (wpAny_call_entry slot_list_sort ⟨_,hoL,rfl⟩ entry_list_sort ?body (args_list_sort _)))
 case body =>
  refine list_sort_gen (s:={ s with heap:=s.heap.push (seqObj "list" vs.toArray 0) }) (kd:=kd) (lt:=lt) hoL hz (fun h3 k=>hkd _ _ h3 fun b o e=>k b o (Nat.ne_of_lt (Heap.lt_size e)) (keep b o e)) (fun h3 k=>hO _ _ h3 fun b o e=>k b o (Nat.ne_of_lt (Heap.lt_size e)) (keep b o e)) fun h' c out k1 hp hs k2=>?_
  exact ⟨_,rfl,wpAny_pure (h _ h' c out (Nat.le_refl _) (fun b o e=>k1 b o (Nat.ne_of_lt (Heap.lt_size e)) (keep b o e)) hp hs k2)⟩
theorem kind_ints {vs:List Value} {ns:List Int} (hI:IntsAre vs ns) (h2:2 ≤ vs.length) {Q:SortKind→Shared→Prop} (h:Q oneType' s):wpAny (model prog w) A (keyKind' vs.toArray) Q E s:=by
 match vs,hI,h2 with
 | v1 :: v2 :: r,hI,_ =>
  rw [keyKind_ints hI]
  exact wpAny_pure h
end
theorem ints_num:∀ {vs:List Value} {ns:List Int},IntsAre vs ns→vs.map numOf = ns
 | _,_,.nil=>rfl
 | _,_,.cons n t h=>by rw [List.map_cons,ints_num h]; rfl
theorem intsAre_back:∀ {vs:List Value},(∀ v ∈ vs,∃ n t,v = Value.int n t)→IntsAre vs (vs.map numOf)
 | [],_=>.nil
 | v :: r,h=>by
  obtain ⟨n,t,rfl⟩:=h v List.mem_cons_self
  exact .cons n t (intsAre_back fun x m=>h x (List.mem_cons_of_mem _ m))
section
variable {X:Cx} {pins:List (Addr × Obj)} {σ:St} {H H':Hp} {s:Shared} {h':Heap}
end
theorem sorted_out {out vs:List Value} {ns:List Int} (hI:IntsAre vs ns) (hp:out.Perm vs) (hs:out.Pairwise (fun x y=>decide (numOf (y,y).1 < numOf (x,x).1) = false)):IntsAre out (out.map numOf)∧(out.map numOf).Perm ns∧(out.map numOf).Pairwise (· ≤ ·):=by
 refine ⟨intsAre_back fun v m=>hI.all v (hp.mem_iff.mp m),?_,?_⟩
 ·have:=hp.map numOf
  rwa [ints_num hI] at this
 ·rw [List.pairwise_map]
  exact hs.imp fun h=>by have:=of_decide_eq_false h; dsimp only at this; omega
def rSortD:List V→Hp→VK→Prop:=fun xs H Q=>∃ p ob m,xs = [.ref p]∧H p = some (.frz ob (.dK m))∧∃ ns:List Int,m.map (·.1) = ns.map Sum.inl∧ns.length ≤ 10000000∧∀ (l:Addr) (ms:List Int),H l = none→ms.Perm ns→ms.Pairwise (· ≤ ·)→Q (.ref l) (upd H l (.lst (ms.map V.int)))
theorem call_sortD {X:Cx} (hc:X.calm = true):CallR X (.builtin "sorted") rSortD:=by
 intro pins s σ H xs us Q I r h
 obtain ⟨p,ob,m,rfl,hp,ns,em,hn,q⟩:=h
 obtain ⟨u,rfl,rx⟩:=vals1 r
 cases rx
 obtain ⟨hne,hz,es,ep,vs,eo,kv,da⟩:=frz_at I.hok hp
 have hl:vs.length = m.length:=kv.length.symm
 have hm:m.length = ns.length:=by have:=congrArg List.length em; simpa using this
 refine Calls.call_function_entry kind_sorted plain_sorted entry_sorted (args_sorted1 _) ?_
 unfold Builtin.«sorted»
 refine wpAny_bind (m:=checkCount "sorted" 1 1 _) (wpAny_pure ?_)
 refine wpAny_bind (PySem.W.kdu_collect (A:=X.A.in1) (PySem.W.kdl_dict (knd:=mixKind X.prog X.w) (kvs:=vs) (ep:=ep) hne) (I.ok.hd hc) da (by rw [hl]; exact hz) fun h1 tk acc kp1 it=>?_)
 have ha:acc.size = m.length:=it.1.trans hl
 have hv:Vals (ns.map V.int) acc.toList:=vals_ix _ _ (by simp [ha,hm]) fun j x u ex eu=>by
  rw [List.getElem?_map] at ex
  cases en:ns[j]? with
  | none=>rw [en] at ex; cases ex
  | some n =>
   rw [en] at ex
   have ex':V.int n = x:=Option.some.inj ex
   subst ex'
   obtain ⟨k,y,e1,e2⟩:=it.2 j u (by rw [← Array.getElem?_toList]; exact eu)
   have ek:(m.map (·.1))[j]? = some (Sum.inl n):=by rw [em,List.getElem?_map,en]; rfl
   rw [List.getElem?_map] at ek
   cases emj:m[j]? with
   | none=>rw [emj] at ek; cases ek
   | some pr =>
    rw [emj] at ek
    obtain ⟨w,e3,_⟩:=kv.get emj
    rw [e1] at e3
    cases e3
    have:=kV_of e2
    rw [show pr.1 = Sum.inl n from Option.some.inj ek] at this
    exact this
 have hI:=intsAre_of hv
 refine sort_rest (s:={ s with heap:=h1,toks:=tk }) (kd:=oneType') (lt:=fun x y=>decide (numOf x.1 < numOf y.1)) (by rw [ints_len hI]; exact hn) (fun A' E' h3 _ Q h2 z=>kind_ints hI h2 z) (fun A' E' h3 _=>ltok_ints hI) fun D h' c out hD kp hp hs hg=>?_
 obtain ⟨o1,o2,o3⟩:=sorted_out hI hp hs
 have I1:Inv X pins σ H { s with heap:=h1,toks:=tk }:=I.kept (t':=tk) kp1
 refine ⟨_,rfl,.ref D,_,I1.laid (t':=tk) kp hD (show ObjOk X.prog X.w _ h' D (.lst ((out.map numOf).map V.int)) from ⟨?_,out,c,vals_ints o1,hg⟩),rfl,q _ _ (I1.hok.fresh hD) o2 o3⟩
 rw [List.length_map,o2.length_eq,sizeLine_eq]
 omega
def dSortD:List XV→Sto→RX→Prop:=fun xs S R=>arg1 xs fun x=>∃ m:List (Key × PyData),x = .d (.dict (DD.pairs (.k m)))∧∃ ns:List Int,m.map (·.1) = ns.map Sum.inl∧ns.length ≤ 10000000∧∀ ms:List Int,ms.Perm ns→ms.Pairwise (· ≤ ·)→R (.d (.list (ms.map PyData.int))) S
theorem HasM.keys {H:Hp}:∀ {m:List (Key × PyData)} {m':List (Key × V)},HasM H m m'→m'.map (·.1) = m.map (·.1)
 | [],_,q=>by
  have e:_ = []:=q
  subst e
  rfl
 | p :: r,_,⟨v,t,e,q,l⟩=>by
  subst e
  rw [List.map_cons,List.map_cons,HasM.keys l]
theorem rc_sortD:RC rSortD dSortD:=fun h o H S xs vs R Q hs hx q c=>by
 obtain ⟨x,rfl,m,rfl,ns,em,hn,q1⟩:=arg1_ex q
 obtain ⟨v,rfl,hx1⟩:=hxs1 hx
 obtain ⟨a,ob,m',rfl,ea,hm⟩:=has_dk.mp (show Has (vx h o H) _ _ from hx1)
 exact ⟨a,ob,m',rfl,vx_full _ _ ea,ns,hm.keys.trans em,hn,fun l ms hl pm pw=>mkLst hs (hasL_ints ms) c (q1 ms pm pw) l hl⟩
section
variable {X:Cx} {l:Expr} {te:TE} {p pos apos cpos:Pos}
end
end L2
set_option Elab.async false
set_option linter.all false
set_option maxRecDepth 100000
set_option maxHeartbeats 1000000
namespace L2
open PySem PySem.Spec PyProof.Rows
section
open PySem.SeqAt
open PySem.AutoSeq1 (wpAny_loadPart')
open PySem.MeetsSeq PySem.MeetsSeq2 PySem.MeetsSeq3
end
end L2
set_option Elab.async false
set_option linter.all false
set_option maxRecDepth 100000
set_option maxHeartbeats 1000000
namespace L2
open PySem PySem.Spec PyProof.Rows
end L2
set_option Elab.async false
set_option linter.all false
set_option maxRecDepth 100000
set_option maxHeartbeats 1000000
namespace L2
open PySem PySem.Spec PySem.Calls PyProof.Rows
section
variable {h o:List Addr} {H H':Hp} {S:Sto} {p:Addr}
end
end L2
set_option Elab.async false
set_option linter.all false
set_option maxRecDepth 100000
set_option maxHeartbeats 1000000
namespace L2
open PySem PySem.Spec PySem.Calls PyProof.Rows
section
variable {prog:Program} {w:World} {K:Type} [DecidableEq K] {knd:KeyKind prog w K}
theorem wp_setdef {A:Around} {E:Value→Shared→Prop} {s:Shared} {d:Addr} {kvs:List (K × Value)} {k:K} {key v:Value} {Q:Value→Shared→Prop} (hkey:knd.is k key = true) (hm:s.heap.DictOf knd d kvs) (hsz:kvs.length ≤ sizeLine)
  (h1:∀ x,valueAt kvs k = some x→Q x { s with toks:=s.toks + 1 })
  (h2:valueAt kvs k = none→∀ h',h'.DictOf knd d (stored kvs k v)→Heap.SameBut d s.heap h'→Q v { s with heap:=h',toks:=s.toks + 1 }):wpAny (model prog w) A (dictSetDefault d key v) Q E s:=by
 obtain ⟨o',es',ep',ho',_,hd',_,hf⟩:=hm.mapOf
 obtain ⟨o,es,ep,ho,hc,hd,hk,hp,hn⟩:=hm
 have eo:o = o':=Option.some.inj (ho.symm.trans ho')
 subst eo
 have ee:es = es':=by
  have:=hd.symm.trans hd'
  injection this
 subst ee
 have hes:es.size ≤ sizeLine:=by
  have e1:=hp.length
  have e2:es.toList.length = es.size:=by simp
  omega
 have hv:=hf k
 rw [findBy_of_findIdx?] at hv
 unfold dictSetDefault
 try with_reducible refine wpAny_holding ?_
 refine wpAny_bind (knd.pyHash hkey ?_)
 refine wpAny_bind (wpAny_dictFind_of (s:={ s with toks:=s.toks + 1 }) hkey ho hd hk ?_)
 have hidx:(es.findIdx? fun e=>knd.is k e.key) = kvs.findIdx? fun kv=>decide (kv.1 = k):=by
  rw [← hp.findIdx k]; obtain ⟨l⟩:=es; simp
 cases hi:es.findIdx? fun e=>knd.is k e.key with
 | some i =>
  rw [hi] at hv
  refine wpAny_bind (wpAny_dictEntries (s:={ s with toks:=s.toks + 1 }) ho hd ?_)
  have hlt:i < es.size:=by
   have:=Array.findIdx?_eq_some_iff_getElem.mp hi
   exact this.1
  have he:es[i]? = some es[i]:=Array.getElem?_eq_getElem hlt
  replace hv:es[i]?.map (fun x=>x.val) = valueAt kvs k:=hv
  rw [he] at hv ⊢
  exact wpAny_bind (wpAny_rule (wpAny_pure (h1 _ hv.symm)))
 | none =>
  rw [hi] at hv
  replace hv:none = valueAt kvs k:=hv
  have hnot:k ∉ kvs.map (·.1):=not_mem_of_findIdx_none (hidx ▸ hi)
  have hany:¬ (kvs.any fun kv=>decide (kv.1 = k)) = true:=by
   rw [List.any_eq_true]; rintro ⟨kv,hkv,he⟩
   exact hnot (List.mem_map.mpr ⟨kv,hkv,of_decide_eq_true he⟩)
  refine wpAny_bind (wpAny_rule (wpAny_bind (wpAny_updateDictKeys (hz:=hes) (s:={ s with toks:=s.toks + 1 }) ho hd (wpAny_pure (h2 hv.symm _ ⟨_,_,ep + 1,Heap.get?_update_self _ ho (Obj.isFreed_of_dict (Obj.data_mapDictKeys hd _)),
   hc.mapDictKeys _,Obj.data_mapDictKeys hd _,hk.push hkey _,?_,?_⟩ (Heap.SameBut.update ..))))))
  ·rw [stored,if_neg hany]
   have:=hp.append hkey (knd.hash k) v
   obtain ⟨l⟩:=es
   simpa using this
  ·rw [stored,if_neg hany,List.map_append,List.nodup_append]
   refine ⟨hn,by simp,?_⟩
   intro a ha b hb
   simp only [List.map_cons,List.map_nil,List.mem_singleton] at hb
   subst hb
   exact fun e=>hnot (e ▸ ha)
theorem meets_setdef {d:Addr} {k:K} {key:Value} (hkey:knd.is k key = true) (hd:(d == sysModules) = false) (v:Value) :
  MeetsIn prog w (Builtin.«dict.setdefault» ⟨[.ref d,key,v],[]⟩) (fun _ R s=>∃ kvs,s.heap.DictOf knd d kvs∧kvs.length ≤ sizeLine∧(∀ x,valueAt kvs k = some x→R (.ok (.ret x)) { s with toks:=s.toks + 1 }) ∧
   (valueAt kvs k = none→∀ h',h'.DictOf knd d (stored kvs k v)→Heap.SameBut d s.heap h'→R (.ok (.ret v)) { s with heap:=h',toks:=s.toks + 1 })) :=
 .of_wp fun A R s ⟨kvs,hm,hsz,h1,h2⟩=>by
  unfold Builtin.«dict.setdefault»
  refine wpAny_bind ?_
  unfold Builtin.Dict.keyAndDefault
  refine wpAny_bind (wpAny_notOrdered_dict hm.typeIs ?_)
  show wpAny _ _ (pure (d,key,some v)) _ _ s
  refine wpAny_pure ?_
  simp only [hd,Bool.false_eq_true,if_false]
  refine wpAny_bind (wp_setdef hkey hm hsz (fun x e=>wpAny_pure ⟨x,rfl,h1 x e⟩) fun e h' d' sb=>wpAny_pure ⟨v,rfl,h2 e h' d' sb⟩)
end
section
variable {X:Cx} {pins:List (Addr × Obj)} {σ:St} {H:Hp} {s:Shared} {a:Addr} {kvs:List (Key × V)} {k:Key} {u r:Value} {v:V} {A:Around} {E:Value→Shared→Prop}
theorem d_setdef {Q:Value→Shared→Prop} (I:Inv X pins σ H s) (e:H a = some (.dK kvs)) (hz:kvs.length < sizeLine) (ry:RelV (kV k) u) (rv:RelV v r)
  (h1:∀ x w' s',valV kvs k = some x→Inv X pins σ H s'→RelV x w'→Q w' s') (h2:valV kvs k = none→∀ s',Inv X pins σ (upd H a (.dK (putK kvs k v))) s'→Q r s') :
  wpAny (model X.prog X.w) A (call (.builtin "dict.setdefault") [.ref a,u,r]) Q E s:=by
 obtain ⟨z,hd,vs,rel,dd⟩:=dk_of I.hok e
 have hl:(putK kvs k v).length ≤ sizeLine:=by have:=length_putK kvs k v; omega
 refine call_meetsIn PySem.F.slot_dict_setdefault dd.typeIs PySem.F.entry_dict_setdefault (PySem.F.args_dict_setdefault_3 _ _ _) (meets_setdef (knd:=mixKind X.prog X.w) (kV_is ry) hd r) ⟨vs,dd,by rw [← rel.length]; exact z,fun x ex=>?_,fun en h' dd' hs=>?_⟩
 ·have:=rel.val k
  rw [ex] at this
  cases ev:valV kvs k with
  | none=>rw [ev] at this; exact absurd this (fun z=>nomatch z)
  | some y =>
   rw [ev] at this
   exact h1 y x _ ev (I.tok _) this
 ·have:=rel.val k
  rw [en] at this
  have ev:valV kvs k = none:=by
   cases ev:valV kvs k with
   | none=>rfl
   | some y=>rw [ev] at this; exact absurd this (fun z=>nomatch z)
  have he:∃ q,h'.get? a = some q:=let ⟨q,_,_,hq,_⟩:=dd'; ⟨q,hq⟩
  exact h2 ev _ (d_write I (by rw [e]; exact True.intro) hs he (dk_new hl hd (rel.put k rv) dd'))
end
def tDSet (td ty tx:TE):TE:=fun σ H Q=>td σ H fun x H1=>∃ a,x = .ref a∧IsD H1 a∧ty σ H1 fun y H2=>tx σ H2 fun z H3=>∃ kvs k,H3 a = some (.dK kvs)∧kvs.length < sizeLine∧y = kV k∧(∀ v,valV kvs k = some v→Q v H3)∧(valV kvs k = none→Q z (upd H3 a (.dK (putK kvs k z))))
theorem pe_dset {X:Cx} {o e f:Expr} {apos cpos:Pos} {td ty tx:TE} (ho:PE X o td) (he:PE X e ty) (hf:PE X f tx) (m:M2 X o "setdefault" apos e f cpos):PE X (.Call (.Attribute o "setdefault" apos) [e,f] [] cpos) (tDSet td ty tx):=by
 intro pins s σ H Q I h
 refine wpAny_Call_method m.base m.few m.line PySem.F.plainAttrs_dict PySem.F.slot_dict_setdefault PySem.F.type_dict_setdefault (thn (ho pins s σ H _ I h) fun u s1 ⟨x,H1,I1,rx,a,ex,d,q1⟩=>?_)
 subst ex
 obtain rfl:u = Value.ref a:=rx
 obtain ⟨t1,t2,_⟩:=isD_at I1 d
 refine ⟨t1,t2,?_⟩
 rw [m.trees]
 refine Calls.callWith_builtin rfl (Calls.evalArgs_plain (Calls.spliced_cons (thn (he pins s1 σ H1 _ I1 q1) fun iv s2 ⟨y,H2,I2,ry,q2⟩ =>
  Calls.spliced_cons (thn (hf pins s2 σ H2 _ I2 q2) fun fv s3 ⟨z,H3,I3,rz,kvs,k,ea,hz,ey,q3,q4⟩=>Calls.spliced_nil ?_))))
 subst ey
 exact d_setdef I3 ea hz ry rz (fun x w' s' ex I4 rw'=>⟨x,H3,I4,rw',q3 x ex⟩) fun en s' I4=>⟨z,_,I4,rz,q4 en⟩
def dmSet (j:Nat) (dk dv:DM→DE):DSm:=fun En δ S M=>dVar j δ S fun y S1=>∃ a m,y = .o (.ref a)∧(a,DD.k m) ∈ M∧dk M δ S1 fun z S2=>dv M δ S2 fun x S3=>asD z fun k=>asD x fun d=>∃ kk,keyK k = some kk∧m.length < 1000∧if (lkA m kk).isSome = true then En.nx δ S3 M else En.nx δ S3 (setM M a (.k (ptA m kk d)))
theorem rm_set {E:XK} {EX:EXD} {j:Nat} {ty tv:TE} {dk dv:DM→DE} (hk:∀ M,REp (PhM M) ty (dk M)) (hv:∀ M,REp (PhM M) tv (dv M)):RSm E EX (tDrop (tDSet (tVar j) ty tv)) (dmSet j dk dv):=fun h o0 H0 o H δ σ S M En D e0 fr he hs rm q c x=>by
 obtain ⟨y1,ey,a,m,rfl,mD,d2⟩:=q
 obtain ⟨v1,ev,hv1⟩:=he.get j _ ey
 have ev1:v1 = .ref a:=hv1
 subst ev1
 refine ⟨_,ev,a,rfl,?_,hk M (h ++ ad M) o H δ σ S _ _ he hs d2 (fun o1 H1 S1 z u e1 s1 z1 d3=>hv M (h ++ ad M) o1 H1 δ σ S1 _ _ (he.mono e1) s1 d3 (fun o2 H2 S2 y v e2 s2 x2 d4=>?_) ⟨h,rfl,rm.mono e1⟩) ⟨h,rfl,rm⟩⟩
 ·obtain ⟨m0,z0,_⟩:=rm.ct a (.k m) mD
  exact .inl ⟨m0,.inl z0⟩
 ·replace d4:=asD_ex d4
  obtain ⟨k,rfl,d4⟩:=d4
  obtain ⟨d,rfl,kk,ek,hl,n⟩:=asD_ex d4
  have e12:=e1.trans e2
  have rm2:=rm.mono e12
  have ma:a ∈ ad M:=List.mem_map.mpr ⟨_,mD,rfl⟩
  obtain ⟨m',e3,l⟩:=rm2.ct a (.k m) mD
  have mh:a ∈ h ++ ad M:=List.mem_append_right _ ma
  have z2:Has (vx (h ++ ad M) o2 H2) k u:=z1.mono e2
  have hml:m'.length < sizeLine:=by rw [l.length]; exact small1000 (Nat.le_of_lt hl)
  refine ⟨m',kk,e3,hml,keyK_has ek z2,fun w ew=>?_,fun en=>?_⟩
  ·rcases l.val kk with ⟨y1,y2⟩ | ⟨d',w',y1,y2,y3⟩
   ·rw [y2] at ew; cases ew
   ·rw [y1] at n
    exact c.nx o2 H2 δ S2 M σ (e0.trans e12) rfl (he.mono e12) s2 rm2 n
  ·rcases l.val kk with ⟨y1,y2⟩ | ⟨d',w',y1,y2,y3⟩
   ·rw [y1] at n
    have fin:∀ H',H' a = some (MO.k (putK m' kk v)).ho→DAt (vx (h ++ ad M) o2 H2) H' a (.k (ptA m kk d)):=fun H' z=>⟨_,z,l.put x2⟩
    refine c.nx o2 _ δ S2 (setM M a (.k (ptA m kk d))) σ ⟨(e0.trans e12).pre,fun b w' nb zb=>?_⟩ ad_set ?_ ?_ (rm2.put mD fin) n
    ·obtain ⟨z1,z3⟩:=(e0.trans e12).kp b w' nb zb
     exact ⟨z1,by rw [upd_ne (fun z=>by rw [z,fr a ma] at zb; cases zb)]; exact z3⟩
    ·rw [ad_set]
     exact (he.mono e12).view (vx_hidden mh)
    ·rw [ad_set]
     exact s2.hidden (u:=.k (putK m' kk v)) mh
   ·rw [y2] at en; cases en
def dDisp1 (k:Int) (e:DE):DE:=fun δ S R=>e δ S fun x S1=>asD x fun d=>R (.d (.dict [(.int k,d)])) S1
theorem re_dispG {k:Int} {te:TE} {de:DE} (he':RE te de):RE (tFzE (tDisp [(tC (.int k),te)])) (dDisp1 k de):=fun h o H δ σ S R Q he hs q c p hp=>by
 have f1:=hs.fresh hp
 have sv:Same (vx h o H) (vx (h ++ [p]) o (upd H p (.dK []))):=fun b w z=>by
  obtain ⟨z1,z2,z3⟩:=vx_iff.mp z
  have ne:b ≠ p:=ne_of_none z3 hp
  exact vx_iff.mpr ⟨fun m=>(List.mem_append.mp m).elim z1 fun m=>ne (List.mem_singleton.mp m),z2,by rw [upd_ne ne]; exact z3⟩
 have s1:RepS (h ++ [p]) o (upd H p (.dK [])) S:=by
  refine ⟨hs.len,hs.nd,fun a ma z=>?_,fun b mb=>?_,fun k b ds e1 e2=>?_⟩
  ·rcases List.mem_append.mp z with z | z
   ·exact hs.dis a ma z
   ·rw [List.mem_singleton.mp z] at ma
    exact f1.2 ma
  ·rcases List.mem_append.mp mb with m | m
   ·obtain ⟨w,ew⟩:=hs.hal b m
    exact ⟨w,Same.laid hp _ _ ew⟩
   ·rw [List.mem_singleton.mp m]
    exact ⟨.k [],upd_same⟩
  ·obtain ⟨vs,e3,l⟩:=hs.cont k b ds e1 e2
   exact ⟨vs,Same.laid hp _ _ e3,HasL.mono sv _ _ l⟩
 refine he' (h ++ [p]) o (upd H p (.dK [])) δ σ S _ _ (he.to sv) s1 q fun o1 H1 S1 x v e1 s2 x1 d1=>?_
 replace d1:=asD_ex d1
 obtain ⟨d,rfl,d1⟩:=d1
 obtain ⟨np,ep⟩:=e1.kp p _ f1.2 upd_same
 refine ⟨ep,[(Sum.inl k,v)],rfl,by simp,p,mergeK [] [(Sum.inl k,v)],rfl,upd_same,fun ob=>?_⟩
 rw [upd_upd]
 have sw:Same (vx (h ++ [p]) o1 H1) (vx h o1 (upd H1 p (.frz ob (.dK (mergeK [] [(Sum.inl k,v)]))))):=fun b w z=>by
  obtain ⟨z1,z2,z3⟩:=vx_iff.mp z
  have ne:b ≠ p:=fun z=>z1 (z ▸ List.mem_append_right _ (List.mem_singleton.mpr rfl))
  exact vx_iff.mpr ⟨fun m=>z1 (List.mem_append_left _ m),z2,by rw [upd_ne ne]; exact z3⟩
 refine c o1 _ S1 (.d (.dict (DD.pairs (.k [(Sum.inl k,d)])))) _ ⟨e1.pre,fun b w nb eb=>?_⟩ ?_ ?_ d1
 ·have ne:b ≠ p:=ne_of_none eb hp
  obtain ⟨z1,z2⟩:=e1.kp b w nb (by rw [upd_ne ne]; exact eb)
  exact ⟨z1,by rw [upd_ne ne]; exact z2⟩
 ·refine ⟨s2.len,s2.nd,fun a ma z=>s2.dis a ma (List.mem_append_left _ z),fun b mb=>?_,fun k b ds e1 e2=>?_⟩
  ·obtain ⟨w,ew⟩:=s2.hal b (List.mem_append_left _ mb)
   exact ⟨w,by rw [upd_ne (fun z:b = p=>f1.1 (z ▸ mb))]; exact ew⟩
  ·obtain ⟨vs,e3,l⟩:=s2.cont k b ds e1 e2
   have mb:b ∈ o1:=List.mem_of_getElem? e1
   exact ⟨vs,by rw [upd_ne (fun z:b = p=>np (z ▸ mb))]; exact e3,HasL.mono sw _ _ l⟩
 ·show Has _ _ _
  exact has_dk.mpr ⟨p,ob,mergeK [] [(Sum.inl k,v)],rfl,vx_iff.mpr ⟨f1.1,np,upd_same⟩,⟨v,[],rfl,Has.mono sw _ _ x1,rfl⟩⟩
end L2
set_option Elab.async false
set_option linter.all false
set_option maxRecDepth 100000
namespace L2
open PySem PySem.Spec PySem.Calls PyProof.Rows
end L2
set_option Elab.async false
set_option linter.all false
set_option maxRecDepth 100000
set_option maxHeartbeats 1000000
namespace L2
open PySem PySem.Spec PyProof.Rows
section
variable {E:XK} {EX:EXD} {tb:TS} {db:DSm} {i:Nat}
end
end L2
set_option Elab.async false
set_option linter.all false
set_option maxRecDepth 100000
namespace L2
open PySem PySem.Spec PyProof.Rows
section
variable {X:Cx} {es l:List Expr} {te tk tv:TE} {t:TA} {p pos':Pos} {ks:List (Option Expr)} {e k v:Expr} {x:Str} {ps:List Str} {j:Nat}
end
end L2
set_option Elab.async false
set_option linter.all false
set_option maxRecDepth 100000
namespace L2
theorem len0 {α:Type} {l:List α} (h:l.length = 0):l = []:=List.eq_nil_of_length_eq_zero h
theorem len1 {α:Type} {l:List α} (h:l.length = 1):∃ a0,l = [a0]:=by
 cases l with
 | nil=>cases h
 | cons x r =>
  obtain rfl:=len0 (Nat.succ.inj h)
  exact ⟨x,rfl⟩
theorem len2 {α:Type} {l:List α} (h:l.length = 2):∃ a0 a1,l = [a0,a1]:=by
 cases l with
 | nil=>cases h
 | cons x r =>
  obtain ⟨a1,rfl⟩:=len1 (Nat.succ.inj h)
  exact ⟨x,a1,rfl⟩
theorem len3 {α:Type} {l:List α} (h:l.length = 3):∃ a0 a1 a2,l = [a0,a1,a2]:=by
 cases l with
 | nil=>cases h
 | cons x r =>
  obtain ⟨a1,a2,rfl⟩:=len2 (Nat.succ.inj h)
  exact ⟨x,a1,a2,rfl⟩
theorem len4 {α:Type} {l:List α} (h:l.length = 4):∃ a0 a1 a2 a3,l = [a0,a1,a2,a3]:=by
 cases l with
 | nil=>cases h
 | cons x r =>
  obtain ⟨a1,a2,a3,rfl⟩:=len3 (Nat.succ.inj h)
  exact ⟨x,a1,a2,a3,rfl⟩
theorem len5 {α:Type} {l:List α} (h:l.length = 5):∃ a0 a1 a2 a3 a4,l = [a0,a1,a2,a3,a4]:=by
 cases l with
 | nil=>cases h
 | cons x r =>
  obtain ⟨a1,a2,a3,a4,rfl⟩:=len4 (Nat.succ.inj h)
  exact ⟨x,a1,a2,a3,a4,rfl⟩
end L2
set_option Elab.async false
set_option linter.all false
set_option maxRecDepth 100000
set_option maxHeartbeats 1000000
namespace L2
open PySem PySem.Spec PyProof.Rows
open Sem (wp)
section
variable {prog:Program} {w:World} {A:Around} {R:Result→Shared→Prop} {I:Addr} {fp wr:List Addr} {n:Nat} {P:Nat→Value→Prop} {St:Nat→Heap→Prop}
end
section
variable {prog:Program} {w:World} {A:Around} {E:Value→Shared→Prop} {s:Shared}
end
def tTruD (te:TE):TT:=fun σ H Q=>te σ H fun x H1=>∃ p ob m,x = .ref p∧H1 p = some (.frz ob (.dK m))∧Q (!m.isEmpty) H1
theorem pt_truD {X:Cx} {a:Expr} {ta:TE} (ha:PE X a ta) (he:∀ whole,isTrue a X.env whole = (do let v ← whole; standAt a.pos; holding [v] (truthy v))):PT X a (tTruD ta):=by
 intro pins s σ H Q I h
 refine isTrue_plain (thn (ha pins s σ H _ I h) fun v s1 ⟨x,H1,I1,r1,p,ob,m,ex,ea,q⟩=>?_) (he _)
 subst ex
 cases r1
 obtain ⟨hne,hz,es,ep,vs,eo,kv,da⟩:=frz_at I1.hok ea
 have hlen:m.length = vs.length:=kv.length
 have hsl:sizeLine = 16777216:=sizeLine_eq
 obtain ⟨o,es',ho,r⟩:=da
 exact wpAny_truthy_dict (knd:=mixKind X.prog X.w) (kvs:=vs) hne ⟨o,es',ep,ho,r⟩ (by omega) ⟨H1,I1.tok _,by rw [isEmpty_kv kv]; exact q⟩
def dTruD (e:DE):DT:=fun δ S R=>e δ S fun x S1=>∃ m:List (Key × PyData),x = .d (.dict (DD.pairs (.k m)))∧R (!m.isEmpty) S1
theorem hasM_emp {H:Hp}:∀ {m:List (Key × PyData)} {m':List (Key × V)},HasM H m m'→m'.isEmpty = m.isEmpty
 | [],_,q=>by rw [show _ = [] from q]; rfl
 | p :: r,_,⟨v,t,e,_,_⟩=>by rw [e]; rfl
theorem rt_truD {te:TE} {de:DE} (he':RE te de):RT (tTruD te) (dTruD de):=fun h o H δ σ S R Q he hs q c =>
 he' h o H δ σ S _ _ he hs q fun o1 H1 S1 x v e1 s1 x1 ⟨m,ex,d1⟩=>by
  subst ex
  obtain ⟨a,ob,m',rfl,ea,l⟩:=has_dk.mp (show Has _ _ v from x1)
  exact ⟨a,ob,m',rfl,vx_full _ _ ea,by rw [hasM_emp l]; exact c o1 H1 S1 _ e1 s1 d1⟩
end L2
set_option Elab.async false
set_option linter.all false
set_option maxRecDepth 100000
set_option maxHeartbeats 2000000
namespace L2
open PySem PySem.Spec PyProof.Rows
section
variable {prog:Program} {w:World} {A:Around} {E:Value→Shared→Prop} {s:Shared}
theorem SetI.few {led:Bool} {h:Heap} {S:Addr} {es:Array (Int × Value)} (hS:SetI led h S es) (L:List Int) (hk:∀ x,x ∈ es.toList.map kE→x ∈ L):es.size ≤ L.length:=by
 obtain ⟨o,ep,t,ho,hex,hd,hok,hnd,hz',tb⟩:=hS
 have:=nodup_len _ L hnd hk
 rwa [List.length_map,Array.length_toList] at this
theorem set_loopB {R:Result→Shared→Prop} {I:Addr} {fp wr:List Addr} {G:Array GenState→Array GenState→Prop} {n:Nat} {P:Nat→Value→Prop} {St:Nat→Shared→Prop} {led:Bool} (W:WalksS prog w A.in1 I fp wr G n P St) (L:List Int) (hn:L.length < 60) (S:Addr) (hSf:S ∉ fp)
  (key:Nat→Int) (hP:∀ i v,P i v→∃ tk,v = .int (key i) tk) (hkL:∀ i,i < n→key i ∈ L) :
  ∀ (m i:Nat) (s:Shared) (es:Array (Int × Value)),n - i = m→i ≤ n→St i s→SetI led s.heap S es→(∀ x,x ∈ es.toList.map kE ↔ ∃ j,j < i∧x = key j) →
  (∀ s' es',Moved (S :: wr) G s s'→SetI led s'.heap S es'→(∀ x,x ∈ es'.toList.map kE ↔ ∃ j,j < n∧x = key j)→R (.ok (.ret .none)) s') →
  codeAny (model prog w) A (.builtin "set.update.loop" ⟨[.ref S,.ref I],[]⟩) R s:=by
 have hSw:S ∉ wr:=fun h=>hSf (W.sub _ h)
 have hsub:∀ b ∈ wr,b ∈ S :: wr:=fun b hb=>List.mem_cons_of_mem _ hb
 intro m
 induction m with
 | zero =>
  intro i s es hm hi hst hS hk hR
  obtain rfl:i = n:=by omega
  refine codeAny_builtin F4.entry_update_loop ?_
  rw [Around.under_plainId F4.plain_update_loop _]
  show wpAny _ A.in1 (pyNext (.ref I) >>= _) _ _ s
  refine wpAny_bind (W.done s _ _ hst fun s' mv=>?_)
  exact wpAny_pure (hR s' es (mv.mono hsub) (hS.at fun o e=>mv.heap S o hSw e) hk)
 | succ m ih =>
  intro i s es hm hi hst hS hk hR
  have hlt:i < n:=by omega
  refine codeAny_builtin F4.entry_update_loop ?_
  rw [Around.under_plainId F4.plain_update_loop _]
  show wpAny _ A.in1 (pyNext (.ref I) >>= _) _ _ s
  refine wpAny_bind (W.item i s _ _ hlt hst fun v s' hv hst' mv=>?_)
  obtain ⟨tk,rfl⟩:=hP i v hv
  have hS':SetI led s'.heap S es:=hS.at fun o e=>mv.heap S o hSw e
  have few:=hS'.few L fun x m=>by
   obtain ⟨j,hj,rfl⟩:=(hk x).mp m
   exact hkL j (by omega)
  refine wpAny_bind (wpAny_holding (set_add1 hS' (by omega) fun b h' es' sb S' mk z'=>?_))
  refine wpAny_pure ⟨plainId_quiet F4.plain_update_loop _,ih (i + 1) _ es' (by omega) hlt (W.frame _ s' h' (s'.toks + 1) hst' (Nat.le_succ _) fun b hb o e=>sb.extBut b o (fun z=>hSf (z ▸ hb)) e) S' (fun x=>?_) fun s'' es'' mv'' S'' k''=>?_⟩
  ·rw [mk x,hk x]
   constructor
   ·rintro (⟨j,hj,e⟩ | e)
    ·exact ⟨j,by omega,e⟩
    ·exact ⟨i,by omega,e⟩
   ·rintro ⟨j,hj,e⟩
    by_cases z:j = i
    ·subst z
     exact .inr e
    ·exact .inl ⟨j,by omega,e⟩
  ·exact hR s'' es'' (Moved.trans W.gtrans ((mv.mono hsub).then_heap (Nat.le_succ _) fun b o hb e=>sb.extBut b o (fun z=>hb (z ▸ List.mem_cons_self)) e) mv'') S'' k''
theorem upd_fromB {S l:Addr} {vs:Array Value} {ns:List Int} {led:Bool} {Q:Unit→Shared→Prop} (hh:A.handled = none) (hS:SetI led s.heap S #[]) (hl:s.heap.IsList l vs) (hz:vs.size = ns.length) (hv:∀ (i:Nat) v,vs[i]? = some v→∃ tk,v = .int (ns.getD i 0) tk) (L:List Int) (hn:L.length < 60) (hL:∀ x ∈ ns,x ∈ L)
  (h:∀ h' tk es,(∀ b o,b ≠ S→s.heap.get? b = some o→h'.get? b = some o)→SetI led h' S es→(∀ x,x ∈ es.toList.map kE ↔ x ∈ ns)→Q () { s with heap:=h',toks:=tk }) :
  wpAny (model prog w) A (Builtin.Frozenset.updateFrom "set.__init__" S (.ref l)) Q E s:=by
 have ty:s.TypeIs (.ref l) "list":=by
  obtain ⟨o,e,c,_⟩:=hl
  exact ⟨o,e,c⟩
 have lS:l ≠ S:=fun e=>by
  obtain ⟨o,_,_,e1,c1,_⟩:=hS
  obtain ⟨o',e',c',_⟩:=hl
  rw [e,e1] at e'
  cases e'
  rw [c1.1] at c'
  simp at c'
 unfold Builtin.Frozenset.updateFrom Builtin.Frozenset.isAnySet
 refine wpAny_bind (wpAny_bind (wpAny_isInstance ty F4.sub_list_set (wpAny_isInstance ty F4.sub_list_frz ?_)))
 simp only [Bool.false_eq_true,if_false]
 refine wpAny_bind (wpAny_typeOf ty ?_)
 rw [if_neg (by decide)]
 refine wpAny_bind (wpAny_pyIter_list hl ?_)
 obtain ⟨o,eo⟩:∃ o,s.heap.get? l = some o:=⟨_,hl.choose_spec.1⟩
 obtain ⟨oS,eS⟩:∃ o,s.heap.get? S = some o:=⟨_,hS.choose_spec.choose_spec.choose_spec.1⟩
 have ll:=Heap.lt_size eo
 have lS':=Heap.lt_size eS
 have up:∀ b ob,s.heap.get? b = some ob→(s.heap.push { cls:=.type "list_iterator",data:=.fields #[.ref l,.int 0 0] }).get? b = some ob:=fun b ob e=>Heap.get?_push_of_some _ e
 have W:=(Walks.list (prog:=prog) (w:=w) (A:=A.in1) hh s.heap.objs.size l (Nat.ne_of_lt ll) vs).toS
 refine wpAny_bind (wpAny_runValue (set_loopB (led:=led) W L hn S (by
  simp only [List.mem_cons,List.not_mem_nil,or_false,not_or]
  exact ⟨Nat.ne_of_lt lS',fun e=>lS e.symm⟩) (fun i=>ns.getD i 0) hv (fun j hj=>hL _ (by
   rw [hz] at hj
   simp only [List.getD_eq_getElem?_getD,List.getElem?_eq_getElem hj]
   exact List.getElem_mem hj)) _ 0 _ #[] rfl (Nat.zero_le _) ⟨⟨_,Heap.get?_push_size _ rfl,rfl,rfl⟩,hl.at fun ob e=>up l ob e⟩ (hS.at fun ob e=>up S ob e) (by simp) fun s' es mv S' ks=>?_))
 refine wpAny_pure ?_
 obtain ⟨h',gs',dr',tk',os'⟩:=s'
 obtain ⟨m1,m2,m3,m4,m5⟩:=mv
 dsimp only at m1 m2 m3 m4 m5 S'
 subst m2 m3 m4
 refine h h' tk' es (fun b ob nb e=>m1 b ob (by
  simp only [List.mem_cons,List.not_mem_nil,or_false,not_or]
  exact ⟨nb,Nat.ne_of_lt (Heap.lt_size e)⟩) (up b ob e)) S' fun x=>?_
 rw [ks x,hz]
 constructor
 ·rintro ⟨j,hj,rfl⟩
  rw [List.getD_eq_getElem?_getD,List.getElem?_eq_getElem hj]
  exact List.getElem_mem hj
 ·intro m
  obtain ⟨j,hj,e⟩:=List.mem_iff_getElem.mp m
  exact ⟨j,hj,by rw [List.getD_eq_getElem?_getD,List.getElem?_eq_getElem hj]; exact e.symm⟩
theorem call_set1B {l:Addr} {vs:Array Value} {ns:List Int} {Q:Value→Shared→Prop} (hh:A.handled = none) (hl:s.heap.IsList l vs) (hz:vs.size = ns.length) (hv:∀ (i:Nat) v,vs[i]? = some v→∃ tk,v = .int (ns.getD i 0) tk) (L:List Int) (hn:L.length < 60) (hL:∀ x ∈ ns,x ∈ L)
  (h:∀ a h' tk es,s.heap.objs.size ≤ a→(∀ b o,s.heap.get? b = some o→h'.get? b = some o)→SetI (!w.params.followText "set-order") h' a es→(∀ x,x ∈ es.toList.map kE ↔ x ∈ ns)→Q (.ref a) { s with heap:=h',toks:=tk }) :
  wpAny (model prog w) A (call (.type "set") [.ref l]) Q E s:=by
 obtain ⟨c,tl,hmro⟩:=F.called_set.mro
 have hmade:=F.called_set.made
 have hsub:=F.called_set.sub
 refine wpAny_call (codeAny_of_tree ?_)
 show wpAny _ _ (callAny (.type "set") _) _ _ _
 refine wpAny_pure ⟨Code.quiet_builtin _ (by decide +kernel),codeAny_builtin F.entry_type_call ?_⟩
 rw [Around.under_plain (weight_type_call_type "set" [.ref l] []) rfl]
 have h1:=F.called_set.notType
 have h2:=F.called_set.canCreate
 have hct:=F4.typeCall_set_1 (.ref l)
 repeat (any_goals (first | assumption | wp_step))
 generalize hO:({ cls:=.type "set",dict:=none,data:=.set #[] 0 (.fresh 0 0 (!w.params.followText "set-order")) }:Obj) = O
 refine codeAny_mono (code_new1 (E:=E) (Q:=fun ob s1=>ob = .ref s.heap.objs.size∧s1 = { s with heap:=s.heap.push O }) ⟨rfl,by rw [hO]⟩) fun r s1 hr=>?_
 cases r with
 | error e=>exact hr
 | ok fl =>
  cases fl with
  | ret obj =>
   obtain ⟨rfl,rfl⟩:=hr
   have hS:(s.heap.push O).get? s.heap.objs.size = some O:=Heap.get?_push_size _ (by rw [← hO]; rfl)
   have hT:Shared.TypeIs { s with heap:=s.heap.push O } (.ref s.heap.objs.size) "set":=⟨_,hS,by rw [← hO]⟩
   have hli:=F.called_set.init.lookup
   have hbi:=F.called_set.init.bind (.ref s.heap.objs.size)
   repeat (any_goals (first | assumption | wp_step))
   refine codeAny_mono (codeAny_call_builtin (R:=wants (fun r s2=>r = .none∧Q (.ref s.heap.objs.size) s2) E) F.called_set.init.plain F.entry_set_init (check_init1 hT ?_)) fun r2 s2 hr2=>?_
   ·unfold Builtin.«set.__init__» noKeywords
    have hS0:SetI (!w.params.followText "set-order") (s.heap.push O) s.heap.objs.size #[]:=by
     subst hO
     exact ⟨_,_,_,hS,⟨rfl,rfl,rfl⟩,rfl,by simp,by simp,by simp,tab_fresh _⟩
    have hl1:(s.heap.push O).IsList l vs:=hl.at fun ob e=>Heap.get?_push_of_some _ e
    subst hO
    have key:=fun Q1=>@upd_fromB prog w A.in1.in1 (fun e s'=>wants (fun r s2=>r = Value.none∧Q (Value.ref s.heap.objs.size) s2) E (Except.error e) s') { s with heap:=s.heap.push { cls:=.type "set",dict:=none,data:=.set #[] 0 (.fresh 0 0 (!w.params.followText "set-order")) } } s.heap.objs.size l vs ns (!w.params.followText "set-order") Q1 hh hS0 hl1 hz hv L hn hL
    wp_walk using key _
    intro h' tk es kp S' ks
    exact wpAny_pure ⟨rfl,h _ h' tk es (Nat.le_refl _) (fun b o e=>kp b o (Nat.ne_of_lt (Heap.lt_size e)) (Heap.get?_push_of_some _ e)) S' ks⟩
   ·cases r2 with
    | error e=>exact hr2
    | ok fl2 =>
     cases fl2 with
     | ret r =>
      obtain ⟨rfl,hq⟩:=hr2
      repeat (any_goals (first | assumption | wp_step))
     | _=>exact hr2.elim
  | _=>exact hr.elim
theorem sorted_setB {l:Addr} {vs:Array Value} {ns:List Int} {Q:Value→Shared→Prop} (hh:A.handled = none) (hl:s.heap.IsList l vs) (hz:vs.size = ns.length) (hv:∀ (i:Nat) v,vs[i]? = some v→∃ tk,v = .int (ns.getD i 0) tk) (L:List Int) (hn:L.length < 60) (hL:∀ x ∈ ns,x ∈ L)
  (h:∀ D h' tk d out ms c,s.heap.objs.size ≤ D→(∀ b o,s.heap.get? b = some o→h'.get? b = some o)→IntsAre out ms→ms.Pairwise (· < ·)→(∀ x,x ∈ ms ↔ x ∈ ns)→h'.get? D = some (seqObj "list" out.toArray c)→Q (.ref D) { s with heap:=h',toks:=tk,drawn:=d }) :
  wpAny (model prog w) A (call (.type "set") [.ref l]) (fun a s'=>wpAny (model prog w) A (call (.builtin "sorted") [a]) Q E s') E s:=by
 refine call_set1B hh hl hz hv L hn hL fun a h1 tk es ha kp1 hSI hk=>?_
 obtain ⟨o,ep,t,ho,hex,hd,hok,hnd,hz',tb⟩:=hSI
 refine Calls.call_function_entry kind_sorted plain_sorted entry_sorted (args_sorted1 _) ?_
 unfold Builtin.«sorted»
 refine wpAny_bind (m:=checkCount "sorted" 1 1 1) (wpAny_pure ?_)
 refine wpAny_bind (collect_set (s:={ s with heap:=h1,toks:=tk }) (A:=A.in1) hh ho hex hd tb hz' fun h2 d us hp kp2=>?_)
 have ul:us.length = es.size:=by rw [hp.length_eq,List.length_map,Array.length_toList]
 have ui:∀ v ∈ us,∃ n t,v = Value.int n t:=fun v m=>by
  obtain ⟨e,me,rfl⟩:=List.mem_map.mp (hp.mem_iff.mp m)
  obtain ⟨n,t,e1,_⟩:=hok e me
  exact ⟨n,t,e1⟩
 obtain ⟨ns0,hI,e0⟩:=ints_of ui
 have p0:ns0.Perm (es.toList.map kE):=by
  rw [e0]
  refine (hp.map fun v=>kE (0,v)).trans ?_
  rw [List.map_map]
  exact List.Perm.refl _
 have el:es.size ≤ L.length:=by
  have:=nodup_len _ L hnd fun x m=>hL x ((hk x).mp m)
  rwa [List.length_map,Array.length_toList] at this
 refine wpAny_bind (wpAny_newList ?_ (by rw [ul,sizeLine_eq]; omega))
 have hoL:(h2.push (seqObj "list" us.toArray 0)).get? h2.objs.size = some (seqObj "list" us.toArray 0):=Heap.get?_push_size _ rfl
 refine wpAny_bind (wpAny_holding (wpAny_call_entry slot_list_sort ⟨_,hoL,rfl⟩ entry_list_sort (list_sort_tree (s:={ s with heap:=h2.push (seqObj "list" us.toArray 0),toks:=tk,drawn:=d }) hoL hI (by omega) fun out ms a1 a2 a3=>⟨_,rfl,?_⟩) (args_list_sort _)))
 have np:ms.Nodup:=(a2.trans p0).nodup_iff.mpr hnd
 obtain ⟨c,hc⟩:=sortedHeap_at (out:=out) hoL
 refine wpAny_pure ⟨_,rfl,h h2.objs.size _ tk d out.toList ms c ?_ (fun b o e=>?_) a1 ?_ (fun x=>?_) ?_⟩
 ·exact Nat.le_trans ha (Nat.le_of_lt (Heap.lt_size (kp2 a o ho)))
 ·have e2:=kp2 b o (kp1 b o e)
  have lb:=Heap.lt_size e2
  rw [sortedHeap_old (Nat.ne_of_lt lb) (by rw [size_push']; exact Nat.lt_succ_of_lt lb)]
  exact Heap.get?_push_of_some _ e2
 ·exact (List.Pairwise.and a3 np).imp fun ⟨h1,h2⟩=>by omega
 ·rw [(a2.trans p0).mem_iff,hk x]
 ·simpa using hc
end
def rSortSetB (K:PySem.W.Frag):List V→Hp→VK→Prop:=fun xs H Q=>∃ (p:Addr) (ns:List Int),xs = [.ref p]∧SqL K H p (ns.map V.int)∧(∃ L:List Int,L.length < 60∧∀ x ∈ ns,x ∈ L)∧∀ (l:Addr) (ms:List Int),H l = none→ms.Pairwise (· < ·)→(∀ x,x ∈ ms ↔ x ∈ ns)→Q (.ref l) (upd H l (.lst (ms.map V.int)))
section
variable {X:Cx} {e:Expr} {t:TA} {p p2 pos pos2:Pos}
theorem pe_sortsetB (hc:X.calm = true) (hgs:Gl X "sorted") (hms:X.mg "sorted" = none) (hgt:Gl X "set") (hmt:X.mg "set" = none) (ha:PA X [e] t)
  (he:starEach [e] X.env = (false,eval e X.env) :: starEach [] X.env:=by rfl) (hpl:(backTo pos2 (starEach [] X.env)).any (·.1) = false:=by rfl)
  (he2:starEach [Expr.Call (.Name "set" p2) [e] [] pos2] X.env = (false,eval (Expr.Call (.Name "set" p2) [e] [] pos2) X.env) :: starEach [] X.env:=by rfl) (hpl2:(backTo pos (starEach [] X.env)).any (·.1) = false:=by rfl) :
  PE X (.Call (.Name "sorted" p) [.Call (.Name "set" p2) [e] [] pos2] [] pos) (tCB (rSortSetB X.K) t):=by
 intro pins s σ H Q I h
 refine wpAny_Call_Name_kw (ld_blt I hgs hms boot_sorted ?_)
 refine PyProof.Rows.callWith_builtin1 ?_ he2 hpl2
 rw [he2]
 show wpAny _ _ (spliced [(false,eval (Expr.Call (.Name "set" p2) [e] [] pos2) X.env)]) _ _ s
 refine Calls.spliced_cons ?_
 refine wpAny_Call_Name_kw (ld_blt I hgt hmt boot_set ?_)
 refine PyProof.Rows.callWith_type1 (thn (ha pos2 pins s σ H _ I h) fun us s1 ⟨vs,H1,I1,r1,q1⟩=>?_) he hpl
 obtain ⟨pl,ns,rfl,hq,⟨L,hn,hL⟩,q⟩:=q1
 obtain ⟨u,rfl,rx⟩:=vals1 r1
 cases (show u = Value.ref pl from rx)
 obtain ⟨its,rv,pl',_⟩:=I1.list hq
 have hI:=intsAre_of rv
 refine wpAny_mono (sorted_setB (ns:=ns) (I1.ok.hd hc) pl'.isList (by rw [List.size_toArray]; exact ints_len hI) (fun i v hv=>ints_get hI i v (by simpa using hv)) L hn hL fun D h' tk d out ms c hD kp oI pw mm hg=>?_) (fun a s2 z=>Calls.spliced_nil z) fun _ _ z=>z
 refine ⟨.ref D,_,((I1.drw d).laid (t':=tk) kp hD (show ObjOk X.prog X.w _ h' D (.lst (ms.map V.int)) from ⟨?_,out,c,vals_ints oI,hg⟩)),rfl,q D ms (I1.hok.fresh hD) pw mm⟩
 have:=nodup_len ms L (pw.imp fun h=>by omega) fun x m=>hL x ((mm x).mp m)
 rw [List.length_map,sizeLine_eq]
 omega
end
def dSortSetB:List XV→Sto→RX→Prop:=fun xs S R=>arg1 xs fun x=>∃ ds,asLs S x = some ds∧∃ ns:List Int,ds = ns.map PyData.int∧(∃ L:List Int,L.length < 60∧∀ x ∈ ns,x ∈ L)∧∀ ms:List Int,ms.Pairwise (· < ·)→(∀ x,x ∈ ms ↔ x ∈ ns)→R (.d (.list (ms.map PyData.int))) S
theorem rc_sortsetB {K:PySem.W.Frag}:RC (rSortSetB K) dSortSetB:=fun h o H S xs vs R Q hs hx q c=>by
 obtain ⟨x,rfl,ds,hd,ns,rfl,hn,q1⟩:=arg1_ex q
 obtain ⟨v,rfl,hx1⟩:=hxs1 hx
 obtain ⟨a,ws,rfl,ea,l⟩:=hx_lst hs hd hx1
 rw [hasL_intsV l] at ea
 refine ⟨a,ns,rfl,.of ea,hn,fun l ms hl pw mm=>?_⟩
 exact mkLst hs (hasL_ints ms) c (q1 ms pw mm) l hl
end L2
set_option Elab.async false
set_option linter.all false
set_option maxRecDepth 100000
set_option maxHeartbeats 2000000
namespace L2
open PySem PySem.Spec PyProof.Rows
def dLoopZ (k:Nat) (es:List PyData) (g:DG) (b:DS):List PyData→DS
 | [],E,δ,S=>S[k]? = some es∧E.nx δ S
 | d :: ds,E,δ,S=>S[k]? = some es∧g (.d d) δ S fun δ1 S1=>b { nx:=fun δ2 S2=>dLoopZ k es g b ds E δ2 S2,ct:=fun δ2 S2=>dLoopZ k es g b ds E δ2 S2,bk:=E.nx,rt:=E.rt } δ1 S1
def dForZ (a:DA) (g:DG) (b:DS):DS:=fun E δ S=>a δ S fun xs S1=>arg2 xs fun x y=>∃ ds,seqD x = some ds∧∃ k es,y = .l k∧S1[k]? = some es∧dLoopZ k es g b (zipD ds es) E δ S1
theorem loopZ_at {k:Nat} {es:List PyData} {g:DG} {b:DS} {E:DEnds} {δ:XE} {S:Sto}:∀ {l:List PyData},dLoopZ k es g b l E δ S→S[k]? = some es
 | [],h=>h.1
 | _ :: _,h=>h.1
theorem rs_forZ {K:PySem.W.Frag} {ta:TA} {g:TG} {tb:TS} {da:DA} {dg:DG} {db:DS} (ha:RA ta da) (hg:RG g dg) (hb:RS tb db):RS (tFor (iZipG K ta) g tb) (dForZ da dg db):=fun h o H δ σ S E D he hs q c =>
 ha h o H δ σ S _ _ he hs q fun o1 H1 S1 xs vs e1 s1 x1 d0=>by
  obtain ⟨x,y,rfl,ds,hd,k,es,rfl,eS,d1⟩:=arg2_ex d0
  obtain ⟨v,u,rfl,hv,hu⟩:=hxs2 x1
  obtain ⟨t,a,ws,rfl,l,k1⟩:=seqD_has (K:=K) hd hv
  obtain ⟨ad,eo,rfl⟩:=hu
  have hl:=l.length
  have rd:∀ {o2 H2 S2},Ex o1 H1 o2 H2→RepS h o2 H2 S2→S2[k]? = some es→∃ zs,SqV K false H2 ad zs∧HasL (vx h o2 H2) es zs:=fun {o2 H2 S2} e2 s2 e=>by
   obtain ⟨r,rfl⟩:=e2.pre
   obtain ⟨zs,hz,lz⟩:=s2.cont k ad es (get_app eo) e
   exact ⟨zs,(SqL.of hz:SqL K H2 ad zs),lz⟩
  obtain ⟨zs0,hz0,_⟩:=rd Ex.refl s1 eS
  refine ⟨a,ad,t,false,rfl,⟨ws,k1 ExH.refl⟩,⟨zs0,hz0⟩,?_⟩
  refine ⟨fun i m σ2 H2=>m = (zipD ds es).length - i∧i ≤ (zipD ds es).length∧∃ o2 δ2 S2,Ex o1 H1 o2 H2∧RepE h o2 H2 δ2 σ2∧RepS h o2 H2 S2∧dLoopZ k es dg db ((zipD ds es).drop i) E δ2 S2,⟨(zipD ds es).length,by simp,Nat.zero_le _,o1,δ,S1,Ex.refl,he.mono e1,s1,d1⟩,?_⟩
  rintro i m σ2 H2 ⟨rfl,hi,o2,δ2,S2,e2,he2,hs2,d2⟩
  obtain ⟨zs,hz,l'⟩:=rd e2 hs2 (loopZ_at d2)
  have hl':=l'.length
  by_cases hlt:i < (zipD ds es).length
  ·have ed:(zipD ds es)[i]? = some (zipD ds es)[i]:=List.getElem?_eq_getElem hlt
   rw [List.drop_eq_getElem_cons hlt] at d2
   obtain ⟨d',e',h1,h2,eq⟩:=zipD_get ds es i _ ed
   obtain ⟨u1,eu1,hu1⟩:=l.get h1
   obtain ⟨u2,eu2,hu2⟩:=l'.get h2
   refine .inr ⟨⟨ws,zs,u1,u2,k1 e2.hid,hz,eu1,eu2⟩,fun σ3 H3=>∃ o3 δ3 S3,Ex o1 H1 o3 H3∧RepE h o3 H3 δ3 σ3∧RepS h o3 H3 S3∧dLoopZ k es dg db ((zipD ds es).drop (i + 1)) E δ3 S3,fun σ3 H3 n=>⟨(zipD ds es).length - (i + 1),by omega,rfl,hlt,n⟩,fun x H3 y=>?_⟩
   have key:Same H2 H3∧Has (vx h o2 H3) (zipD ds es)[i] x:=by
    obtain ⟨p,v,u,hp,rfl,rfl,y1,y2⟩:=y
    have f1:=y1 ws (k1 e2.hid)
    have f2:=y2 zs hz
    rw [eu1] at f1
    rw [eu2] at f2
    cases f1
    cases f2
    rw [eq]
    exact ⟨Same.laid hp,has_tuple.mpr ⟨p,_,rfl,hs2.laid hp,hasL_cons.mpr ⟨_,_,rfl,(hu1.mono e2.vx).mono (vx_same (Same.laid hp)),hasL_cons.mpr ⟨_,_,rfl,hu2.mono (vx_same (Same.laid hp)),hasL_nil.mpr rfl⟩⟩⟩⟩
   obtain ⟨s3,hx⟩:=key
   have e23:Ex o2 H2 o2 H3:=Ex.of_same s3
   refine hg h o2 H3 δ2 σ2 S2 (.d (zipD ds es)[i]) x _ _ (he2.mono e23) (hs2.same s3) hx d2.2 fun o4 H4 δ4 S4 σ4 e4 he4 hs4 d4=>?_
   have e14:Ex o1 H1 o4 H4:=(e2.trans e23).trans e4
   have ce:=(c.pre e1).pre e14
   exact hb h o4 H4 δ4 σ4 S4 _ _ he4 hs4 d4 ⟨fun o5 H5 δ5 S5 σ5 e5 he5 hs5 d5=>⟨o5,δ5,S5,e14.trans e5,he5,hs5,d5⟩,ce.rt,ce.nx,fun o5 H5 δ5 S5 σ5 e5 he5 hs5 d5=>⟨o5,δ5,S5,e14.trans e5,he5,hs5,d5⟩⟩
  ·have ei:i = (zipD ds es).length:=by omega
   subst ei
   rw [List.drop_length] at d2
   have zl:=zipD_len ds es
   exact .inl ⟨⟨ws,zs,k1 e2.hid,hz,by omega⟩,c.nx o2 H2 δ2 S2 σ2 (e1.trans e2) he2 hs2 d2.2⟩
theorem loopZ_inv {k:Nat} {es:List PyData} {g:DG} {b:DS} {E:DEnds}:∀ {ds:List PyData} {δ:XE} {S:Sto} (I:Nat→XE→Sto→Prop),I 0 δ S→(∀ i δ S,I i δ S→S[k]? = some es) →
  (∀ i d δ S (N:XE→Sto→Prop),ds[i]? = some d→I i δ S→(∀ δ' S',I (i + 1) δ' S'→N δ' S')→g (.d d) δ S fun δ1 S1=>b { nx:=N,ct:=N,bk:=E.nx,rt:=E.rt } δ1 S1) →
  (∀ δ S,I ds.length δ S→E.nx δ S)→dLoopZ k es g b ds E δ S
 | [],δ,S,I,h0,hk,_,fin=>⟨hk 0 δ S h0,fin δ S h0⟩
 | d :: ds,δ,S,I,h0,hk,step,fin=>by
  refine ⟨hk 0 δ S h0,?_⟩
  show g (.d d) δ S fun δ1 S1=>b _ δ1 S1
  refine step 0 d δ S _ rfl h0 fun δ' S' h1=>?_
  exact loopZ_inv (ds:=ds) (fun i=>I (i + 1)) h1 (fun i=>hk (i + 1)) (fun i e δ S N hi=>step (i + 1) e δ S N (by simpa using hi)) fin
end L2
set_option Elab.async false
set_option linter.all false
set_option maxRecDepth 100000
namespace My
open PySem L2
def q_is_whole:PN:=fun xs S R=>(dRet (dAndV (dCB dIsi (dCons (dVar 0) (dCons (dO (.ty "int")) dNil))) (dNotV (dCB dIsi (dCons (dVar 0) (dCons (dO (.ty "bool")) dNil)))))) (dEnd S.length R) (xs.map some ++ List.replicate 0 none) S
def q_law_next:PN:=fun xs S R=>(dSeq (dAsg (dOp (dI (fun _ j=>0 < j) fun i j=>i % j) (dOp dAdd (dVar 0) (dC (.int 7919))) (dC (.int 2147483647))) (dgName 0)) (dRet (dOp (dI (fun _ j=>0 < j) fun i j=>i % j) (dOp dAdd (dOp dAdd (dOp dMul (dVar 0) (dVar 0)) (dOp dMul (dC (.int 48271)) (dVar 0))) (dC (.int 12345))) (dC (.int 2147483629))))) (dEnd S.length R) (xs.map some ++ List.replicate 0 none) S
def q_law_pen_of:PN:=fun xs S R=>(dSeq (dAsg (dCB (dI2 fun i j=>if j > i then j else i) (dCons (dVar 0) (dCons (dOp (dI0 fun i j=>i - j) (dC (.int 0)) (dVar 0)) dNil))) (dgName 1)) (dRet (dLstT (dCons (dVar 1) (dCons (dCB dInt1 (dCons (dOp (dIb fun i j=>decide (j ≤ i)) (dVar 1) (dOp (dI CPow fun i j=>i ^ j.toNat) (dC (.int 10)) (dC (.int 18)))) dNil)) (dCons (dOp (dI (fun _ j=>0 < j) fun i j=>i % j) (dVar 1) (dC (.int 1000003))) dNil)))))) (dEnd S.length R) (xs.map some ++ List.replicate 1 none) S
def q_law_whole:PN:=fun xs S R=>(dRet (dAndV (dCB dIsi (dCons (dVar 0) (dCons (dO (.ty "int")) dNil))) (dNotV (dCB dIsi (dCons (dVar 0) (dCons (dO (.ty "bool")) dNil)))))) (dEnd S.length R) (xs.map some ++ List.replicate 0 none) S
def q_law_draw:PN:=fun xs S R=>(dSeq (dIfS (dB (dOp dEqD (dOp dIx (dVar 0) (dC (.int 1))) (dC (.int 1)))) (dSeq (dAsg (dOp (dI (fun _ j=>0 < j) fun i j=>i % j) (dOp dIx (dVar 0) (dC (.int 0))) (dVar 1)) (dgName 2)) (dSeq (dAsg (dOp dFd (dOp dIx (dVar 0) (dC (.int 0))) (dVar 1)) (dgSet (dVar 0) (dC (.int 0)))) (dRet (dVar 2)))) dNext) (dSeq (dAsg (dCall 1 q_law_next (dCons (dOp dAdd (dCall 1 q_law_next (dCons (dOp dIx (dVar 0) (dC (.int 2))) dNil)) (dC (.int 7))) dNil)) (dgSet (dVar 0) (dC (.int 2)))) (dRet (dOp (dI (fun _ j=>0 < j) fun i j=>i % j) (dOp dFd (dOp dIx (dVar 0) (dC (.int 2))) (dC (.int 64))) (dVar 1))))) (dEnd S.length R) (xs.map some ++ List.replicate 1 none) S
def q_law_number:PN:=fun xs S R=>(dSeq (dAsg (dCallP 0 2 q_law_draw (dCons (dVar 0) (dCons (dC (.int 8)) dNil))) (dgName 1)) (dSeq (dIfS (dB (dOp (dIb fun i j=>decide (i < j)) (dVar 1) (dC (.int 5)))) (dRet (dOp (dI0 fun i j=>i - j) (dCallP 0 2 q_law_draw (dCons (dVar 0) (dCons (dC (.int 13)) dNil))) (dC (.int 6)))) dNext) (dSeq (dIfS (dB (dOp (dIb fun i j=>decide (i < j)) (dVar 1) (dC (.int 7)))) (dRet (dOp (dI0 fun i j=>i - j) (dCallP 0 2 q_law_draw (dCons (dVar 0) (dCons (dC (.int 2001)) dNil))) (dC (.int 1000)))) dNext) (dRet (dOp dMul (dOp (dI0 fun i j=>i - j) (dCallP 0 2 q_law_draw (dCons (dVar 0) (dCons (dOp dMul (dC (.int 2)) (dOp (dI CPow fun i j=>i ^ j.toNat) (dC (.int 10)) (dC (.int 30)))) dNil))) (dOp (dI CPow fun i j=>i ^ j.toNat) (dC (.int 10)) (dC (.int 30)))) (dOp (dI CPow fun i j=>i ^ j.toNat) (dC (.int 10)) (dC (.int 28)))))))) (dEnd S.length R) (xs.map some ++ List.replicate 1 none) S
def q_law_number_of:PN:=fun xs S R=>(dSeq (dAsg (dCallP 0 2 q_law_draw (dCons (dVar 0) (dCons (dC (.int 8)) dNil))) (dgName 1)) (dSeq (dIfS (dB (dOp (dIb fun i j=>decide (i < j)) (dVar 1) (dC (.int 5)))) (dRet (dOp (dI0 fun i j=>i - j) (dCallP 0 2 q_law_draw (dCons (dVar 0) (dCons (dC (.int 13)) dNil))) (dC (.int 6)))) dNext) (dSeq (dIfS (dB (dOp (dIb fun i j=>decide (i < j)) (dVar 1) (dC (.int 7)))) (dRet (dOp (dI0 fun i j=>i - j) (dCallP 0 2 q_law_draw (dCons (dVar 0) (dCons (dC (.int 2001)) dNil))) (dC (.int 1000)))) dNext) (dRet (dOp dMul (dOp (dI0 fun i j=>i - j) (dCallP 0 2 q_law_draw (dCons (dVar 0) (dCons (dOp dMul (dC (.int 2)) (dOp (dI CPow fun i j=>i ^ j.toNat) (dC (.int 10)) (dC (.int 30)))) dNil))) (dOp (dI CPow fun i j=>i ^ j.toNat) (dC (.int 10)) (dC (.int 30)))) (dOp (dI CPow fun i j=>i ^ j.toNat) (dC (.int 10)) (dC (.int 28)))))))) (dEnd S.length R) (xs.map some ++ List.replicate 1 none) S
def q_law_pen:PN:=fun xs S R=>(dSeq (dAsg (dCB (dI2 fun i j=>if j > i then j else i) (dCons (dVar 0) (dCons (dOp (dI0 fun i j=>i - j) (dC (.int 0)) (dVar 0)) dNil))) (dgName 1)) (dRet (dLstT (dCons (dVar 1) (dCons (dCB dInt1 (dCons (dOp (dIb fun i j=>decide (j ≤ i)) (dVar 1) (dOp (dI CPow fun i j=>i ^ j.toNat) (dC (.int 10)) (dC (.int 18)))) dNil)) (dCons (dOp (dI (fun _ j=>0 < j) fun i j=>i % j) (dVar 1) (dC (.int 1000003))) dNil)))))) (dEnd S.length R) (xs.map some ++ List.replicate 1 none) S
def q_is_same:PN:=fun xs S R=>(dRet (dAndV (dCB dIsi (dCons (dVar 0) (dCons (dO (.ty "tuple")) dNil))) (dAndV (dCB dAll (dCons (dComp [none] (diSeq (dVar 0)) (dgName 0) dNoIf (dCall 1 q_is_whole (dCons (dVar 0) dNil))) dNil)) (dOp dEqD (dVar 0) (dVar 1))))) (dEnd S.length R) (xs.map some ++ List.replicate 0 none) S
def q_first_row:PN:=fun xs S R=>(dRet (dIf (dB (dOp (dIb fun i j=>decide (j ≤ i)) (dVar 0) (dC (.int 0)))) (dDisp1 0 (dTup dNil)) (dC (.dict [])))) (dEnd S.length R) (xs.map some ++ List.replicate 0 none) S
def q_next_row:PN:=fun xs S R=>(dSeq (dOfM (dmNew true 3 (.k []) (dmFor (fun M=>(diEnumG (dCons (dVar 0) dNil))) (dgTup 2 (dgCons (dgName 4) (dgCons (dgName 5) dgNil))) (dmFor (fun M=>(diItems (dVar 1))) (dgTup 2 (dgCons (dgName 6) (dgCons (dgName 7) dgNil))) (dmIf (fun M=>(dB (dOp (dIb fun i j=>decide (i ≤ j)) (dOp dAdd (dVar 6) (dVar 5)) (dVar 2)))) (dmSet 3 (fun M=>(dOp dAdd (dVar 6) (dVar 5))) (fun M=>(dOp dAdd (dTup (dCons (dVar 4) dNil)) (dVar 7)))) (dmLift dNext)))))) (dRet (dVar 3))) (dEnd S.length R) (xs.map some ++ List.replicate 5 none) S
def q_stacks_that_do:PN:=fun xs S R=>(dRet (dCompT [none,none,some 2,some 1] (diItems (dVar 0)) (dgTup 2 (dgCons (dgName 0) (dgCons (dgName 1) dgNil))) (dB (dChain (dIb fun i j=>decide (i ≤ j)) (dIb fun i j=>decide (i ≤ j)) (dOp dIx (dVar 2) (dC (.int 0))) (dOp dAdd (dVar 3) (dVar 0)) (dOp dIx (dVar 2) (dC (.int 1))))) (dVar 1))) (dEnd S.length R) (xs.map some ++ List.replicate 0 none) S
def q_most_rise:PN:=fun xs S R=>(dSeq (dAsg (dOp (dI0 fun i j=>i - j) (dOp dIx (dVar 1) (dC (.int 1))) (dVar 0)) (dgName 2)) (dSeq (dIfS (dB (dOp (dIb fun i j=>decide (j < i)) (dVar 2) (dC (.int 200)))) dNever dNext) (dRet (dVar 2)))) (dEnd S.length R) (xs.map some ++ List.replicate 1 none) S
def q_law_shims:PN:=fun xs S R=>(dSeq (dAsg (dOp dIx (dLst (dCons (dC (.int 4)) (dCons (dC (.int 12)) (dCons (dC (.int 99)) dNil)))) (dCallP 0 2 q_law_draw (dCons (dVar 0) (dCons (dC (.int 3)) dNil)))) (dgName 1)) (dRet (dCB dTupOf (dCons (dCB dSortSet (dCons (dComp [none,some 0,some 1] (diRngX1 (dCons (dOp dAdd (dC (.int 1)) (dCallP 0 2 q_law_draw (dCons (dVar 0) (dCons (dC (.int 5)) dNil)))) dNil)) (dgName 0) dNoIf (dOp dAdd (dC (.int 1)) (dCallP 0 2 q_law_draw (dCons (dVar 1) (dCons (dVar 2) dNil))))) dNil)) dNil)))) (dEnd S.length R) (xs.map some ++ List.replicate 1 none) S
def q_rows_to_the_end:PN:=fun xs S R=>(dSeq (dAsg (dCall 2 q_most_rise (dCons (dVar 1) (dCons (dVar 2) dNil))) (dgName 3)) (dSeq (dAsg (dLstT (dCons (dCall 1 q_first_row (dCons (dVar 3) dNil)) dNil)) (dgName 4)) (dSeq (dWhile (dAnd (dTruD (dOp dIx (dVar 4) (dUn (dUI fun i=>-i) (dC (.int 1))))) (dNot (dTru (dCall 3 q_stacks_that_do (dCons (dOp dIx (dVar 4) (dUn (dUI fun i=>-i) (dC (.int 1)))) (dCons (dVar 1) (dCons (dVar 2) dNil))))))) (dDrop (dBM dAppend (dVar 4) (dCons (dCall 3 q_next_row (dCons (dVar 0) (dCons (dOp dIx (dVar 4) (dUn (dUI fun i=>-i) (dC (.int 1)))) (dCons (dVar 3) dNil)))) dNil)))) (dRet (dVar 4))))) (dEnd S.length R) (xs.map some ++ List.replicate 2 none) S
def q_law_way:PN:=fun xs S R=>(dSeq (dAsg (dCallP 0 1 q_law_number (dCons (dVar 0) dNil)) (dgName 2)) (dSeq (dAsg (dOp dAdd (dVar 2) (dOp dIx (dLst (dCons (dOp (dI0 fun i j=>i - j) (dCallP 0 2 q_law_draw (dCons (dVar 0) (dCons (dC (.int 12)) dNil))) (dC (.int 3))) (dCons (dCallP 0 2 q_law_draw (dCons (dVar 0) (dCons (dC (.int 30)) dNil))) (dCons (dCallP 0 2 q_law_draw (dCons (dVar 0) (dCons (dVar 1) dNil))) dNil)))) (dOp dFd (dOp dAdd (dCallP 0 2 q_law_draw (dCons (dVar 0) (dCons (dC (.int 8)) dNil))) (dC (.int 1))) (dC (.int 4))))) (dgName 3)) (dRet (dTup (dCons (dVar 2) (dCons (dTup (dCons (dVar 3) (dCons (dOp dAdd (dVar 3) (dOp dIx (dLst (dCons (dC (.int 0)) (dCons (dC (.int 0)) (dCons (dC (.int 1)) (dCons (dC (.int 3)) (dCons (dC (.int 8)) dNil)))))) (dCallP 0 2 q_law_draw (dCons (dVar 0) (dCons (dC (.int 5)) dNil))))) dNil))) dNil)))))) (dEnd S.length R) (xs.map some ++ List.replicate 2 none) S
def q_sums_of:PN:=fun xs S R=>(dRet (dCB dTupOf (dCons (dCB dSortD (dCons (dVar 0) dNil)) dNil))) (dEnd S.length R) (xs.map some ++ List.replicate 0 none) S
def q_law_next_row:PN:=fun xs S R=>(dSeq (dFrz (dSeq (dAsg (dLstT dNil) (dgName 3)) (dFor (diSeq (dVar 1)) (dgName 4) (dDrop (dBM dExtend (dVar 3) (dCons (dComp [none,some 4,some 2] (diSeq (dVar 0)) (dgName 0) (dB (dOp (dIb fun i j=>decide (i ≤ j)) (dOp dAdd (dVar 1) (dVar 0)) (dVar 2))) (dOp dAdd (dVar 1) (dVar 0))) dNil)))))) (dRet (dCB dTupOf (dCons (dCB dSortSetB (dCons (dVar 3) dNil)) dNil)))) (dEnd S.length R) (xs.map some ++ List.replicate 2 none) S
def q_law_first_row:PN:=fun xs S R=>(dSeq (dIfS (dB (dOp (dIb fun i j=>decide (j < i)) (dVar 0) (dOp dIx (dVar 1) (dC (.int 1))))) (dRet (dTup dNil)) dNext) (dRet (dTup (dCons (dC (.int 0)) dNil)))) (dEnd S.length R) (xs.map some ++ List.replicate 0 none) S
def q_law_hits_v2:PN:=fun xs S R=>(dRet (dOp dNeD (dComp [none,some 1,some 0] (diSeq (dVar 2)) (dgName 0) (dB (dChain (dIb fun i j=>decide (i ≤ j)) (dIb fun i j=>decide (i ≤ j)) (dOp dIx (dVar 1) (dC (.int 0))) (dOp dAdd (dVar 2) (dVar 0)) (dOp dIx (dVar 1) (dC (.int 1))))) (dVar 0)) (dLst dNil))) (dEnd S.length R) (xs.map some ++ List.replicate 0 none) S
def q_law_table:PN:=fun xs S R=>(dSeq (dAsg (dLstT dNil) (dgName 3)) (dSeq (dAsg (dCall 2 q_law_first_row (dCons (dVar 1) (dCons (dVar 2) dNil))) (dgName 4)) (dSeq (dWhile (dAnd (dB (dOp dNeD (dVar 4) (dTup dNil))) (dNot (dTru (dCall 3 q_law_hits_v2 (dCons (dVar 1) (dCons (dVar 2) (dCons (dVar 4) dNil))))))) (dSeq (dDrop (dBM dAppend (dVar 3) (dCons (dVar 4) dNil))) (dAsg (dCall 3 q_law_next_row (dCons (dVar 0) (dCons (dVar 4) (dCons (dOp (dI0 fun i j=>i - j) (dOp dIx (dVar 2) (dC (.int 1))) (dVar 1)) dNil)))) (dgName 4)))) (dSeq (dIfS (dB (dOp dEqD (dVar 4) (dTup dNil))) (dRet (dOp dAdd (dVar 3) (dLst (dCons (dTup dNil) dNil)))) dNext) (dRet (dVar 3)))))) (dEnd S.length R) (xs.map some ++ List.replicate 2 none) S
def q_law_due_v8:PN:=fun xs S R=>(dSeq (dIfS (dOr (dNot (dTru (dCB dIsi (dCons (dVar 4) (dCons (dO (.ty "list")) dNil))))) (dB (dOp dNeD (dCB dLenG (dCons (dVar 4) dNil)) (dVar 3)))) (dRet (dC (.bool false))) dNext) (dSeq (dAsg (dCall 2 q_law_first_row (dCons (dVar 1) (dCons (dVar 2) dNil))) (dgName 5)) (dSeq (dFor (diSeq (dVar 4)) (dgName 6) (dSeq (dIfS (dOr (dNot (dTru (dCB dIsi (dCons (dVar 6) (dCons (dO (.ty "tuple")) dNil))))) (dOr (dNot (dTru (dCB dAll (dCons (dComp [none] (diSeq (dVar 6)) (dgName 0) dNoIf (dCall 1 q_law_whole (dCons (dVar 0) dNil))) dNil)))) (dB (dOp dNeD (dVar 6) (dVar 5))))) (dRet (dC (.bool false))) dNext) (dSeq (dIfS (dTru (dCall 3 q_law_hits_v2 (dCons (dVar 1) (dCons (dVar 2) (dCons (dVar 5) dNil))))) (dRet (dC (.bool false))) dNext) (dAsg (dCall 3 q_law_next_row (dCons (dVar 0) (dCons (dVar 5) (dCons (dOp (dI0 fun i j=>i - j) (dOp dIx (dVar 2) (dC (.int 1))) (dVar 1)) dNil)))) (dgName 5))))) (dRet (dC (.bool true)))))) (dEnd S.length R) (xs.map some ++ List.replicate 2 none) S
def q_law_odd_row:PN:=fun xs S R=>(dSeq (dAsg (dCallP 0 2 q_law_draw (dCons (dVar 1) (dCons (dOp dAdd (dCB dLenG (dCons (dVar 0) dNil)) (dC (.int 1))) dNil))) (dgName 2)) (dSeq (dAsg (dLstT (dCons (dOp dAdd (dSl dSlW (dVar 0) dNoPart (dPart (dVar 2))) (dSl dSlW (dVar 0) (dPart (dOp dAdd (dVar 2) (dC (.int 1)))) dNoPart)) (dCons (dOp dAdd (dOp dAdd (dSl dSlW (dVar 0) dNoPart (dPart (dVar 2))) (dSl dSlW (dVar 0) (dPart (dVar 2)) (dPart (dOp dAdd (dVar 2) (dC (.int 1)))))) (dSl dSlW (dVar 0) (dPart (dVar 2)) dNoPart)) (dCons (dRevT (dVar 0) (dUn (dUI fun i=>-i) (dC (.int 1)))) (dCons (dCB dLstOf (dCons (dVar 0) dNil)) (dCons (dC .none) (dCons (dTup dNil) (dCons (dTup (dCons (dC (.int 0)) dNil)) (dCons (dC (.str "")) (dCons (dC (.int 0)) dNil)))))))))) (dgName 3)) (dSeq (dFor (diSeq (dLst (dCons (dC (.bool true)) (dCons (dC .none) (dCons (dC (.str "0")) (dCons (dC (.int 0)) (dCons (dC (.int 1)) (dCons (dUn (dUI fun i=>-i) (dC (.int 1))) (dCons (dTup (dCons (dC (.int 0)) dNil)) (dCons (dC (.bool false)) dNil)))))))))) (dgName 4) (dDrop (dBM dAppend (dVar 3) (dCons (dOp dAdd (dOp dAdd (dSl dSlW (dVar 0) dNoPart (dPart (dVar 2))) (dTup (dCons (dVar 4) dNil))) (dSl dSlW (dVar 0) (dPart (dOp dAdd (dVar 2) (dC (.int 1)))) dNoPart)) dNil)))) (dRet (dOp dIx (dVar 3) (dCallP 0 2 q_law_draw (dCons (dVar 1) (dCons (dCB dLenG (dCons (dVar 3) dNil)) dNil)))))))) (dEnd S.length R) (xs.map some ++ List.replicate 3 none) S
def q_table_holds:PN:=fun xs S R=>(dSeq (dAsg (dCall 2 q_most_rise (dCons (dVar 1) (dCons (dVar 2) dNil))) (dgName 5)) (dSeq (dIfS (dOr (dNot (dTru (dCB dIsi (dCons (dVar 4) (dCons (dO (.ty "list")) dNil))))) (dB (dOp dNeD (dCB dLenG (dCons (dVar 4) dNil)) (dVar 3)))) (dRet (dC (.bool false))) dNext) (dSeq (dAsg (dCall 1 q_first_row (dCons (dVar 5) dNil)) (dgName 6)) (dSeq (dFor (diSeq (dVar 4)) (dgName 7) (dSeq (dIfS (dOr (dNot (dTru (dCall 2 q_is_same (dCons (dVar 7) (dCons (dCall 1 q_sums_of (dCons (dVar 6) dNil)) dNil))))) (dTru (dCall 3 q_stacks_that_do (dCons (dVar 6) (dCons (dVar 1) (dCons (dVar 2) dNil)))))) (dRet (dC (.bool false))) dNext) (dAsg (dCall 3 q_next_row (dCons (dVar 0) (dCons (dVar 6) (dCons (dVar 5) dNil)))) (dgName 6)))) (dRet (dC (.bool true))))))) (dEnd S.length R) (xs.map some ++ List.replicate 3 none) S
def q_law_odd_v8:PN:=fun xs S R=>(dSeq (dAsg (dCallP 0 2 q_law_draw (dCons (dVar 1) (dCons (dOp dAdd (dCB dLenG (dCons (dVar 0) dNil)) (dC (.int 1))) dNil))) (dgName 2)) (dSeq (dAsg (dLst (dCons (dOp dAdd (dSl dSlG (dVar 0) dNoPart (dPart (dVar 2))) (dSl dSlG (dVar 0) (dPart (dOp dAdd (dVar 2) (dC (.int 1)))) dNoPart)) (dCons (dOp dAdd (dOp dAdd (dSl dSlG (dVar 0) dNoPart (dPart (dVar 2))) (dSl dSlG (dVar 0) (dPart (dVar 2)) (dPart (dOp dAdd (dVar 2) (dC (.int 1)))))) (dSl dSlG (dVar 0) (dPart (dVar 2)) dNoPart)) (dCons (dRev (dVar 0) (dUn (dUI fun i=>-i) (dC (.int 1)))) (dCons (dC .none) (dCons (dC (.dict [])) dNil)))))) (dgName 3)) (dSeq (dAsg (dOp dAdd (dVar 3) (dLst (dCons (dCB dTupOf (dCons (dVar 0) dNil)) (dCons (dOp dAdd (dVar 0) (dLst (dCons (dTup dNil) dNil))) (dCons (dOp dAdd (dVar 0) (dLst (dCons (dTup (dCons (dC (.int 0)) dNil)) dNil))) (dCons (dLst dNil) (dCons (dLst (dCons (dTup dNil) dNil)) (dCons (dLst (dCons (dTup (dCons (dC (.int 0)) dNil)) dNil)) (dCons (dC (.str "")) (dCons (dC (.int 0)) (dCons (dSl dSlG (dVar 0) dNoPart (dPart (dUn (dUI fun i=>-i) (dC (.int 1))))) dNil))))))))))) (dgName 3)) (dSeq (dIfS (dAnd (dB (dOp (dIb fun i j=>decide (i < j)) (dVar 2) (dCB dLenG (dCons (dVar 0) dNil)))) (dB (dOp (dIb fun i j=>decide (j < i)) (dCallP 0 2 q_law_draw (dCons (dVar 1) (dCons (dC (.int 3)) dNil))) (dC (.int 0))))) (dRet (dOp dAdd (dOp dAdd (dSl dSlG (dVar 0) dNoPart (dPart (dVar 2))) (dLst (dCons (dCallP 1 2 q_law_odd_row (dCons (dOp dIx (dVar 0) (dVar 2)) (dCons (dVar 1) dNil))) dNil))) (dSl dSlG (dVar 0) (dPart (dOp dAdd (dVar 2) (dC (.int 1)))) dNoPart))) dNext) (dRet (dOp dIx (dVar 3) (dCallP 0 2 q_law_draw (dCons (dVar 1) (dCons (dCB dLenG (dCons (dVar 3) dNil)) dNil))))))))) (dEnd S.length R) (xs.map some ++ List.replicate 2 none) S
def q_table_of:PN:=fun xs S R=>(dSeq (dAsg (dCall 3 q_rows_to_the_end (dCons (dVar 0) (dCons (dVar 1) (dCons (dVar 2) dNil)))) (dgName 3)) (dRet (dCompT [none,some 1,some 2] (diSeq (dVar 3)) (dgName 0) (dNot (dTru (dCall 3 q_stacks_that_do (dCons (dVar 0) (dCons (dVar 1) (dCons (dVar 2) dNil)))))) (dCall 1 q_sums_of (dCons (dVar 0) dNil))))) (dEnd S.length R) (xs.map some ++ List.replicate 1 none) S
def q_law_held_v2:PN:=fun xs S R=>(dSeq (dAsg (dCall 5 q_table_holds (dCons (dVar 0) (dCons (dVar 1) (dCons (dVar 2) (dCons (dVar 3) (dCons (dVar 4) dNil)))))) (dgName 5)) (dRet (dAndV (dCB dIsi (dCons (dVar 5) (dCons (dO (.ty "bool")) dNil))) (dOp dEqD (dVar 5) (dCall 5 q_law_due_v8 (dCons (dVar 0) (dCons (dVar 1) (dCons (dVar 2) (dCons (dVar 3) (dCons (dVar 4) dNil)))))))))) (dEnd S.length R) (xs.map some ++ List.replicate 1 none) S
def q_law_told_v4:PN:=fun xs S R=>(dSeq (dFor (diRngX1 (dCons (dC (.int 2)) dNil)) (dgName 4) (dSeq (dAsg (dCall 3 q_table_of (dCons (dVar 0) (dCons (dVar 1) (dCons (dVar 2) dNil)))) (dgName 5)) (dSeq (dIfS (dOr (dNot (dTru (dCB dIsi (dCons (dVar 5) (dCons (dO (.ty "list")) dNil))))) (dB (dOp dNeD (dCB dLenG (dCons (dVar 5) dNil)) (dCB dLenG (dCons (dVar 3) dNil))))) (dRet (dC (.bool false))) dNext) (dSeq (dForZ (dCons (dVar 3) (dCons (dVar 5) dNil)) (dgTup 2 (dgCons (dgName 6) (dgCons (dgName 7) dgNil))) (dIfS (dOr (dNot (dTru (dCB dIsi (dCons (dVar 7) (dCons (dO (.ty "tuple")) dNil))))) (dOr (dNot (dTru (dCB dAll (dCons (dComp [none] (diSeq (dVar 7)) (dgName 0) dNoIf (dCall 1 q_law_whole (dCons (dVar 0) dNil))) dNil)))) (dB (dOp dNeD (dVar 7) (dVar 6))))) (dRet (dC (.bool false))) dNext)) (dDrop (dBM dAppend (dVar 5) (dCons (dC .none) dNil))))))) (dRet (dC (.bool true)))) (dEnd S.length R) (xs.map some ++ List.replicate 4 none) S
def pre_k64:DS:=(dIfS (dOr (dNot (dTru (dCall 4 q_law_told_v4 (dCons (dTup (dCons (dC (.int 2)) dNil)) (dCons (dC (.int 0)) (dCons (dTup (dCons (dC (.int 3)) (dCons (dC (.int 3)) dNil))) (dCons (dLst (dCons (dTup (dCons (dC (.int 0)) dNil)) (dCons (dTup (dCons (dC (.int 2)) dNil)) (dCons (dTup dNil) dNil)))) dNil))))))) (dNot (dTru (dCall 4 q_law_told_v4 (dCons (dTup (dCons (dC (.int 2)) dNil)) (dCons (dC (.int 4)) (dCons (dTup (dCons (dC (.int 3)) (dCons (dC (.int 3)) dNil))) (dCons (dLst (dCons (dTup dNil) dNil)) dNil)))))))) (dRet (dC (.bool false))) dNext)
def b_k64:DS:=(dSeq (dAsg (dCall 1 q_law_pen (dCons (dVar 1) dNil)) (dgName 2)) (dSeq (dAsg (dCallP 0 1 q_law_shims (dCons (dVar 2) dNil)) (dgName 3)) (dSeq (dAsg (dCallP 0 2 q_law_way (dCons (dVar 2) (dCons (dC (.int 40)) dNil))) (dgTup 2 (dgCons (dgName 4) (dgCons (dgName 5) dgNil)))) (dSeq (dAsg (dCall 3 q_law_table (dCons (dVar 3) (dCons (dVar 4) (dCons (dVar 5) dNil)))) (dgName 6)) (dSeq (dIfS (dNot (dTru (dCall 4 q_law_told_v4 (dCons (dVar 3) (dCons (dVar 4) (dCons (dVar 5) (dCons (dVar 6) dNil))))))) (dRet (dC (.bool false))) dNext) (dSeq (dAsg (dOp dIx (dOp dAdd (dVar 6) (dLst (dCons (dCall 2 q_law_first_row (dCons (dVar 4) (dCons (dVar 5) dNil))) dNil))) (dOp (dI0 fun i j=>i - j) (dCB dLenG (dCons (dVar 6) dNil)) (dC (.int 1)))) (dgName 7)) (dSeq (dAsg (dOp dAdd (dVar 6) (dLst (dCons (dCall 3 q_law_next_row (dCons (dVar 3) (dCons (dVar 7) (dCons (dOp (dI0 fun i j=>i - j) (dOp dIx (dVar 5) (dC (.int 1))) (dVar 4)) dNil)))) dNil))) (dgName 8)) (dFor (diSeq (dLst (dCons (dVar 6) (dCons (dVar 8) (dCons (dCallP 1 2 q_law_odd_v8 (dCons (dVar 6) (dCons (dVar 2) dNil))) (dCons (dCallP 1 2 q_law_odd_v8 (dCons (dVar 6) (dCons (dVar 2) dNil))) (dCons (dCallP 1 2 q_law_odd_v8 (dCons (dVar 6) (dCons (dVar 2) dNil))) dNil))))))) (dgName 9) (dFor (diSeq (dLst (dCons (dCB dLenG (dCons (dVar 6) dNil)) (dCons (dOp dAdd (dCB dLenG (dCons (dVar 6) dNil)) (dC (.int 1))) (dCons (dCB (dI2 fun i j=>if j > i then j else i) (dCons (dC (.int 0)) (dCons (dOp (dI0 fun i j=>i - j) (dCB dLenG (dCons (dVar 6) dNil)) (dC (.int 1))) dNil))) dNil))))) (dgName 10) (dIfS (dNot (dTru (dCall 5 q_law_held_v2 (dCons (dVar 3) (dCons (dVar 4) (dCons (dVar 5) (dCons (dVar 10) (dCons (dVar 9) dNil)))))))) (dRet (dC (.bool false))) dNext))))))))))
end My
set_option Elab.async false
set_option maxRecDepth 100000
set_option linter.all false
namespace My
open PySem L2
theorem seq1 {t u:DS} {E:DEnds} {δ:XE} {S:Sto} (h:t { E with nx:=u E } δ S):dSeq t u E δ S:=h
theorem eqv_int (i j:Int):PyData.eqv (.int i) (.int j) = decide (i = j):=rfl
theorem eqv_bool (i j:Bool):PyData.eqv (.bool i) (.bool j) = decide (i = j):=by cases i <;> cases j <;> rfl
theorem shp_i (i:Int):SeqAt.shaped (.int i) = true:=rfl
theorem shp_b (i:Bool):SeqAt.shaped (.bool i) = true:=rfl
theorem cls_int:("int" ∈ clsD) = True:=eq_true (by decide)
theorem cls_bool:("bool" ∈ clsD) = True:=eq_true (by decide)
theorem cls_tuple:("tuple" ∈ clsD) = True:=eq_true (by decide)
theorem cls_list:("list" ∈ clsD) = True:=eq_true (by decide)
theorem shp_n:SeqAt.shaped .none = true:=rfl
end My
namespace My
open PySem L2
local macro_rules | `(tactic| walk_at "ds_")=>`(tactic| (try simp -implicitDefEqProofs only [dAsg,List.all_cons,List.all_nil,Bool.and_self,dRaiseI,dCallX,dOfM,dmNew,dTruD,dmLift,dmIf,dmFor,diItems,dSortD,dmSet,dDisp1,dSortSet,dForZ,dSortSetB,dSlW,dRevT,dgName,dVar,dC,dO,dOp,dUn,dNil,dCons,dCB,dTup,dLst,dLstT,dB,dNot,dAnd,dOr,dAndV,dOrV,dNotV,dIf,dChain,dI,dI0,dIb,dUI,dEqD,dNeD,dIsN,dIx_t,dIx_l,dIx_k,dSlG_l,dAdd_i,dAdd_t,dAdd_ll,dAdd_kl,dMul_i,dFd,dTru,truX_b,truX_l,dNoPart,dPart,dSl,dLenG,lenX_t,lenX_l,lenX_k,dIsi,dInt1,dI2,dTupOf,dLstOf,dBM,dBM0,dAppend,dExtend,dPop,dSum,dAll,dCall,dCallP,asI_d,asB_d,asT_d,asL,asLs_d,asQ_d,asQ_t,asD_d,asDat_d,asDat_l,ret0_d,ret0_l,retP_d,fin_d,fin_l,dEnd_rt,arg1_x,arg2_x,asTy_x,asIB_b,dRet,dIfS,dDrop,dNext,dNever,dFor,diSeq,seqD_l,seqD_t,diRngX1,diRngX2,diEnumG,diZipG,dgTup,dgCons,hdD_c,atI_0,atI_1,atI_2,dgNil,dgSet,dComp,dCompT,dNoIf,tauX,dFrz,ex_snoc,ex_snoc1,datas_nil,datas_cons,List.replicate,List.map_cons,List.map_nil,Option.map_some,Option.bind_some,Option.bind_none,Option.join_some,List.getElem?_cons_zero,List.getElem?_cons_succ,List.set_cons_zero,List.set_cons_succ,List.take_succ_cons,List.take_zero,List.take_nil,List.length_cons,List.length_nil,List.nil_append,List.cons_append,Option.some.injEq,exists_eq_left',exists_eq_left,List.cons.injEq,XV.d.injEq,XV.l.injEq,XV.o.injEq,PyData.int.injEq,PyData.list.injEq,PyData.tuple.injEq,PyData.bool.injEq,PyData.str.injEq,and_true,true_and,decide_eq_true_eq,Bool.not_true,Bool.not_false,Bool.false_eq_true,Bool.true_eq_false,not_true_eq_false,not_false_eq_true,↓reduceIte,decide_true,decide_false,Bool.not_eq_true',noneD,decide_eq_false_iff_not,Nat.reduceAdd,Nat.reduceMul,Nat.zero_add,Nat.reduceLT,Nat.reduceLeDiff,Nat.reduceEqDiff,Int.reduceLT,Int.reduceLE,Int.reduceNeg,Int.reducePow,Int.reduceToNat,Int.reduceEq,Int.reduceAdd,Int.reduceSub,Int.reduceMul,Nat.le_refl,Nat.zero_le,List.length_append,List.length_map,eqv_int,eqv_bool,shp_i,shp_b,shp_n,List.isEmpty_nil,List.isEmpty_cons,Int.cast_ofNat_Int,Int.natCast_zero,Int.natCast_one,cls_int,cls_bool,cls_tuple,cls_list,isi_int,isi_bool,isi_tuple,isi_list,dRev,dRevX_l]))
local macro_rules | `(tactic| walk_at "dd_")=>`(tactic| (try simp -implicitDefEqProofs only [dSeq,dAsg,List.all_cons,List.all_nil,Bool.and_self,dRaiseI,dCallX,dOfM,dmNew,dTruD,dmLift,dmIf,dmFor,diItems,dSortD,dmSet,dDisp1,dSortSet,dForZ,dSortSetB,dSlW,dRevT,dgName,dVar,dC,dO,dOp,dUn,dNil,dCons,dCB,dTup,dLst,dLstT,dB,dNot,dAnd,dOr,dAndV,dOrV,dNotV,dIf,dChain,dI,dI0,dIb,dUI,dEqD,dNeD,dIsN,dIx_t,dIx_l,dIx_k,dSlG_l,dAdd_i,dAdd_t,dAdd_ll,dAdd_kl,dMul_i,dFd,dTru,truX_b,truX_l,dNoPart,dPart,dSl,dLenG,lenX_t,lenX_l,lenX_k,dIsi,dInt1,dI2,dTupOf,dLstOf,dBM,dBM0,dAppend,dExtend,dPop,dSum,dAll,dCall,dCallP,asI_d,asB_d,asT_d,asL,asLs_d,asQ_d,asQ_t,asD_d,asDat_d,asDat_l,ret0_d,ret0_l,retP_d,fin_d,fin_l,dEnd_rt,arg1_x,arg2_x,asTy_x,asIB_b,dRet,dIfS,dDrop,dNext,dNever,dFor,diSeq,seqD_l,seqD_t,diRngX1,diRngX2,diEnumG,diZipG,dgTup,dgCons,hdD_c,atI_0,atI_1,atI_2,dgNil,dgSet,dComp,dCompT,dNoIf,tauX,dFrz,ex_snoc,ex_snoc1,datas_nil,datas_cons,List.replicate,List.map_cons,List.map_nil,Option.map_some,Option.bind_some,Option.bind_none,Option.join_some,List.getElem?_cons_zero,List.getElem?_cons_succ,List.set_cons_zero,List.set_cons_succ,List.take_succ_cons,List.take_zero,List.take_nil,List.length_cons,List.length_nil,List.nil_append,List.cons_append,Option.some.injEq,exists_eq_left',exists_eq_left,List.cons.injEq,XV.d.injEq,XV.l.injEq,XV.o.injEq,PyData.int.injEq,PyData.list.injEq,PyData.tuple.injEq,PyData.bool.injEq,PyData.str.injEq,and_true,true_and,decide_eq_true_eq,Bool.not_true,Bool.not_false,Bool.false_eq_true,Bool.true_eq_false,not_true_eq_false,not_false_eq_true,↓reduceIte,decide_true,decide_false,Bool.not_eq_true',noneD,decide_eq_false_iff_not,Nat.reduceAdd,Nat.reduceMul,Nat.zero_add,Nat.reduceLT,Nat.reduceLeDiff,Nat.reduceEqDiff,Int.reduceLT,Int.reduceLE,Int.reduceNeg,Int.reducePow,Int.reduceToNat,Int.reduceEq,Int.reduceAdd,Int.reduceSub,Int.reduceMul,Nat.le_refl,Nat.zero_le,List.length_append,List.length_map,eqv_int,eqv_bool,shp_i,shp_b,shp_n,List.isEmpty_nil,List.isEmpty_cons,Int.cast_ofNat_Int,Int.natCast_zero,Int.natCast_one,cls_int,cls_bool,cls_tuple,cls_list,isi_int,isi_bool,isi_tuple,isi_list,dRev,dRevX_l]))
section
set_option Elab.async false
set_option linter.all false
set_option maxRecDepth 100000
set_option maxHeartbeats 4000000
variable {R:RX}
theorem sp_law_next {n:Int} (q:∀ m,0 ≤ m→R (.d (.int m)) []):q_law_next [.d (.int n)] [] R:=by
 unfold q_law_next
 walk_at "dd_"
 have h1:=Int.emod_nonneg (n + 7919) (show (2147483647:Int) ≠ 0 by decide)
 have h2:=Int.emod_lt_of_pos (n + 7919) (show (0:Int) < 2147483647 by decide)
 exact ⟨mulOkL (by omega) (by omega),mulOkL (by decide) (by decide),q _ (Int.emod_nonneg _ (by decide))⟩
theorem sp_law_draw {p:List PyData} {n:Int} (hp:isPen p) (hn:0 < n) (hb:n.natAbs.log2 < 9000) (q:∀ r p',0 ≤ r→r < n→isPen p'→R (.d (.int r)) [p']):q_law_draw [.l 0,.d (.int n)] [p] R:=by
 obtain ⟨l,g,sd,rfl,hl⟩:=hp
 unfold q_law_draw
 walk_at "dd_"
 split
 ·refine ⟨hn,.inl ⟨⟨hn,hb⟩,0,rfl,?_⟩⟩
  walk_at "dd_"
  exact q _ _ (Int.emod_nonneg _ (by omega)) (Int.emod_lt_of_pos _ hn) ⟨_,_,_,rfl,Int.ediv_nonneg hl (by omega)⟩
 ·refine sp_law_next fun m _=>?_
  walk_at "dd_"
  refine sp_law_next fun m' h'=>?_
  walk_at "dd_"
  refine ⟨2,rfl,?_⟩
  walk_at "dd_"
  exact .inl ⟨⟨by decide,by decide +kernel⟩,hn,q _ _ (Int.emod_nonneg _ (by omega)) (Int.emod_lt_of_pos _ hn) ⟨_,_,_,rfl,hl⟩⟩
theorem sp_law_pen_of {n:Int} (q:∀ p,isPen p→R (.l 0) [p]):q_law_pen_of [.d (.int n)] [] R:=by
 unfold q_law_pen_of
 walk_at "dd_"
 refine ⟨⟨by decide,by decide,by decide⟩,?_⟩
 refine .inr (q _ ⟨_,_,_,rfl,?_⟩)
 split <;> omega
theorem sp_law_pen {n:Int} (q:∀ p,isPen p→R (.l 0) [p]):q_law_pen [.d (.int n)] [] R:=sp_law_pen_of q
theorem sp_law_number_of {p:List PyData} (hp:isPen p) (q:∀ r p',-10 ^ 58 ≤ r→r ≤ 10 ^ 58→isPen p'→R (.d (.int r)) [p']):q_law_number_of [.l 0] [p] R:=by
 unfold q_law_number_of
 walk_at "dd_"
 refine sp_law_draw hp (by decide) (by decide +kernel) fun r p1 r0 r1 hp1=>?_
 walk_at "dd_"
 split
 ·refine sp_law_draw hp1 (by decide) (by decide +kernel) fun r p2 r0 r1 hp2=>?_
  walk_at "dd_"
  exact q _ _ (by omega) (by omega) hp2
 ·split
  ·refine sp_law_draw hp1 (by decide) (by decide +kernel) fun r p2 r0 r1 hp2=>?_
   walk_at "dd_"
   exact q _ _ (by omega) (by omega) hp2
  ·refine ⟨⟨by decide,by decide,by decide⟩,mulOkL (by decide) (by decide),?_⟩
   have k1:(10:Int) ^ 30 = 1000000000000000000000000000000:=by decide +kernel
   have k2:(10:Int) ^ 28 = 10000000000000000000000000000:=by decide +kernel
   refine sp_law_draw hp1 (by decide +kernel) (by decide +kernel) fun r p2 r0 r1 hp2=>?_
   walk_at "dd_"
   try simp only [k1,k2] at r1 ⊢
   refine ⟨⟨by decide,by decide,by decide⟩,⟨by decide,by decide,by decide⟩,mulOk 128 128 (by omega) (by decide +kernel),q _ _ (by omega) (by omega) hp2⟩
theorem sp_law_number {p:List PyData} (hp:isPen p) (q:∀ r p',-10 ^ 58 ≤ r→r ≤ 10 ^ 58→isPen p'→R (.d (.int r)) [p']):q_law_number [.l 0] [p] R:=sp_law_number_of hp q
end
section
set_option Elab.async false
set_option linter.all false
set_option maxRecDepth 100000
set_option maxHeartbeats 4000000
variable {R:RX}
set_option maxHeartbeats 8000000 in
abbrev Part:=Str × Int × Int
end
section
set_option Elab.async false
set_option linter.all false
set_option maxRecDepth 100000
set_option maxHeartbeats 4000000
variable {R:RX} {S:Sto}
def setD (ns:List Int):PyData:=.tuple (ns.map PyData.int)
theorem get_map {α:Type} {f:α→PyData} {l:List α} {i:Nat} {d:PyData} (h:(l.map f)[i]? = some d):∃ x,l[i]? = some x∧d = f x:=by
 rw [List.getElem?_map] at h
 obtain ⟨x,e,rfl⟩:=Option.map_eq_some_iff.mp h
 exact ⟨x,e,rfl⟩
theorem ix_in {ds:List PyData} {r:Int} {P:PyData→Prop} (h0:0 ≤ r) (h1:r < ds.length) (hP:∀ d ∈ ds,P d):∃ d,atI ds r = some d∧P d:=by
 obtain ⟨k,rfl⟩:=Int.eq_ofNat_of_zero_le h0
 have hk:k < ds.length:=by omega
 exact ⟨ds[k],atI_nat (List.getElem?_eq_getElem hk),hP _ (List.getElem_mem hk)⟩
theorem eqv_nil (ds:List PyData):PyData.eqv (.list ds) (.list []) = decide (ds = []):=by
 cases ds with
 | nil=>rfl
 | cons d ds=>rfl
theorem cmpP {g:DG} {te:DE} {fin:Sto→Prop} {α:Type} (F:α→Prop) (f:α→PyData) (P:XE→Prop):∀ (ds:List PyData) (acc:List α) (p:List PyData) (τ:XE),P τ→isPen p→acc.length + ds.length ≤ 1000 →
  (∀ d ∈ ds,∀ τ p acc (R:XE→RX),P τ→isPen p→(∀ τ' x p',P τ'→isPen p'→F x→R τ' (.d (f x)) [p',acc])→g (.d d) τ [p,acc] fun τ1 S1=>te τ1 S1 (R τ1)) →
  (∀ xs p',isPen p'→(∀ x ∈ xs,F x)→xs.length = ds.length→fin [p',(acc ++ xs).map f])→dCmp 1 g dNoIf te fin ds τ [p,acc.map f]
 | [],acc,p,τ,_,hp,_,_,h=>by
  have:=h [] p hp (by simp) rfl
  rw [List.append_nil] at this
  exact this
 | d :: ds,acc,p,τ,hP,hp,hl,el,h=>by
  show g (.d d) τ [p,acc.map f] fun τ1 S1=>dNoIf τ1 S1 fun b S2=>if b = true then te τ1 S2 fun x S3=>asD x fun e=>∃ acc,S3[1]? = some acc∧acc.length < 1000∧dCmp 1 g dNoIf te fin ds τ1 (S3.set 1 (acc ++ [e])) else dCmp 1 g dNoIf te fin ds τ1 S2
  simp only [dNoIf,↓reduceIte]
  rw [List.length_cons] at hl
  refine el d List.mem_cons_self τ p (acc.map f) (fun τ1 x S3=>asD x fun e=>∃ acc,S3[1]? = some acc∧acc.length < 1000∧dCmp 1 g dNoIf te fin ds τ1 (S3.set 1 (acc ++ [e]))) hP hp fun τ' x p' hP' hp' hF=>?_
  refine ⟨acc.map f,rfl,by rw [List.length_map]; omega,?_⟩
  have e:([p',acc.map f]:Sto).set 1 (acc.map f ++ [f x]) = [p',(acc ++ [x]).map f]:=by simp
  rw [e]
  refine cmpP F f P ds (acc ++ [x]) p' τ' hP' hp' (by rw [List.length_append,List.length_singleton]; omega) (fun e m=>el e (List.mem_cons_of_mem _ m)) fun xs p'' hp'' fs hl=>?_
  rw [List.append_assoc]
  exact h (x :: xs) p'' hp'' (fun y m=>(List.mem_cons.mp m).elim (fun e=>e ▸ hF) (fs y)) (by simp [hl])
end
section
set_option Elab.async false
set_option linter.all false
set_option maxRecDepth 100000
set_option maxHeartbeats 4000000
variable {R:RX} {S:Sto}
end
section
set_option Elab.async false
set_option linter.all false
set_option maxRecDepth 100000
set_option maxHeartbeats 4000000
variable {R:RX} {S:Sto}
def wholeD:PyData→Bool
 | .int _=>true
 | _=>false
theorem sp_law_whole {d:PyData} (q:R (.d (.bool (wholeD d))) []):q_law_whole [.d d] [] R:=by
 unfold q_law_whole
 cases d <;> (walk_at "dd_"; exact q)
end
section
set_option Elab.async false
set_option linter.all false
set_option maxRecDepth 100000
set_option maxHeartbeats 4000000
variable {R:RX} {S:Sto}
def rng (lo:Int) (n:Nat):List Int:=(List.range n).map fun k:Nat=>lo + k
def rngP (p:Part):List Int:=rng p.2.1 (p.2.2 - p.2.1 + 1).toNat
def ext (found:List (List Int)) (p:Part):List (List Int):=found.flatMap fun a=>(rngP p).map fun x=>a ++ [x]
end
section
set_option Elab.async false
set_option linter.all false
set_option maxRecDepth 100000
set_option maxHeartbeats 4000000
variable {R:RX} {S:Sto}
theorem shp_set {n:Nat} (a:List Int):Shp (n + 1) (setD a):=shp_tup (shp_map fun _ _=>shp_int)
end
section
set_option Elab.async false
set_option linter.all false
set_option maxRecDepth 100000
set_option maxHeartbeats 4000000
variable {R:RX} {S:Sto}
end
section
set_option Elab.async false
set_option linter.all false
set_option maxRecDepth 100000
set_option maxHeartbeats 4000000
variable {R:RX} {S:Sto}
end
section
set_option Elab.async false
set_option linter.all false
set_option maxRecDepth 100000
set_option maxHeartbeats 4000000
variable {R:RX} {S:Sto}
end
section
set_option Elab.async false
set_option linter.all false
set_option maxRecDepth 100000
set_option maxHeartbeats 4000000
variable {R:RX} {S:Sto}
end
section
set_option Elab.async false
set_option linter.all false
set_option maxRecDepth 100000
set_option maxHeartbeats 4000000
variable {R:RX} {S:Sto}
end
section
set_option Elab.async false
set_option linter.all false
set_option maxRecDepth 100000
set_option maxHeartbeats 4000000
variable {R:RX} {S:Sto}
end
section
set_option Elab.async false
set_option linter.all false
set_option maxRecDepth 100000
set_option maxHeartbeats 4000000
variable {R:RX} {S:Sto}
end
section
set_option Elab.async false
set_option linter.all false
set_option maxRecDepth 100000
set_option maxHeartbeats 4000000
variable {R:RX} {S:Sto}
theorem srt_one {α:Type} {r:α→α→Prop} (as:∀ {a b},r a b→r b a→False):∀ {l m:List α},l.Pairwise r→m.Pairwise r→(∀ x,x ∈ l ↔ x ∈ m)→l = m
 | [],[],_,_,_=>rfl
 | [],y :: m,_,_,h=>by have:=(h y).mpr List.mem_cons_self; simp at this
 | x :: l,[],_,_,h=>by have:=(h x).mp List.mem_cons_self; simp at this
 | x :: l,y :: m,hl,hm,h=>by
  rw [List.pairwise_cons] at hl hm
  have e:x = y:=by
   rcases List.mem_cons.mp ((h x).mp List.mem_cons_self) with e | e
   ·exact e
   ·rcases List.mem_cons.mp ((h y).mpr List.mem_cons_self) with e' | e'
    ·exact e'.symm
    ·exact (as (hm.1 _ e) (hl.1 _ e')).elim
  subst e
  congr 1
  refine srt_one as hl.2 hm.2 fun z=>⟨fun mz=>?_,fun mz=>?_⟩
  ·rcases List.mem_cons.mp ((h z).mp (List.mem_cons_of_mem _ mz)) with e | e
   ·subst e
    exact (as (hl.1 _ mz) (hl.1 _ mz)).elim
   ·exact e
  ·rcases List.mem_cons.mp ((h z).mpr (List.mem_cons_of_mem _ mz)) with e | e
   ·subst e
    exact (as (hm.1 _ mz) (hm.1 _ mz)).elim
   ·exact e
end
section
set_option Elab.async false
set_option linter.all false
set_option maxRecDepth 100000
set_option maxHeartbeats 4000000
variable {R:RX}
end
section
set_option Elab.async false
set_option linter.all false
set_option maxRecDepth 100000
set_option maxHeartbeats 4000000
variable {R:RX} {S:Sto}
theorem nd_len:∀ (n:Nat) (lo:Int) (l:List Int),l.Nodup→(∀ x ∈ l,lo ≤ x∧x < lo + n)→l.length ≤ n
 | 0,lo,l,_,h=>by
  cases l with
  | nil=>exact Nat.le_refl _
  | cons x l=>have:=h x List.mem_cons_self; omega
 | n + 1,lo,l,hn,h=>by
  have ih:=nd_len n lo (l.erase (lo + n)) (hn.erase _) fun x m=>by
   rw [hn.mem_erase_iff] at m
   have:=h x m.2
   omega
  have:=List.length_erase (a:=lo + (n:Int)) (l:=l)
  split at this <;> omega
theorem loopm_inv {g:DG} {b:DSm} {E:DEndsM}:∀ {ds:List PyData} {δ:XE} {S:Sto} {M:DM} (I:Nat→XE→Sto→DM→Prop),I 0 δ S M →
  (∀ i d δ S M (N:XE→Sto→DM→Prop),ds[i]? = some d→I i δ S M→(∀ δ' S' M',I (i + 1) δ' S' M'→N δ' S' M')→g (.d d) δ S fun δ1 S1=>b { nx:=N,ct:=N,bk:=E.nx,rt:=E.rt } δ1 S1 M) →
  (∀ δ S M,I ds.length δ S M→E.nx δ S M)→dmLoop g b ds E δ S M
 | [],δ,S,M,I,h0,_,fin=>fin δ S M h0
 | d :: ds,δ,S,M,I,h0,step,fin=>by
  show g (.d d) δ S fun δ1 S1=>b _ δ1 S1 M
  refine step 0 d δ S M _ rfl h0 fun δ' S' M' h1=>?_
  exact loopm_inv (ds:=ds) (fun i=>I (i + 1)) h1 (fun i e δ S M N hi=>step (i + 1) e δ S M N (by simpa using hi)) fin
end
section
set_option Elab.async false
set_option linter.all false
set_option maxRecDepth 100000
set_option maxHeartbeats 4000000
variable {R:RX} {S:Sto}
abbrev Frs:=List (Int × List Int)
def frsM (F:Frs):List (Key × PyData):=F.map fun p=>((Sum.inl p.1:Key),setD p.2)
def frsD (F:Frs):PyData:=.dict (DD.pairs (.k (frsM F)))
def fky (F:Frs):List Int:=F.map (·.1)
theorem lk_frs:∀ {F:Frs} {k:Int},(fky F).Nodup→(lkA (frsM F) (Sum.inl k) = none∧k ∉ fky F)∨∃ one,lkA (frsM F) (Sum.inl k) = some (setD one)∧(k,one) ∈ F
 | [],k,_=>.inl ⟨rfl,by simp [fky]⟩
 | p :: F,k,nd=>by
  have nd':(p.1 :: fky F).Nodup:=nd
  by_cases h:p.1 = k
  ·subst h
   exact .inr ⟨p.2,by simp [lkA,frsM],List.mem_cons_self⟩
  ·have e:lkA (frsM (p :: F)) (Sum.inl k) = lkA (frsM F) (Sum.inl k):=by simp [lkA,frsM,h]
   rw [e]
   rcases lk_frs (F:=F) (k:=k) (List.nodup_cons.mp nd').2 with ⟨h1,h2⟩ | ⟨one,h1,h2⟩
   ·exact .inl ⟨h1,by show k ∉ p.1 :: fky F; simp [h2,Ne.symm h]⟩
   ·exact .inr ⟨one,h1,List.mem_cons_of_mem _ h2⟩
theorem pt_new {F:Frs} {k:Int} {one:List Int} (nk:k ∉ fky F):ptA (frsM F) (Sum.inl k) (setD one) = frsM (F ++ [(k,one)]):=by
 unfold ptA
 rw [if_neg]
 ·unfold frsM
  rw [List.map_append]
  rfl
 ·intro h
  obtain ⟨p,mp,e⟩:=List.any_eq_true.mp h
  obtain ⟨q,mq,rfl⟩:=List.mem_map.mp mp
  have:(Sum.inl q.1:Key) = Sum.inl k:=of_decide_eq_true e
  exact nk (List.mem_map.mpr ⟨q,mq,Sum.inl.inj this⟩)
end
section
set_option Elab.async false
set_option linter.all false
set_option maxRecDepth 100000
set_option maxHeartbeats 4000000
variable {R:RX} {S:Sto}
def thk (T:List Int) (p:Int):Int:=T.getD p.toNat 0
def sumS (T st:List Int):Int:=(st.map (thk T)).sum
def okS (T st:List Int):Prop:=∀ p ∈ st,0 ≤ p∧p < T.length
theorem sumS_nil (T:List Int):sumS T [] = 0:=rfl
theorem sumS_cons (T:List Int) (p:Int) (st:List Int):sumS T (p :: st) = thk T p + sumS T st:=by simp [sumS]
theorem okS_cons {T:List Int} {p:Int} {st:List Int}:okS T (p :: st) ↔ (0 ≤ p∧p < T.length)∧okS T st:=by simp [okS]
def Pos (T:List Int):Prop:=∀ x ∈ T,1 ≤ x
theorem thk_pos {T:List Int} (hT:Pos T) {p:Int} (h0:0 ≤ p) (h1:p < T.length):1 ≤ thk T p:=by
 unfold thk
 have hlt:p.toNat < T.length:=by omega
 rw [List.getD_eq_getElem?_getD,List.getElem?_eq_getElem hlt]
 exact hT _ (List.getElem_mem hlt)
theorem sumS_len {T:List Int} (hT:Pos T):∀ {st:List Int},okS T st→(st.length:Int) ≤ sumS T st
 | [],_=>by simp [sumS]
 | p :: st,h=>by
  have h':=okS_cons.mp h
  have:=thk_pos hT h'.1.1 h'.1.2
  have:=sumS_len hT h'.2
  rw [sumS_cons,List.length_cons]
  omega
structure Lst (T:List Int) (n:Nat) (r:Int) (st:List Int):Prop where
 ok:okS T st
 len:st.length = n
 sm:sumS T st = r
 le:∀ z,okS T z→z.length = n→sumS T z = r→HT.lexLt z st = false
theorem lex_c (x y:Int) (a b:List Int):HT.lexLt (x :: a) (y :: b) = if x = y then HT.lexLt a b else decide (x < y):=HT.lexLt_cons ..
structure Rw (T:List Int) (top:Int) (n:Nat) (F:Frs):Prop where
 nd:(fky F).Nodup
 ok:∀ p ∈ F,Lst T n p.1 p.2∧p.1 ≤ top
 all:∀ z,okS T z→z.length = n→sumS T z ≤ top→sumS T z ∈ fky F
theorem Rw.len {T:List Int} {top:Int} {n:Nat} {F:Frs} (h:Rw T top n F) (hT:Pos T) (ht:0 ≤ top):F.length ≤ (top + 1).toNat:=by
 have:=nd_len (top + 1).toNat 0 (fky F) h.nd fun x m=>by
  obtain ⟨p,mp,rfl⟩:=List.mem_map.mp m
  obtain ⟨l,lt⟩:=h.ok p mp
  have:=sumS_len hT l.ok
  rw [l.sm] at this
  omega
 unfold fky at this
 rwa [List.length_map] at this
theorem Rw.zero {T:List Int} {top:Int} (h:0 ≤ top):Rw T top 0 [(0,[])]:=⟨by simp [fky],fun p m=>by
 rw [List.mem_singleton.mp m]
 exact ⟨⟨by simp [okS],rfl,rfl,fun z _ l _=>by rw [List.eq_nil_of_length_eq_zero l]; rfl⟩,h⟩,fun z _ l _=>by rw [List.eq_nil_of_length_eq_zero l]; simp [fky,sumS]⟩
theorem Rw.none {T:List Int} {top:Int} (h:top < 0):Rw T top 0 []:=⟨by simp [fky],by simp,fun z _ l s=>by
 rw [List.eq_nil_of_length_eq_zero l,sumS_nil] at s
 omega⟩
end
section
set_option Elab.async false
set_option linter.all false
set_option maxRecDepth 100000
set_option maxHeartbeats 4000000
variable {R:RX} {S:Sto}
def shD (T:List Int):PyData:=.tuple (T.map PyData.int)
structure NxI (T:List Int) (top:Int) (F:Frs) (seen:Nat→Nat→Prop) (G:Frs):Prop where
 nd:(fky G).Nodup
 ok:∀ e ∈ G,∃ (q m:Nat) (r0:Int) (rest:List Int),seen q m∧F[m]? = some (r0,rest)∧q < T.length∧e = (r0 + thk T q,(q:Int) :: rest)∧e.1 ≤ top∧∀ q':Nat,q' < q→e.1 - thk T q' ∉ fky F
 all:∀ (q m:Nat) (r0:Int) (rest:List Int),seen q m→q < T.length→F[m]? = some (r0,rest)→r0 + thk T q ≤ top→r0 + thk T q ∈ fky G
theorem NxI.to {T:List Int} {top:Int} {F G:Frs} {s s':Nat→Nat→Prop} (h:NxI T top F s G) (e:∀ q m,m < F.length→(s q m ↔ s' q m)):NxI T top F s' G where
 nd:=h.nd
 ok:=fun x m=>by
  obtain ⟨q,k,r0,rest,a1,a2,a3⟩:=h.ok x m
  exact ⟨q,k,r0,rest,(e q k (List.getElem?_eq_some_iff.mp a2).1).mp a1,a2,a3⟩
 all:=fun q m r0 rest a1 a2 a3 a4=>h.all q m r0 rest ((e q m (List.getElem?_eq_some_iff.mp a3).1).mpr a1) a2 a3 a4
theorem fk_get {F:Frs} {r:Int} (h:r ∈ fky F):∃ (m:Nat) (st:List Int),F[m]? = some (r,st):=by
 obtain ⟨p,mp,rfl⟩:=List.mem_map.mp h
 obtain ⟨m,hm⟩:=List.mem_iff_getElem?.mp mp
 exact ⟨m,p.2,hm⟩
theorem NxI.more {T:List Int} {top:Int} {F G:Frs} {i j:Nat} {r0:Int} {rest:List Int} (h:NxI T top F (fun q m=>q < i∨q = i∧m < j) G) (hi:i < T.length) (hj:F[j]? = some (r0,rest)) (ht:r0 + thk T i ≤ top) (nk:r0 + thk T i ∉ fky G):NxI T top F (fun q m=>q < i∨q = i∧m < j + 1) (G ++ [(r0 + thk T i,(i:Int) :: rest)]) where
 nd:=by
  unfold fky
  rw [List.map_append]
  exact nodup_snoc h.nd nk
 ok:=fun e m=>by
  rcases List.mem_append.mp m with m | m
  ·obtain ⟨q,k,r,s,a1,a2⟩:=h.ok e m
   exact ⟨q,k,r,s,by omega,a2⟩
  ·rw [List.mem_singleton.mp m]
   refine ⟨i,j,r0,rest,.inr ⟨rfl,by omega⟩,hj,hi,rfl,ht,fun q' hq' z=>nk ?_⟩
   obtain ⟨m',st,e'⟩:=fk_get z
   have:=h.all q' m' _ st (.inl hq') (by omega) e' (by simp only; omega)
   simp only at this
   rwa [show r0 + thk T i - thk T q' + thk T q' = r0 + thk T i by omega] at this
 all:=fun q m r s a1 a2 a3 a4=>by
  unfold fky
  rw [List.map_append]
  by_cases hs:q < i∨q = i∧m < j
  ·exact List.mem_append_left _ (h.all q m r s hs a2 a3 a4)
  ·have e1:q = i:=by omega
   have e2:m = j:=by omega
   subst e1 e2
   rw [hj] at a3
   cases a3
   simp
theorem NxI.skip {T:List Int} {top:Int} {F G:Frs} {i j:Nat} {r0:Int} {rest:List Int} (h:NxI T top F (fun q m=>q < i∨q = i∧m < j) G) (hj:F[j]? = some (r0,rest)) (hk:r0 + thk T i ≤ top→r0 + thk T i ∈ fky G):NxI T top F (fun q m=>q < i∨q = i∧m < j + 1) G where
 nd:=h.nd
 ok:=fun e m=>by
  obtain ⟨q,k,r,s,a1,a2⟩:=h.ok e m
  exact ⟨q,k,r,s,by omega,a2⟩
 all:=fun q m r s a1 a2 a3 a4=>by
  by_cases hs:q < i∨q = i∧m < j
  ·exact h.all q m r s hs a2 a3 a4
  ·have e1:q = i:=by omega
   have e2:m = j:=by omega
   subst e1 e2
   rw [hj] at a3
   cases a3
   exact hk a4
theorem NxI.rw {T:List Int} {top:Int} {n:Nat} {F G:Frs} (hT:Pos T) (hF:Rw T top n F) (h:NxI T top F (fun q m=>q < T.length∨q = T.length∧m < 0) G):Rw T top (n + 1) G where
 nd:=h.nd
 ok:=fun e m=>by
  obtain ⟨q,k,r0,rest,_,a2,a3,rfl,a5,a6⟩:=h.ok e m
  have l0:=(hF.ok _ (List.mem_of_getElem? a2)).1
  refine ⟨⟨okS_cons.mpr ⟨⟨by omega,by omega⟩,l0.ok⟩,by rw [List.length_cons,l0.len],by rw [sumS_cons,l0.sm]; simp only; omega,fun z o l s=>?_⟩,a5⟩
  cases z with
  | nil=>cases l
  | cons q' r' =>
   have o':=okS_cons.mp o
   have tp:=thk_pos hT o'.1.1 o'.1.2
   rw [sumS_cons] at s
   simp only at s a5 a6
   rw [lex_c]
   by_cases e:q' = (q:Int)
   ·rw [if_pos e]
    subst e
    exact l0.le r' o'.2 (by simpa using l) (by omega)
   ·rw [if_neg e]
    refine decide_eq_false fun hl=>?_
    refine a6 q'.toNat (by omega) ?_
    rw [show ((q'.toNat:Nat):Int) = q' by omega]
    have:=hF.all r' o'.2 (by simpa using l) (by omega)
    rwa [show sumS T r' = r0 + thk T q - thk T q' by omega] at this
 all:=fun z o l s=>by
  cases z with
  | nil=>cases l
  | cons q r =>
   have o':=okS_cons.mp o
   have tp:=thk_pos hT o'.1.1 o'.1.2
   rw [sumS_cons] at s ⊢
   obtain ⟨m,st,e⟩:=fk_get (hF.all r o'.2 (by simpa using l) (by omega))
   have hq:((q.toNat:Nat):Int) = q:=by omega
   have:=h.all q.toNat m (sumS T r) st (.inl (by omega)) (by omega) e (by rw [hq]; omega)
   rwa [hq,Int.add_comm] at this
theorem NxI.len {T:List Int} {top:Int} {n:Nat} {F G:Frs} {s:Nat→Nat→Prop} (h:NxI T top F s G) (hT:Pos T) (hF:Rw T top n F) (ht:top ≤ 200):G.length ≤ 201:=by
 have:=nd_len 201 0 (fky G) h.nd fun x m=>by
  obtain ⟨e,me,rfl⟩:=List.mem_map.mp m
  obtain ⟨q,k,r0,rest,_,a2,a3,rfl,a5,_⟩:=h.ok e me
  have l0:=(hF.ok _ (List.mem_of_getElem? a2)).1
  have:=sumS_len hT l0.ok
  rw [l0.sm] at this
  have:=thk_pos hT (p:=(q:Int)) (by omega) (by omega)
  simp only at a5 ⊢
  omega
 unfold fky at this
 rwa [List.length_map] at this
theorem setD_is (ns:List Int):setD ns = .tuple (ns.map PyData.int):=rfl
theorem itemsD_frs (F:Frs):DD.itemsD (frsM F) = F.map fun p=>PyData.tuple [.int p.1,setD p.2]:=by
 unfold DD.itemsD frsM
 rw [List.map_map]
 rfl
theorem sp_next_row {T:List Int} {top:Int} {n:Nat} {F:Frs} (hT:Pos T) (hl:T.length ≤ 8) (hn:n ≤ 300) (ht:top ≤ 200) (hF:Rw T top n F) (hFl:F.length ≤ 201) (q:∀ G,Rw T top (n + 1) G→R (.d (frsD G)) []):q_next_row [.d (shD T),.d (frsD F),.d (.int top)] [] R:=by
 unfold q_next_row frsD shD
 walk_at "ds_"
 refine seq1 ?_
 walk_at "ds_"
 intro ad _
 walk_at "ds_"
 refine loopm_inv (fun i δ S M=>∃ (G:Frs) (u4 u5 u6 u7:Option XV),S = []∧M = [(ad,.k (frsM G))]∧NxI T top F (fun q m=>q < i∨q = i∧m < 0) G∧δ = [some (.d (.tuple (T.map PyData.int))),some (.d (.dict (DD.k (frsM F)).pairs)),some (.d (.int top)),some (.o (.ref ad)),u4,u5,u6,u7]) ⟨[],_,_,_,_,rfl,rfl,⟨by simp [fky],by simp,fun q m r0 rest h=>by omega⟩,rfl⟩ ?_ ?_
 ·rintro i d _ _ _ N hi ⟨G,u4,u5,u6,u7,rfl,rfl,hG,rfl⟩ hN
  obtain ⟨e,he,rfl⟩:=enumD_get _ 0 i d hi
  obtain ⟨x,ex,rfl⟩:=get_map he
  have hi':=(List.getElem?_eq_some_iff.mp ex).1
  have etx:thk T (i:Int) = x:=by unfold thk; rw [Int.toNat_natCast,List.getD_eq_getElem?_getD,ex]; rfl
  clear ex he hi
  subst etx
  rw [Nat.zero_add]
  walk_at "ds_"
  refine ⟨_,rfl,?_⟩
  rw [itemsD_frs]
  refine loopm_inv (fun j δ S M=>∃ (G:Frs) (u6 u7:Option XV),S = []∧M = [(ad,.k (frsM G))]∧NxI T top F (fun q m=>q < i∨q = i∧m < j) G∧δ = [some (.d (.tuple (T.map PyData.int))),some (.d (.dict (DD.k (frsM F)).pairs)),some (.d (.int top)),some (.o (.ref ad)),some (.d (.int i)),some (.d (.int (thk T i))),u6,u7]) ⟨G,_,_,rfl,rfl,hG,rfl⟩ ?_ ?_
  ·rintro j d _ _ _ N2 hj ⟨G,u6,u7,rfl,rfl,hG,rfl⟩ hN2
   obtain ⟨p,ep,rfl⟩:=get_map hj
   have gl:=hG.len hT hF ht
   walk_at "ds_"
   by_cases ht':p.1 + thk T i ≤ top
   ·rw [if_pos ht',setD_is]
    refine ⟨ad,frsM G,rfl,by simp,?_⟩
    walk_at "ds_"
    have pl:=(hF.ok p (List.mem_of_getElem? ep)).1.len
    refine ⟨by omega,Sum.inl (p.1 + thk T i),rfl,by unfold frsM; rw [List.length_map]; omega,?_⟩
    rcases lk_frs (k:=p.1 + thk T i) hG.nd with ⟨e1,nk⟩ | ⟨two,e1,m⟩
    ·rw [e1]
     walk_at "ds_"
     refine hN2 _ _ _ ⟨G ++ [(p.1 + thk T i,(i:Int) :: p.2)],_,_,rfl,?_,hG.more hi' ep ht' nk,rfl⟩
     have:=pt_new (one:=(i:Int) :: p.2) nk
     rw [← this,setD_is]
     simp [setM]
    ·rw [e1]
     walk_at "ds_"
     exact hN2 _ _ _ ⟨G,_,_,rfl,rfl,hG.skip ep fun _=>List.mem_map.mpr ⟨_,m,rfl⟩,rfl⟩
   ·rw [if_neg ht']
    walk_at "ds_"
    refine hN2 _ _ _ ⟨G,_,_,rfl,rfl,hG.skip ep fun z=>absurd z ht',rfl⟩
  ·rintro _ _ _ ⟨G,u6,u7,rfl,rfl,hG,rfl⟩
   rw [List.length_map] at hG
   exact hN _ _ _ ⟨G,_,_,_,_,rfl,rfl,hG.to fun q m hm=>by omega,rfl⟩
 ·rintro _ _ _ ⟨G,u4,u5,u6,u7,rfl,rfl,hG,rfl⟩
  rw [enumD_length,List.length_map] at hG
  refine ⟨[],frsM G,rfl,rfl,?_⟩
  refine ⟨.d (frsD G),?_,?_⟩
  ·simp [frzX,frsD]
  ·walk_at "ds_"
   exact q G (hG.rw hT hF)
def inS (a lo hi:Int) (p:Int × List Int):Bool:=decide (lo ≤ a + p.1) && decide (a + p.1 ≤ hi)
theorem sp_stacks_that_do {F:Frs} {a lo hi:Int} (hl:F.length ≤ 1000) (q:R (.d (.list ((F.filter (inS a lo hi)).map fun p=>setD p.2))) []):q_stacks_that_do [.d (frsD F),.d (.int a),.d (.tuple [.int lo,.int hi])] [] R:=by
 unfold q_stacks_that_do frsD
 walk_at "ds_"
 refine ⟨_,rfl,?_⟩
 rw [itemsD_frs]
 refine cmf2 (S0:=[]) (h:=fun p:Int × List Int=>PyData.tuple [.int p.1,setD p.2]) (fun p=>setD p.2) (inS a lo hi) rfl F hl ?_ ?_
 ·intro p mp u v acc R' hk
  unfold inS at hk
  walk_at "ds_"
  by_cases h1:lo ≤ a + p.1
  ·rw [if_pos h1]
   rw [decide_eq_true h1,Bool.true_and] at hk
   walk_at "ds_"
   exact hk _ _ fun _ T hT=>by walk_at "ds_"; exact hT
  ·rw [if_neg h1]
   rw [decide_eq_false h1,Bool.false_and] at hk
   walk_at "ds_"
   exact hk _ _ fun h=>by cases h
 ·walk_at "ds_"
  exact .inl q
theorem sp_most_rise {a lo hi:Int} (h:hi - a ≤ 200) (q:R (.d (.int (hi - a))) []):q_most_rise [.d (.int a),.d (.tuple [.int lo,.int hi])] [] R:=by
 unfold q_most_rise
 walk_at "ds_"
 (refine seq1 ?_; walk_at "ds_")
 refine seq1 ?_
 walk_at "ds_"
 rw [if_neg (by omega)]
 exact q
theorem sp_first_row {T:List Int} {top:Int} (q:∀ F,Rw T top 0 F→F.length ≤ 1→R (.d (frsD F)) []):q_first_row [.d (.int top)] [] R:=by
 unfold q_first_row
 walk_at "ds_"
 by_cases h:0 ≤ top
 ·rw [if_pos h]
  walk_at "ds_"
  exact q [(0,[])] (Rw.zero h) (by simp)
 ·rw [if_neg h]
  exact q [] (Rw.none (by omega)) (by simp)
theorem atI_last {α:Type} (l:List α) (x:α):atI (l ++ [x]) (-1) = some x:=by
 have h:ixN (l ++ [x]).length (-1) = some l.length:=by
  unfold ixN
  rw [List.length_append,List.length_singleton,if_neg (by omega),if_pos (by omega)]
  congr 1
  omega
 unfold atI
 rw [h]
 simp
theorem Rw.len201 {T:List Int} {top:Int} {n:Nat} {G:Frs} (hG:Rw T top n G) (hT:Pos T) (h:top ≤ 200):G.length ≤ 201:=by
 rcases Int.lt_or_le top 0 with z | z
 ·have:G = []:=by
   cases hg:G with
   | nil=>rfl
   | cons x y =>
    obtain ⟨l,lt⟩:=hG.ok x (by rw [hg]; exact List.mem_cons_self)
    have:=sumS_len hT l.ok
    rw [l.sm,l.len] at this
    omega
  rw [this]
  simp
 ·have:=hG.len hT z
  omega
theorem Rw.n200 {T:List Int} {top:Int} {n:Nat} {G:Frs} (hG:Rw T top n G) (hT:Pos T) (h:top ≤ 200) (hE:G ≠ []):n ≤ 200:=by
 cases hc:G with
 | nil=>exact absurd hc hE
 | cons x y =>
  obtain ⟨l,lt⟩:=hG.ok x (by rw [hc]; exact List.mem_cons_self)
  have:=sumS_len hT l.ok
  rw [l.sm,l.len] at this
  omega
section
variable {T:List Int} {top:Int} {F G:Frs} {s s':Nat→Int→Prop} {i:Nat} {q r0:Int} {s0:List Int}
end
theorem sub_len:∀ (l m:List Int),l.Nodup→(∀ x ∈ l,x ∈ m)→l.length ≤ m.length
 | [],_,_,_=>Nat.zero_le _
 | x :: l,m,nd,h=>by
  have hx:=h x List.mem_cons_self
  rw [List.nodup_cons] at nd
  have:=sub_len l (m.erase x) nd.2 fun y my=>(List.mem_erase_of_ne (fun e:y = x=>nd.1 (e ▸ my))).mpr (h y (List.mem_cons_of_mem _ my))
  rw [List.length_erase_of_mem hx] at this
  have:0 < m.length:=List.length_pos_of_mem hx
  rw [List.length_cons]
  omega
theorem sp_law_shims {p:List PyData} (hp:isPen p) (q:∀ T p',Pos T→T.length ≤ 5→isPen p'→R (.d (shD T)) [p']):q_law_shims [.l 0] [p] R:=by
 unfold q_law_shims
 walk_at "ds_"
 (refine seq1 ?_; walk_at "ds_")
 refine sp_law_draw hp (by decide) (by decide +kernel) fun r p1 r0 r1 hp1=>?_
 obtain ⟨d,ed,n,rfl,n0,n1⟩:=ix_in (P:=fun d=>∃ n,d = .int n∧1 ≤ n∧n ≤ 99) (ds:=[PyData.int 4,PyData.int 12,PyData.int 99]) r0 r1 (by simp)
 refine ⟨_,ed,?_⟩
 walk_at "ds_"
 refine sp_law_draw hp1 (by decide) (by decide +kernel) fun r p2 r0 r1 hp2=>?_
 walk_at "ds_"
 refine cmpP (α:=Int) (fun x=>1 ≤ x) PyData.int (fun τ=>∃ u,τ = [u,some (.l 0),some (.d (.int n))]) _ [] p2 _ ⟨_,rfl⟩ hp2 (by rw [intsD_length]; simp; omega) ?_ ?_
 ·rintro d md _ p acc R' ⟨u,rfl⟩ hp hk
  walk_at "ds_"
  refine sp_law_draw hp (by omega) (log2_small (by omega) (by omega)) fun r p' r0 r1 hp'=>?_
  walk_at "ds_"
  exact hk _ _ p' ⟨_,rfl⟩ hp' (by omega)
 ·intro ws p3 hp3 hw hl
  rw [intsD_length] at hl
  rw [List.nil_append]
  refine ⟨[p3],_,rfl,rfl,ws,rfl,by omega,fun ms pw hm=>?_⟩
  refine q ms p3 (fun x m=>hw x ((hm x).mp m)) ?_ hp3
  have nd:ms.Nodup:=pw.imp fun h=>by omega
  have:=sub_len ms ws nd fun x m=>(hm x).mp m
  omega
end
section
set_option Elab.async false
set_option linter.all false
set_option maxRecDepth 100000
set_option maxHeartbeats 4000000
variable {R:RX} {S:Sto}
def upto (top:Int):List Int:=(List.range (top + 1).toNat).map Int.ofNat
theorem upto_mem {top x:Int}:x ∈ upto top ↔ 0 ≤ x∧x ≤ top:=by
 unfold upto
 rw [List.mem_map]
 constructor
 ·rintro ⟨k,mk,rfl⟩
  have:=List.mem_range.mp mk
  simp only [Int.ofNat_eq_natCast]
  omega
 ·rintro ⟨h0,h1⟩
  exact ⟨x.toNat,List.mem_range.mpr (by omega),by simp only [Int.ofNat_eq_natCast]; omega⟩
theorem upto_pw (top:Int):(upto top).Pairwise (· < ·):=by
 unfold upto
 refine List.pairwise_map.mpr (List.pairwise_lt_range.imp fun h=>?_)
 simp only [Int.ofNat_eq_natCast]
 omega
def ro (T:List Int) (top:Int):Nat→List Int
 | 0=>if 0 ≤ top then [0] else []
 | n + 1=>(upto top).filter fun x=>(ro T top n).any fun y=>T.any fun t=>decide (y + t = x)
def Sm (T:List Int) (top:Int) (n:Nat) (x:Int):Prop:=x ≤ top∧∃ z,okS T z∧z.length = n∧sumS T z = x
section
variable {T:List Int} {top:Int} {n:Nat}
theorem ro_pw:(ro T top n).Pairwise (· < ·):=by
 cases n with
 | zero =>
  unfold ro
  split <;> simp
 | succ n=>exact (upto_pw top).sublist List.filter_sublist
theorem ro_bd {x:Int} (m:x ∈ ro T top n):0 ≤ x∧x ≤ top:=by
 cases n with
 | zero =>
  unfold ro at m
  split at m
  ·have:=List.mem_singleton.mp m
   omega
  ·cases m
 | succ n=>exact upto_mem.mp ((List.mem_filter.mp m).1)
theorem ro_next (hT:Pos T) {x:Int}:x ∈ ro T top (n + 1) ↔ x ≤ top∧∃ y ∈ ro T top n,∃ t ∈ T,y + t = x:=by
 show x ∈ (upto top).filter _ ↔ _
 rw [List.mem_filter,upto_mem,List.any_eq_true]
 constructor
 ·rintro ⟨h,y,my,hy⟩
  obtain ⟨t,mt,ht⟩:=List.any_eq_true.mp hy
  exact ⟨h.2,y,my,t,mt,of_decide_eq_true ht⟩
 ·rintro ⟨h,y,my,t,mt,rfl⟩
  have:=(ro_bd my).1
  have:=hT t mt
  exact ⟨⟨by omega,h⟩,y,my,List.any_eq_true.mpr ⟨t,mt,decide_eq_true rfl⟩⟩
theorem thk_mem {q:Int} (h0:0 ≤ q) (h1:q < T.length):thk T q ∈ T:=by
 have hlt:q.toNat < T.length:=by omega
 unfold thk
 rw [List.getD_eq_getElem?_getD,List.getElem?_eq_getElem hlt]
 exact List.getElem_mem hlt
theorem mem_thk {t:Int} (m:t ∈ T):∃ q:Int,0 ≤ q∧q < T.length∧thk T q = t:=by
 obtain ⟨i,hi,rfl⟩:=List.mem_iff_getElem.mp m
 refine ⟨i,by omega,by omega,?_⟩
 unfold thk
 rw [Int.toNat_natCast,List.getD_eq_getElem?_getD,List.getElem?_eq_getElem hi]
 rfl
theorem ro_sm (hT:Pos T):∀ {n:Nat} {x:Int},x ∈ ro T top n ↔ Sm T top n x
 | 0,x=>by
  unfold ro Sm
  constructor
  ·intro m
   split at m
   ·have:=List.mem_singleton.mp m
    exact ⟨by omega,[],by simp [okS],rfl,by rw [this]; rfl⟩
   ·cases m
  ·rintro ⟨h,z,o,l,s⟩
   rw [List.eq_nil_of_length_eq_zero l,sumS_nil] at s
   rw [if_pos (by omega),← s]
   simp
 | n + 1,x=>by
  rw [ro_next hT]
  constructor
  ·rintro ⟨h,y,my,t,mt,rfl⟩
   obtain ⟨_,z,o,l,s⟩:=(ro_sm hT).mp my
   obtain ⟨q,q0,q1,rfl⟩:=mem_thk mt
   exact ⟨h,q :: z,okS_cons.mpr ⟨⟨q0,q1⟩,o⟩,by rw [List.length_cons,l],by rw [sumS_cons,s]; omega⟩
  ·rintro ⟨h,z,o,l,s⟩
   cases z with
   | nil=>cases l
   | cons q r =>
    have o':=okS_cons.mp o
    have tp:=thk_pos hT o'.1.1 o'.1.2
    rw [sumS_cons] at s
    exact ⟨h,sumS T r,(ro_sm hT).mpr ⟨by omega,r,o'.2,by simpa using l,rfl⟩,_,thk_mem o'.1.1 o'.1.2,by omega⟩
theorem ro_n (hT:Pos T) (h:ro T top n ≠ []):(n:Int) ≤ top:=by
 cases hc:ro T top n with
 | nil=>exact absurd hc h
 | cons x l =>
  obtain ⟨h1,z,o,e,s⟩:=(ro_sm (n:=n) (x:=x) (top:=top) hT).mp (by rw [hc]; exact List.mem_cons_self)
  have:=sumS_len hT o
  omega
theorem ro_len (h:top ≤ 58):(ro T top n).length ≤ 59:=nd_len 59 0 _ (ro_pw.imp fun h=>by omega) fun x m=>by
 have:=ro_bd m
 omega
theorem Rw.mem {F:Frs} (hT:Pos T) (hF:Rw T top n F) {x:Int}:x ∈ fky F ↔ x ∈ ro T top n:=by
 rw [ro_sm hT]
 constructor
 ·intro m
  obtain ⟨p,mp,rfl⟩:=List.mem_map.mp m
  obtain ⟨l,le⟩:=hF.ok p mp
  exact ⟨le,p.2,l.ok,l.len,l.sm⟩
 ·rintro ⟨h,z,o,l,rfl⟩
  exact hF.all z o l h
def hitB (a lo hi:Int) (l:List Int):Bool:=l.any fun x=>decide (lo ≤ a + x) && decide (a + x ≤ hi)
theorem Rw.hit {F:Frs} {a lo hi:Int} (hT:Pos T) (hF:Rw T top n F):F.filter (inS a lo hi) = [] ↔ hitB a lo hi (ro T top n) = false:=by
 rw [List.filter_eq_nil_iff]
 unfold hitB
 rw [List.any_eq_false]
 constructor
 ·intro h x m
  obtain ⟨p,mp,rfl⟩:=List.mem_map.mp ((hF.mem hT).mpr m)
  exact h p mp
 ·intro h p mp
  exact h p.1 ((hF.mem hT).mp (List.mem_map.mpr ⟨p,mp,rfl⟩))
theorem Rw.nil {F:Frs} (hT:Pos T) (hF:Rw T top n F):F = [] ↔ ro T top n = []:=by
 constructor
 ·rintro rfl
  refine List.eq_nil_iff_forall_not_mem.mpr fun x m=>?_
  have:=(hF.mem hT).mpr m
  cases this
 ·intro h
  refine List.eq_nil_iff_forall_not_mem.mpr fun p m=>?_
  have:=(hF.mem hT).mp (List.mem_map.mpr ⟨p,m,rfl⟩)
  rw [h] at this
  cases this
end
theorem sp_sums_of {T:List Int} {top:Int} {n:Nat} {F:Frs} (hT:Pos T) (hF:Rw T top n F) (hl:F.length ≤ 201) (q:R (.d (shD (ro T top n))) []):q_sums_of [.d (frsD F)] [] R:=by
 unfold q_sums_of frsD
 walk_at "ds_"
 refine ⟨frsM F,rfl,fky F,by unfold frsM fky; rw [List.map_map,List.map_map]; rfl,by unfold fky; rw [List.length_map]; omega,fun ms hp pw=>?_⟩
 have nd:ms.Nodup:=hp.nodup_iff.mpr hF.nd
 have e:ms = ro T top n:=srt_one (r:=fun a b:Int=>a < b) (by intros; omega) ((List.Pairwise.and pw nd).imp fun ⟨h1,h2⟩=>by omega) ro_pw fun x=>by rw [hp.mem_iff,hF.mem hT]
 subst e
 walk_at "ds_"
 exact q
theorem sp_law_first_row {T:List Int} {a lo hi:Int} (q:R (.d (shD (ro T (hi - a) 0))) []):q_law_first_row [.d (.int a),.d (.tuple [.int lo,.int hi])] [] R:=by
 unfold q_law_first_row
 unfold ro at q
 walk_at "ds_"
 refine seq1 ?_
 walk_at "ds_"
 by_cases h:hi < a
 ·rw [if_neg (by omega)] at q
  rw [if_pos h]
  walk_at "ds_"
  exact q
 ·rw [if_pos (by omega)] at q
  rw [if_neg h]
  walk_at "ds_"
  exact q
theorem sp_law_hits {a lo hi:Int} {l:List Int} (hl:l.length ≤ 1000) (q:R (.d (.bool (hitB a lo hi l))) []):q_law_hits_v2 [.d (.int a),.d (.tuple [.int lo,.int hi]),.d (shD l)] [] R:=by
 unfold q_law_hits_v2 shD
 walk_at "ds_"
 refine cmf1 (S0:=[]) (h:=PyData.int) PyData.int (fun x=>decide (lo ≤ a + x) && decide (a + x ≤ hi)) rfl l hl ?_ ?_
 ·intro x mx u acc R' hk
  walk_at "ds_"
  by_cases h1:lo ≤ a + x
  ·rw [if_pos h1]
   rw [decide_eq_true h1,Bool.true_and] at hk
   walk_at "ds_"
   exact hk _ fun _ T hT=>by walk_at "ds_"; exact hT
  ·rw [if_neg h1]
   rw [decide_eq_false h1,Bool.false_and] at hk
   walk_at "ds_"
   exact hk _ fun h=>by cases h
 ·refine ⟨[],_,rfl,rfl,(shp_list (n:=0) (shp_map fun x _=>shp_int)).ok,rfl,?_⟩
  rw [eqv_nil]
  have e:(!decide ((l.filter fun x=>decide (lo ≤ a + x) && decide (a + x ≤ hi)).map PyData.int = [])) = hitB a lo hi l:=by
   unfold hitB
   cases hc:l.any fun x=>decide (lo ≤ a + x) && decide (a + x ≤ hi) with
   | false =>
    rw [List.any_eq_false] at hc
    rw [List.filter_eq_nil_iff.mpr hc]
    rfl
   | true =>
    obtain ⟨x,mx,hx⟩:=List.any_eq_true.mp hc
    rw [decide_eq_false]
    ·rfl
    ·intro z
     have:=List.filter_eq_nil_iff.mp (List.map_eq_nil_iff.mp z) x mx
     exact this hx
  rw [e]
  walk_at "ds_"
  exact q
theorem sp_law_next_row {T:List Int} {top:Int} {n:Nat} (hT:Pos T) (hl:T.length ≤ 8) (ht:top ≤ 58) (q:R (.d (shD (ro T top (n + 1)))) []):q_law_next_row [.d (shD T),.d (shD (ro T top n)),.d (.int top)] [] R:=by
 unfold q_law_next_row
 rw [show shD (ro T top n) = .tuple ((ro T top n).map PyData.int) from rfl,show shD T = .tuple (T.map PyData.int) from rfl]
 have rl:=ro_len (T:=T) (n:=n) ht
 walk_at "ds_"
 refine seq1 ?_
 walk_at "ds_"
 refine seq1 ?_
 walk_at "ds_"
 refine loop_inv (fun i δ S=>∃ (acc:List Int) (u:Option XV),S = [acc.map PyData.int]∧δ = [some (.d (.tuple (T.map PyData.int))),some (.d (.tuple ((ro T top n).map PyData.int))),some (.d (.int top)),some (.l 0),u]∧acc.length ≤ 8 * i∧∀ x,x ∈ acc ↔ x ≤ top∧∃ (j:Nat) (y:Int),j < i∧(ro T top n)[j]? = some y∧∃ t ∈ T,y + t = x) ⟨[],_,rfl,rfl,by simp,fun x=>⟨by simp,fun ⟨_,j,_,h,_⟩=>by omega⟩⟩ ?_ ?_
 ·rintro i d _ _ N hi ⟨acc,u,rfl,rfl,la,ma⟩ hN
  obtain ⟨y,ey,rfl⟩:=get_map hi
  have il:=(List.getElem?_eq_some_iff.mp ey).1
  walk_at "ds_"
  refine cmf1 (S0:=[acc.map PyData.int]) (h:=PyData.int) (fun t=>.int (y + t)) (fun t=>decide (y + t ≤ top)) rfl T (by omega) ?_ ?_
  ·intro t mt u acc' R' hk
   walk_at "ds_"
   exact hk _ fun _ T' hT'=>by walk_at "ds_"; exact hT'
  ·refine ⟨_,_,rfl,rfl,?_⟩
   walk_at "ds_"
   have fl:=List.length_filter_le (fun t=>decide (y + t ≤ top)) T
   refine ⟨by omega,hN _ _ ⟨acc ++ (T.filter fun t=>decide (y + t ≤ top)).map (y + ·),_,by rw [List.map_append,List.map_map]; rfl,rfl,by rw [List.length_append,List.length_map]; omega,fun x=>?_⟩⟩
   rw [List.mem_append,ma x,List.mem_map]
   constructor
   ·rintro (⟨h,j,y',hj,e⟩ | ⟨t,mt,rfl⟩)
    ·exact ⟨h,j,y',by omega,e⟩
    ·obtain ⟨mt,h⟩:=List.mem_filter.mp mt
     exact ⟨of_decide_eq_true h,i,y,by omega,ey,t,mt,rfl⟩
   ·rintro ⟨h,j,y',hj,e,t,mt,rfl⟩
    by_cases z:j = i
    ·subst z
     rw [ey] at e
     cases e
     exact .inr ⟨t,List.mem_filter.mpr ⟨mt,decide_eq_true h⟩,rfl⟩
    ·exact .inl ⟨h,j,y',by omega,e,t,mt,rfl⟩
 ·rintro _ _ ⟨acc,u,rfl,rfl,la,ma⟩
  rw [List.length_map] at la ma
  have mr:∀ x,x ∈ acc ↔ x ∈ ro T top (n + 1):=fun x=>by
   rw [ma x,ro_next hT]
   constructor
   ·rintro ⟨h,j,y,hj,e,t,mt,rfl⟩
    exact ⟨h,y,List.mem_of_getElem? e,t,mt,rfl⟩
   ·rintro ⟨h,y,my,t,mt,rfl⟩
    obtain ⟨j,hj⟩:=List.mem_iff_getElem?.mp my
    exact ⟨h,j,y,(List.getElem?_eq_some_iff.mp hj).1,hj,t,mt,rfl⟩
  refine ⟨[],_,rfl,_,rfl,_,rfl,acc,rfl,⟨upto 58,by decide,fun x m=>upto_mem.mpr ?_⟩,fun ms pw mm=>?_⟩
  ·have:=ro_bd ((mr x).mp m)
   omega
  have e:ms = ro T top (n + 1):=srt_one (r:=fun a b:Int=>a < b) (by intros; omega) pw ro_pw fun x=>by rw [mm x,mr x]
  subst e
  walk_at "ds_"
  exact q
def Tbl (T:List Int) (a lo hi:Int) (L:List (List Int)):Prop:=∃ m:Nat,(∀ j,j < m→ro T (hi - a) j ≠ []∧hitB a lo hi (ro T (hi - a) j) = false)∧(ro T (hi - a) m = []∧L = (List.range (m + 1)).map (ro T (hi - a))∨ro T (hi - a) m ≠ []∧hitB a lo hi (ro T (hi - a) m) = true∧L = (List.range m).map (ro T (hi - a)))
theorem Tbl.one {T:List Int} {a lo hi:Int} {L M:List (List Int)} (h:Tbl T a lo hi L) (k:Tbl T a lo hi M):L = M:=by
 obtain ⟨m,h1,h2⟩:=h
 obtain ⟨n,k1,k2⟩:=k
 have e:m = n:=by
  rcases Nat.lt_trichotomy m n with z | z | z
  ·exfalso
   have:=k1 m z
   rcases h2 with ⟨w,_⟩ | ⟨_,w,_⟩
   ·exact this.1 w
   ·rw [this.2] at w
    cases w
  ·exact z
  ·exfalso
   have:=h1 n z
   rcases k2 with ⟨w,_⟩ | ⟨_,w,_⟩
   ·exact this.1 w
   ·rw [this.2] at w
    cases w
 subst e
 rcases h2 with ⟨w,e1⟩ | ⟨w,_,e1⟩
 ·rcases k2 with ⟨_,e2⟩ | ⟨w2,_⟩
  ·rw [e1,e2]
  ·exact absurd w w2
 ·rcases k2 with ⟨w2,_⟩ | ⟨_,_,e2⟩
  ·exact absurd w2 w
  ·rw [e1,e2]
def tbD (L:List (List Int)):PyData:=.list (L.map shD)
theorem rng_snoc (T:List Int) (top:Int) (n:Nat):(List.range (n + 1)).map (ro T top) = (List.range n).map (ro T top) ++ [ro T top n]:=by
 rw [List.range_succ,List.map_append]
 rfl
theorem eqv_nilT (ds:List PyData):PyData.eqv (.tuple ds) (.tuple []) = decide (ds = []):=by
 cases ds <;> rfl
theorem sp_law_table {T:List Int} {a lo hi:Int} (hT:Pos T) (hl:T.length ≤ 8) (h:hi - a ≤ 58) (q:∀ L,Tbl T a lo hi L→R (.d (tbD L)) []):q_law_table [.d (shD T),.d (.int a),.d (.tuple [.int lo,.int hi])] [] R:=by
 unfold q_law_table
 walk_at "ds_"
 (refine seq1 ?_; walk_at "ds_")
 refine seq1 ?_
 walk_at "ds_"
 refine sp_law_first_row (T:=T) ?_
 walk_at "ds_"
 refine seq1 ?_
 refine ⟨fun m δ S=>∃ n:Nat,S = [((List.range n).map (ro T (hi - a))).map shD]∧δ = [some (.d (shD T)),some (.d (.int a)),some (.d (.tuple [.int lo,.int hi])),some (.l 0),some (.d (shD (ro T (hi - a) n)))]∧(∀ j,j < n→ro T (hi - a) j ≠ []∧hitB a lo hi (ro T (hi - a) j) = false)∧n ≤ 60∧m = 61 - n,
  ⟨_,0,rfl,rfl,fun j hj=>by omega,by omega,rfl⟩,?_⟩
 rintro m _ _ ⟨n,rfl,rfl,hb,hn,rfl⟩
 have rl:=ro_len (T:=T) (n:=n) h
 have sh:=(shp_set (n:=0) (ro T (hi - a) n)).ok
 walk_at "ds_"
 refine ⟨sh,rfl,?_⟩
 have ev:(shD (ro T (hi - a) n)).eqv (PyData.tuple []) = decide (ro T (hi - a) n = []):=by
  unfold shD
  rw [eqv_nilT]
  exact decide_eq_decide.mpr List.map_eq_nil_iff
 have sl:(((List.range n).map (ro T (hi - a))).map shD).length = n:=by simp
 rw [ev]
 by_cases hE:ro T (hi - a) n = []
 ·rw [decide_eq_true hE,if_neg (by decide)]
  refine seq1 ?_
  walk_at "ds_"
  refine ⟨sh,rfl,?_⟩
  rw [ev,decide_eq_true hE,if_pos rfl]
  have:=q _ ⟨n,hb,.inl ⟨hE,rfl⟩⟩
  unfold tbD at this
  rw [rng_snoc,hE,List.map_append] at this
  walk_at "ds_"
  exact ⟨by simp; omega,this⟩
 ·rw [decide_eq_false hE,if_pos rfl]
  refine sp_law_hits (by omega) ?_
  walk_at "ds_"
  have hn':=ro_n hT hE
  cases hh:hitB a lo hi (ro T (hi - a) n) with
  | false =>
   walk_at "ds_"
   refine ⟨fun δ' S'=>S' = [((List.range (n + 1)).map (ro T (hi - a))).map shD]∧δ' = [some (.d (shD T)),some (.d (.int a)),some (.d (.tuple [.int lo,.int hi])),some (.l 0),some (.d (shD (ro T (hi - a) (n + 1))))],?_,?_⟩
   ·rintro _ _ ⟨rfl,rfl⟩
    refine ⟨61 - (n + 1),by omega,n + 1,rfl,rfl,fun j hj=>?_,by omega,rfl⟩
    by_cases z:j = n
    ·subst z
     exact ⟨hE,hh⟩
    ·exact hb j (by omega)
   ·refine seq1 ?_
    walk_at "ds_"
    refine ⟨by simp; omega,?_⟩
    refine sp_law_next_row hT hl h ?_
    walk_at "ds_"
    rw [rng_snoc,List.map_append]
    rfl
  | true =>
   walk_at "ds_"
   refine seq1 ?_
   walk_at "ds_"
   refine ⟨sh,rfl,?_⟩
   rw [ev,decide_eq_false hE,if_neg (by decide)]
   walk_at "ds_"
   exact .inl (q _ ⟨n,hb,.inr ⟨hE,hh,rfl⟩⟩)
theorem sp_rows64 {T:List Int} {a lo hi:Int} (hT:Pos T) (hl:T.length ≤ 8) (h:hi - a ≤ 200) (q:∀ (Fs:List (Nat × Frs)) (F:Frs) (n:Nat),Fs.map (·.1) = List.range n→(∀ p ∈ Fs,Rw T (hi - a) p.1 p.2∧p.2.length ≤ 201∧p.2 ≠ []∧p.2.filter (inS a lo hi) = [])→Rw T (hi - a) n F→F.length ≤ 201→n ≤ 201→(F = []∨F.filter (inS a lo hi) ≠ [])→R (.d (.list ((Fs ++ [(n,F)]).map fun p=>frsD p.2))) []):q_rows_to_the_end [.d (shD T),.d (.int a),.d (.tuple [.int lo,.int hi])] [] R:=by
 unfold q_rows_to_the_end
 walk_at "ds_"
 (refine seq1 ?_; walk_at "ds_")
 refine sp_most_rise h ?_
 walk_at "ds_"
 (refine seq1 ?_; walk_at "ds_")
 refine sp_first_row (T:=T) fun F0 hF0 l0=>?_
 walk_at "ds_"
 refine seq1 ?_
 refine ⟨fun m δ S=>∃ (Fs:List (Nat × Frs)) (F:Frs) (n:Nat),S = [(Fs ++ [(n,F)]).map fun p=>frsD p.2]∧δ = [some (.d (shD T)),some (.d (.int a)),some (.d (.tuple [.int lo,.int hi])),some (.d (.int (hi - a))),some (.l 0)]∧Rw T (hi - a) n F∧F.length ≤ 201∧(∀ p ∈ Fs,Rw T (hi - a) p.1 p.2∧p.2.length ≤ 201∧p.2 ≠ []∧p.2.filter (inS a lo hi) = [])∧Fs.map (·.1) = List.range n∧n ≤ 201∧m = 202 - n,
  ⟨_,[],F0,0,rfl,rfl,hF0,by omega,by simp,rfl,by omega,rfl⟩,?_⟩
 rintro m _ _ ⟨Fs,F,n,rfl,rfl,hF,lF,hb,eFs,hn,rfl⟩
 have lFs:Fs.length = n:=by rw [← List.length_map (f:=fun p:Nat × Frs=>p.1),eFs,List.length_range]
 have el:atI ((Fs ++ [(n,F)]).map fun p=>frsD p.2) (-1) = some (frsD F):=by rw [List.map_append]; exact atI_last _ _
 walk_at "ds_"
 refine ⟨_,el,?_⟩
 refine ⟨frsM F,rfl,?_⟩
 by_cases hE:F = []
 ·subst hE
  walk_at "ds_"
  have:=q Fs [] n eFs hb hF (by simp) hn (.inl rfl)
  rw [if_neg (show ¬ (frsM []).isEmpty = false by decide)]
  walk_at "ds_"
  exact .inl this
 ·have hne:(frsM F).isEmpty = false:=by cases F with
   | nil=>exact absurd rfl hE
   | cons x y=>rfl
  rw [hne]
  walk_at "ds_"
  refine ⟨_,el,?_⟩
  refine sp_stacks_that_do (by omega) ?_
  walk_at "ds_"
  have n200:=hF.n200 hT h hE
  by_cases hf:F.filter (inS a lo hi) = []
  ·rw [hf]
   walk_at "ds_"
   refine ⟨fun δ' S'=>∃ G,Rw T (hi - a) (n + 1) G∧S' = [((Fs ++ [(n,F)]).map fun p=>frsD p.2) ++ [frsD G]]∧δ' = [some (.d (shD T)),some (.d (.int a)),some (.d (.tuple [.int lo,.int hi])),some (.d (.int (hi - a))),some (.l 0)],?_,_,el,?_⟩
   ·rintro _ _ ⟨G,hG,rfl,rfl⟩
    refine ⟨202 - (n + 1),by omega,Fs ++ [(n,F)],G,n + 1,by rw [List.map_append (l₁:=Fs ++ [(n,F)])]; rfl,rfl,hG,hG.len201 hT h,fun p mp=>?_,by rw [List.map_append,eFs,List.range_succ]; rfl,by omega,rfl⟩
    rcases List.mem_append.mp mp with mp | mp
    ·exact hb p mp
    ·rw [List.mem_singleton.mp mp]
     exact ⟨hF,lF,hE,hf⟩
   ·refine sp_next_row hT hl (by omega) h hF lF fun G hG=>?_
    walk_at "ds_"
    exact ⟨by omega,G,hG,rfl⟩
  ·have he:((F.filter (inS a lo hi)).map fun p=>setD p.2).isEmpty = false:=by
    cases hc:F.filter (inS a lo hi) with
    | nil=>exact absurd hc hf
    | cons x y=>rfl
   rw [he]
   walk_at "ds_"
   exact .inl (q Fs F n eFs hb hF lF hn (.inr hf))
theorem sp_table_of {T:List Int} {a lo hi:Int} (hT:Pos T) (hl:T.length ≤ 8) (h:hi - a ≤ 200) (q:∀ L,Tbl T a lo hi L→R (.l 0) [L.map shD]):q_table_of [.d (shD T),.d (.int a),.d (.tuple [.int lo,.int hi])] [] R:=by
 unfold q_table_of
 walk_at "ds_"
 (refine seq1 ?_; walk_at "ds_")
 refine sp_rows64 hT hl h fun Fs F n eFs hb hF lF hn hor=>?_
 have lFs:Fs.length = n:=by rw [← List.length_map (f:=fun p:Nat × Frs=>p.1),eFs,List.length_range]
 walk_at "ds_"
 have all:∀ p ∈ Fs ++ [(n,F)],Rw T (hi - a) p.1 p.2∧p.2.length ≤ 201:=fun p mp=>by
  rcases List.mem_append.mp mp with mp | mp
  ·exact ⟨(hb p mp).1,(hb p mp).2.1⟩
  ·rw [List.mem_singleton.mp mp]
   exact ⟨hF,lF⟩
 refine cmf1 (S0:=[]) (h:=fun p:Nat × Frs=>frsD p.2) (fun p=>shD (ro T (hi - a) p.1)) (fun p=>(p.2.filter (inS a lo hi)).isEmpty) rfl _ (by simp; omega) ?_ ?_
 ·intro p mp u acc R' hk
  obtain ⟨hp,lp⟩:=all p mp
  walk_at "ds_"
  refine sp_stacks_that_do (by omega) ?_
  walk_at "ds_"
  rw [show ((p.2.filter (inS a lo hi)).map fun p=>setD p.2).isEmpty = (p.2.filter (inS a lo hi)).isEmpty by cases p.2.filter (inS a lo hi) <;> rfl]
  rw [Bool.not_not]
  refine hk _ fun _ T' hT'=>?_
  walk_at "ds_"
  refine sp_sums_of hT hp lp ?_
  walk_at "ds_"
  exact hT'
 ·have e1:Fs.filter (fun p=>(p.2.filter (inS a lo hi)).isEmpty) = Fs:=List.filter_eq_self.mpr fun p mp=>by
   show (p.2.filter (inS a lo hi)).isEmpty = true
   rw [(hb p mp).2.2.2]
   rfl
  have e2:Fs.map (fun p=>shD (ro T (hi - a) p.1)) = ((List.range n).map (ro T (hi - a))).map shD:=by
   rw [← eFs,List.map_map,List.map_map]
   rfl
  have low:∀ j,j < n→ro T (hi - a) j ≠ []∧hitB a lo hi (ro T (hi - a) j) = false:=fun j hj=>by
   have:j ∈ Fs.map (·.1):=by rw [eFs]; exact List.mem_range.mpr hj
   obtain ⟨p,mp,rfl⟩:=List.mem_map.mp this
   obtain ⟨b1,_,b2,b3⟩:=hb p mp
   exact ⟨fun z=>b2 ((b1.nil hT).mpr z),(b1.hit hT).mp b3⟩
  refine ⟨_,rfl,.inr ?_⟩
  rw [List.filter_append,e1,List.map_append,e2]
  rcases hor with rfl | hor
  ·have:=q _ ⟨n,low,.inl ⟨(hF.nil hT).mp rfl,rfl⟩⟩
   rw [rng_snoc,List.map_append] at this
   exact this
  ·have hne:F ≠ []:=fun z=>hor (by rw [z]; rfl)
   have:=q _ ⟨n,low,.inr ⟨fun z=>hne ((hF.nil hT).mpr z),?_,rfl⟩⟩
   ·rw [List.filter_cons_of_neg,List.filter_nil,List.map_nil,List.append_nil]
    ·exact this
    ·show ¬ (F.filter (inS a lo hi)).isEmpty = true
     cases hc:F.filter (inS a lo hi) with
     | nil=>exact absurd hc hor
     | cons x y=>simp
   ·cases hc:hitB a lo hi (ro T (hi - a) n) with
    | true=>rfl
    | false=>exact absurd ((hF.hit hT).mpr hc) hor
def sameZ (c:List Int):PyData→Bool
 | .tuple ds=>ds.all wholeD && PyData.eqv (.tuple ds) (shD c)
 | _=>false
theorem sameZT (c:List Int) (ds:List PyData):sameZ c (.tuple ds) = (ds.all wholeD && PyData.eqv (.tuple ds) (shD c)):=rfl
theorem shp_wholeZ {ds:List PyData} (h:ds.all wholeD = true):SeqAt.shaped (.tuple ds) = true:=(shp_tup (n:=0) fun e m=>by
 have:=List.all_eq_true.mp h e m
 cases e with
 | int i=>exact shp_int
 | _=>cases this).ok
def lenZ:PyData→Nat
 | .tuple ds=>ds.length
 | _=>0
theorem cmpZ {g:DG} {te:DE} {fin:Sto→Prop} {S0:Sto} {n:Nat} {caps:XE} (f:PyData→PyData) (hn:S0.length = n) (ds:List PyData) {u:Option XV} (hl:ds.length ≤ 1000)
  (el:∀ x ∈ ds,∀ (u:Option XV) acc (R:XE→RX),(∀ u',R (u' :: caps) (.d (f x)) (S0 ++ [acc]))→g (.d x) (u :: caps) (S0 ++ [acc]) fun τ1 S1=>te τ1 S1 (R τ1)) (hf:fin (S0 ++ [ds.map f])):dCmp n g dNoIf te fin ds (u :: caps) (S0 ++ [[]]):=by
 have:=cmp1 (h:=fun d:PyData=>d) (u:=u) f hn ds hl el hf
 simpa only [List.map_id'] using this
theorem sp_is_wholeZ {d:PyData} (q:R (.d (.bool (wholeD d))) []):q_is_whole [.d d] [] R:=by
 unfold q_is_whole
 cases d <;> (walk_at "dd_"; exact q)
theorem sp_is_sameZ {c:List Int} {d:PyData} (hd:lenZ d ≤ 900) (q:R (.d (.bool (sameZ c d))) []):q_is_same [.d d,.d (shD c)] [] R:=by
 unfold q_is_same
 cases d with
 | tuple ds =>
  walk_at "ds_"
  rw [sameZT] at q
  refine cmpZ (S0:=[]) (fun d=>.bool (wholeD d)) rfl ds (Nat.le_trans hd (by decide)) ?_ ?_
  ·intro x mx u acc R' hk
   walk_at "ds_"
   refine sp_is_wholeZ ?_
   walk_at "ds_"
   exact hk _
  ·walk_at "ds_"
   refine ⟨ds.map wholeD,by rw [List.map_map]; rfl,?_⟩
   rw [List.all_map,show ds.all (id ∘ wholeD) = ds.all wholeD from rfl]
   cases hw:ds.all wholeD with
   | false =>
    rw [hw] at q
    exact q
   | true =>
    rw [hw,Bool.true_and] at q
    exact ⟨shp_wholeZ hw,(shp_set (n:=0) c).ok,q⟩
 | none=>(walk_at "ds_"; exact q)
 | bool b=>(walk_at "ds_"; exact q)
 | int b=>(walk_at "ds_"; exact q)
 | str b=>(walk_at "ds_"; exact q)
 | list b=>(walk_at "ds_"; exact q)
 | dict b=>(walk_at "ds_"; exact q)
def hdB (T:List Int) (a lo hi:Int):Nat→List PyData→Bool
 | _,[]=>true
 | n,d :: ds=>(sameZ (ro T (hi - a) n) d && !hitB a lo hi (ro T (hi - a) n)) && hdB T a lo hi (n + 1) ds
def heldB (T:List Int) (a lo hi many:Int):PyData→Bool
 | .list ds=>decide ((ds.length:Int) = many) && hdB T a lo hi 0 ds
 | _=>false
def ThT:PyData→Prop
 | .list ds=>ds.length ≤ 200∧∀ e ∈ ds,lenZ e ≤ 900
 | _=>True
theorem drop_get {α:Type} {l:List α} {i:Nat} {x:α} (h:l[i]? = some x):l.drop i = x :: l.drop (i + 1):=by
 obtain ⟨hi,rfl⟩:=List.getElem?_eq_some_iff.mp h
 exact List.drop_eq_getElem_cons hi
theorem sp_table_holds {T:List Int} {a lo hi many:Int} {d:PyData} (hT:Pos T) (hl:T.length ≤ 8) (h:hi - a ≤ 200) (hd:ThT d) (q:R (.d (.bool (heldB T a lo hi many d))) []):q_table_holds [.d (shD T),.d (.int a),.d (.tuple [.int lo,.int hi]),.d (.int many),.d d] [] R:=by
 unfold q_table_holds
 walk_at "ds_"
 (refine seq1 ?_; walk_at "ds_")
 refine sp_most_rise h ?_
 walk_at "ds_"
 refine seq1 ?_
 cases d with
 | list ds =>
  walk_at "ds_"
  obtain ⟨l2,el⟩:=hd
  have eh:heldB T a lo hi many (.list ds) = (decide ((ds.length:Int) = many) && hdB T a lo hi 0 ds):=rfl
  rw [eh] at q
  by_cases hm:(ds.length:Int) = many
  ·rw [decide_eq_true hm,Bool.true_and] at q
   rw [if_neg (by simpa using hm)]
   (refine seq1 ?_; walk_at "ds_")
   refine sp_first_row (T:=T) fun F0 hF0 l0=>?_
   walk_at "ds_"
   refine seq1 ?_
   walk_at "ds_"
   refine loop_inv (fun i δ S=>∃ (F:Frs) (u:Option XV),S = []∧δ = [some (.d (shD T)),some (.d (.int a)),some (.d (.tuple [.int lo,.int hi])),some (.d (.int many)),some (.d (.list ds)),some (.d (.int (hi - a))),some (.d (frsD F)),u]∧Rw T (hi - a) i F∧F.length ≤ 201∧hdB T a lo hi 0 ds = hdB T a lo hi i (ds.drop i)) ⟨F0,_,rfl,rfl,hF0,by omega,rfl⟩ ?_ ?_
   ·rintro i d _ _ N hi' ⟨F,u,rfl,rfl,hF,lF,eq⟩ hN
    have il:=(List.getElem?_eq_some_iff.mp hi').1
    rw [drop_get hi'] at eq
    have eq':hdB T a lo hi 0 ds = ((sameZ (ro T (hi - a) i) d && !hitB a lo hi (ro T (hi - a) i)) && hdB T a lo hi (i + 1) (ds.drop (i + 1))):=eq
    walk_at "ds_"
    refine seq1 ?_
    walk_at "ds_"
    refine sp_sums_of hT hF lF ?_
    walk_at "ds_"
    refine sp_is_sameZ (el d (List.mem_of_getElem? hi')) ?_
    cases hs:sameZ (ro T (hi - a) i) d with
    | false =>
     rw [hs,Bool.false_and,Bool.false_and] at eq'
     rw [eq'] at q
     walk_at "ds_"
     exact q
    | true =>
     rw [hs,Bool.true_and] at eq'
     walk_at "ds_"
     refine sp_stacks_that_do (by omega) ?_
     walk_at "ds_"
     by_cases hf:F.filter (inS a lo hi) = []
     ·rw [(hF.hit hT).mp hf,Bool.not_false,Bool.true_and] at eq'
      rw [hf]
      walk_at "ds_"
      refine sp_next_row hT hl (by omega) h hF lF fun G hG=>?_
      walk_at "ds_"
      exact hN _ _ ⟨G,_,rfl,rfl,hG,hG.len201 hT h,eq'⟩
     ·have hh:hitB a lo hi (ro T (hi - a) i) = true:=by
       cases hc:hitB a lo hi (ro T (hi - a) i) with
       | true=>rfl
       | false=>exact absurd ((hF.hit hT).mpr hc) hf
      have he:((F.filter (inS a lo hi)).map fun p=>setD p.2).isEmpty = false:=by
       cases hc:F.filter (inS a lo hi) with
       | nil=>exact absurd hc hf
       | cons x y=>rfl
      rw [hh,Bool.not_true,Bool.false_and] at eq'
      rw [eq'] at q
      rw [he]
      walk_at "ds_"
      exact q
   ·rintro _ _ ⟨F,u,rfl,rfl,hF,lF,eq⟩
    rw [List.drop_length] at eq
    rw [eq] at q
    walk_at "ds_"
    exact q
  ·rw [decide_eq_false hm,Bool.false_and] at q
   rw [if_pos (by simpa using hm)]
   exact q
 | none=>(walk_at "ds_"; exact q)
 | bool b=>(walk_at "ds_"; exact q)
 | int b=>(walk_at "ds_"; exact q)
 | str b=>(walk_at "ds_"; exact q)
 | tuple b=>(walk_at "ds_"; exact q)
 | dict b=>(walk_at "ds_"; exact q)
theorem sp_law_due_v8 {T:List Int} {a lo hi many:Int} {d:PyData} (hT:Pos T) (hl:T.length ≤ 8) (h:hi - a ≤ 58) (hd:ThT d) (q:R (.d (.bool (heldB T a lo hi many d))) []):q_law_due_v8 [.d (shD T),.d (.int a),.d (.tuple [.int lo,.int hi]),.d (.int many),.d d] [] R:=by
 unfold q_law_due_v8
 walk_at "ds_"
 refine seq1 ?_
 cases d with
 | list ds =>
  walk_at "ds_"
  obtain ⟨l2,el⟩:=hd
  have eh:heldB T a lo hi many (.list ds) = (decide ((ds.length:Int) = many) && hdB T a lo hi 0 ds):=rfl
  rw [eh] at q
  by_cases hm:(ds.length:Int) = many
  ·rw [decide_eq_true hm,Bool.true_and] at q
   rw [if_neg (by simpa using hm)]
   (refine seq1 ?_; walk_at "ds_")
   refine sp_law_first_row (T:=T) ?_
   walk_at "ds_"
   refine seq1 ?_
   walk_at "ds_"
   refine loop_inv (fun i δ S=>∃ (u:Option XV),S = []∧δ = [some (.d (shD T)),some (.d (.int a)),some (.d (.tuple [.int lo,.int hi])),some (.d (.int many)),some (.d (.list ds)),some (.d (shD (ro T (hi - a) i))),u]∧hdB T a lo hi 0 ds = hdB T a lo hi i (ds.drop i)) ⟨_,rfl,rfl,rfl⟩ ?_ ?_
   ·rintro i d _ _ N hi' ⟨u,rfl,rfl,eq⟩ hN
    have il:=(List.getElem?_eq_some_iff.mp hi').1
    have ll:=el d (List.mem_of_getElem? hi')
    rw [drop_get hi'] at eq
    have eq':hdB T a lo hi 0 ds = ((sameZ (ro T (hi - a) i) d && !hitB a lo hi (ro T (hi - a) i)) && hdB T a lo hi (i + 1) (ds.drop (i + 1))):=eq
    have rl:=ro_len (T:=T) (n:=i) h
    walk_at "ds_"
    refine seq1 ?_
    cases d with
    | tuple es =>
     rw [sameZT] at eq'
     walk_at "ds_"
     refine cmpZ (S0:=[]) (fun d=>.bool (wholeD d)) rfl es (Nat.le_trans ll (by decide)) ?_ ?_
     ·intro x mx u acc R' hk
      walk_at "ds_"
      refine sp_law_whole ?_
      walk_at "ds_"
      exact hk _
     ·refine ⟨[],_,rfl,rfl,es.map wholeD,by rw [List.map_map]; rfl,?_⟩
      rw [List.all_map,show es.all (id ∘ wholeD) = es.all wholeD from rfl]
      cases hw:es.all wholeD with
      | false =>
       rw [hw,Bool.false_and,Bool.false_and,Bool.false_and] at eq'
       rw [eq'] at q
       rw [if_pos rfl]
       exact q
      | true =>
       rw [hw,Bool.true_and] at eq'
       rw [if_neg (by decide)]
       refine ⟨shp_wholeZ hw,(shp_set (n:=0) _).ok,?_⟩
       cases hv:(PyData.tuple es).eqv (shD (ro T (hi - a) i)) with
       | false =>
        rw [hv,Bool.false_and,Bool.false_and] at eq'
        rw [eq'] at q
        rw [if_pos rfl]
        exact q
       | true =>
        rw [hv,Bool.true_and] at eq'
        rw [if_neg (by decide)]
        refine seq1 ?_
        walk_at "ds_"
        refine sp_law_hits (by omega) ?_
        cases hh:hitB a lo hi (ro T (hi - a) i) with
        | true =>
         rw [hh,Bool.not_true,Bool.false_and] at eq'
         rw [eq'] at q
         walk_at "ds_"
         exact q
        | false =>
         rw [hh,Bool.not_false,Bool.true_and] at eq'
         walk_at "ds_"
         refine sp_law_next_row hT hl h ?_
         walk_at "ds_"
         exact hN _ _ ⟨_,rfl,rfl,eq'⟩
    | none=>rw [eq'] at q; (walk_at "ds_"; exact q)
    | bool b=>rw [eq'] at q; (walk_at "ds_"; exact q)
    | int b=>rw [eq'] at q; (walk_at "ds_"; exact q)
    | str b=>rw [eq'] at q; (walk_at "ds_"; exact q)
    | list b=>rw [eq'] at q; (walk_at "ds_"; exact q)
    | dict b=>rw [eq'] at q; (walk_at "ds_"; exact q)
   ·rintro _ _ ⟨u,rfl,rfl,eq⟩
    rw [List.drop_length] at eq
    rw [eq] at q
    walk_at "ds_"
    exact q
  ·rw [decide_eq_false hm,Bool.false_and] at q
   rw [if_pos (by simpa using hm)]
   exact q
 | none=>(walk_at "ds_"; exact q)
 | bool b=>(walk_at "ds_"; exact q)
 | int b=>(walk_at "ds_"; exact q)
 | str b=>(walk_at "ds_"; exact q)
 | tuple b=>(walk_at "ds_"; exact q)
 | dict b=>(walk_at "ds_"; exact q)
theorem sp_law_held_v2 {T:List Int} {a lo hi many:Int} {d:PyData} (hT:Pos T) (hl:T.length ≤ 8) (h:hi - a ≤ 58) (hd:ThT d) (q:R (.d (.bool true)) []):q_law_held_v2 [.d (shD T),.d (.int a),.d (.tuple [.int lo,.int hi]),.d (.int many),.d d] [] R:=by
 unfold q_law_held_v2
 walk_at "ds_"
 (refine seq1 ?_; walk_at "ds_")
 refine sp_table_holds hT hl (by omega) hd ?_
 walk_at "ds_"
 refine sp_law_due_v8 hT hl h hd ?_
 walk_at "ds_"
 exact q
theorem tbl_bd {T:List Int} {a lo hi:Int} {L:List (List Int)} (hT:Pos T) (h:hi - a ≤ 58) (k:Tbl T a lo hi L):L.length ≤ 60∧∀ l ∈ L,l.length ≤ 59:=by
 obtain ⟨m,h1,h2⟩:=k
 have hm:m ≤ 59:=by
  rcases Nat.eq_zero_or_pos m with z | z
  ·omega
  ·have:=ro_n hT (h1 (m - 1) (by omega)).1
   omega
 rcases h2 with ⟨_,rfl⟩ | ⟨_,_,rfl⟩
 ·refine ⟨by simp; omega,fun l ml=>?_⟩
  obtain ⟨j,_,rfl⟩:=List.mem_map.mp ml
  exact ro_len h
 ·refine ⟨by simp; omega,fun l ml=>?_⟩
  obtain ⟨j,_,rfl⟩:=List.mem_map.mp ml
  exact ro_len h
theorem sp_law_told_v4 {T:List Int} {a lo hi:Int} {L:List (List Int)} (hT:Pos T) (hl:T.length ≤ 8) (h:hi - a ≤ 58) (hL:Tbl T a lo hi L) (q:R (.d (.bool true)) []):q_law_told_v4 [.d (shD T),.d (.int a),.d (.tuple [.int lo,.int hi]),.d (tbD L)] [] R:=by
 unfold q_law_told_v4 tbD
 obtain ⟨L60,R59⟩:=tbl_bd hT h hL
 walk_at "ds_"
 refine seq1 ?_
 walk_at "ds_"
 refine loop_inv (fun i δ S=>∃ (u v w x:Option XV),δ = [some (.d (shD T)),some (.d (.int a)),some (.d (.tuple [.int lo,.int hi])),some (.d (.list (L.map shD))),u,v,w,x]) ⟨_,_,_,_,rfl⟩ ?_ ?_
 ·rintro i d _ S0 N hi' ⟨u,v,w,x,rfl⟩ hN
  walk_at "ds_"
  (refine seq1 ?_; walk_at "ds_")
  refine sp_table_of hT hl (by omega) fun M hM=>?_
  have:=hL.one hM
  subst this
  have eS:(S0 ++ [L.map shD])[S0.length]? = some (L.map shD):=by simp
  walk_at "ds_"
  refine seq1 ?_
  walk_at "ds_"
  rw [eS]
  refine ⟨_,rfl,?_⟩
  rw [if_neg (by simp)]
  refine ⟨_,rfl,?_⟩
  rw [if_neg (by simp)]
  refine seq1 ?_
  walk_at "ds_"
  refine ⟨_,_,rfl,eS,?_⟩
  refine loopZ_inv (fun i δ S=>∃ (w x:Option XV),S = S0 ++ [L.map shD]∧δ = [some (.d (shD T)),some (.d (.int a)),some (.d (.tuple [.int lo,.int hi])),some (.d (.list (L.map shD))),some (.d d),some (.l S0.length),w,x]) ⟨_,_,rfl,rfl⟩ ?_ ?_ ?_
  ·rintro _ _ _ ⟨w,x,rfl,rfl⟩
   exact eS
  ·rintro j d _ _ N2 hj ⟨w,x,rfl,rfl⟩ hN2
   rw [zipD_map] at hj
   obtain ⟨⟨l1,l2⟩,ez,rfl⟩:=get_map hj
   have e12:l1 = l2:=by
    obtain ⟨f1,f2⟩:=List.getElem?_zip_eq_some.mp ez
    exact Option.some.inj (f1.symm.trans f2)
   subst e12
   have ml:l1 ∈ L:=(List.of_mem_zip (List.mem_of_getElem? ez)).1
   have ll:=R59 l1 ml
   rw [show shD l1 = .tuple (l1.map PyData.int) from rfl]
   walk_at "ds_"
   refine cmp1 (S0:=S0 ++ [L.map shD]) (h:=PyData.int) (fun _=>PyData.bool true) (by simp) l1 (by omega) ?_ ?_
   ·intro x mx u acc R' hk
    walk_at "ds_"
    refine sp_law_whole ?_
    rw [show wholeD (.int x) = true from rfl]
    walk_at "ds_"
    exact hk _
   refine ⟨_,_,rfl,by simp,l1.map fun _=>true,by rw [List.map_map]; rfl,?_⟩
   rw [if_neg (by simp)]
   have sh:=(shp_set (n:=0) l1).ok
   rw [setD_is] at sh
   refine ⟨sh,sh,?_⟩
   rw [if_neg (by rw [SeqAt.eqv_refl _ (SeqAt.canLay_of_shaped sh)]; decide)]
   exact hN2 _ _ ⟨_,_,rfl,rfl⟩
  ·rintro _ _ ⟨w,x,rfl,rfl⟩
   walk_at "ds_"
   exact ⟨by omega,_,eS,by rw [List.length_map]; omega,hN _ _ ⟨_,_,_,_,rfl⟩⟩
 ·rintro _ _ ⟨u,v,w,x,rfl⟩
  walk_at "ds_"
  exact q
def ThR (d:PyData):Prop:=lenZ d ≤ 200
theorem sp_law_odd_row {p:List PyData} {l:List Int} (hp:isPen p) (hl:l.length ≤ 59) (q:∀ d p',ThR d→isPen p'→R (.d d) [p']):q_law_odd_row [.d (shD l),.l 0] [p] R:=by
 unfold q_law_odd_row shD
 walk_at "ds_"
 (refine seq1 ?_; walk_at "ds_")
 refine sp_law_draw hp (by omega) (log2_small (by omega) (by omega)) fun r p1 r0 r1 hp1=>?_
 walk_at "ds_"
 refine seq1 ?_
 walk_at "ds_"
 have c1:=cutL_length (l.map PyData.int) none (some r)
 have c2:=cutL_length (l.map PyData.int) (some (r + 1)) none
 have c3:=cutL_length (l.map PyData.int) (some r) (some (r + 1))
 have c4:=cutL_length (l.map PyData.int) (some r) none
 rw [List.length_map] at c1 c2 c3 c4
 generalize hx1:cutL (l.map PyData.int) none (some r) = x1 at *
 generalize hx2:cutL (l.map PyData.int) (some (r + 1)) none = x2 at *
 generalize cutL (l.map PyData.int) (some r) (some (r + 1)) = x3 at *
 generalize cutL (l.map PyData.int) (some r) none = x4 at *
 refine ⟨by omega,by omega,by omega,?_⟩
 refine seq1 ?_
 walk_at "ds_"
 refine loop_inv (fun i δ S=>∃ (acc:List PyData) (u:Option XV),S = [p1,acc]∧δ = [some (.d (.tuple (l.map PyData.int))),some (.l 0),some (.d (.int r)),some (.l 1),u]∧acc.length = 9 + i∧∀ d ∈ acc,ThR d) ⟨_,_,rfl,rfl,rfl,?_⟩ ?_ ?_
 ·unfold ThR
  simp only [List.mem_cons,List.not_mem_nil,or_false]
  rintro d (rfl | rfl | rfl | rfl | rfl | rfl | rfl | rfl | rfl) <;> simp only [lenZ,List.length_append,List.length_reverse,List.length_map,List.length_nil,List.length_cons] <;> omega
 ·rintro i d _ _ N hi ⟨acc,u,rfl,rfl,la,ha⟩ hN
  have il:i < 8:=(List.getElem?_eq_some_iff.mp hi).1
  walk_at "ds_"
  rw [hx1,hx2]
  refine ⟨by omega,by omega,by omega,hN _ _ ⟨_,_,rfl,rfl,by rw [List.length_append,la]; rfl,fun e me=>?_⟩⟩
  rcases List.mem_append.mp me with me | me
  ·exact ha e me
  ·rw [List.mem_singleton.mp me]
   unfold ThR
   simp only [lenZ,List.length_append,List.length_nil,List.length_cons]
   omega
 ·rintro _ _ ⟨acc,u,rfl,rfl,la,ha⟩
  have la':acc.length = 17:=la
  walk_at "ds_"
  rw [la']
  refine sp_law_draw hp1 (by omega) (log2_small (by omega) (by omega)) fun r' p2 r2 r3 hp2=>?_
  walk_at "ds_"
  obtain ⟨d,ed,hd⟩:=ix_in (P:=ThR) (ds:=acc) r2 (by rw [la']; exact r3) ha
  exact ⟨_,ed,q _ _ hd hp2⟩
theorem cutL_mem {α:Type} {xs:List α} {lo hi:Option Int} {x:α} (m:x ∈ cutL xs lo hi):x ∈ xs:=by
 unfold cutL at m
 exact List.mem_of_mem_drop (List.mem_of_mem_take m)
theorem sp_law_odd_v8 {p:List PyData} {L:List (List Int)} (hp:isPen p) (hl:L.length ≤ 60) (hL:∀ l ∈ L,l.length ≤ 59) (q:∀ d p',ThT d→isPen p'→R (.d d) [p']):q_law_odd_v8 [.d (tbD L),.l 0] [p] R:=by
 unfold q_law_odd_v8 tbD
 walk_at "ds_"
 (refine seq1 ?_; walk_at "ds_")
 refine sp_law_draw hp (by omega) (log2_small (by omega) (by omega)) fun r p1 r0 r1 hp1=>?_
 walk_at "ds_"
 refine seq1 ?_
 walk_at "ds_"
 have c1:=cutL_length (L.map shD) none (some r)
 have c2:=cutL_length (L.map shD) (some (r + 1)) none
 have c3:=cutL_length (L.map shD) (some r) (some (r + 1))
 have c4:=cutL_length (L.map shD) (some r) none
 have c5:=cutL_length (L.map shD) none (some (-1))
 have rm:∀ e ∈ L.map shD,lenZ e ≤ 900:=fun e me=>by
  obtain ⟨l,ml,rfl⟩:=List.mem_map.mp me
  have:=hL l ml
  show (l.map PyData.int).length ≤ 900
  rw [List.length_map]
  omega
 have m1:∀ e ∈ cutL (L.map shD) none (some r),lenZ e ≤ 900:=fun e me=>rm e (cutL_mem me)
 have m2:∀ e ∈ cutL (L.map shD) (some (r + 1)) none,lenZ e ≤ 900:=fun e me=>rm e (cutL_mem me)
 have m3:∀ e ∈ cutL (L.map shD) (some r) (some (r + 1)),lenZ e ≤ 900:=fun e me=>rm e (cutL_mem me)
 have m4:∀ e ∈ cutL (L.map shD) (some r) none,lenZ e ≤ 900:=fun e me=>rm e (cutL_mem me)
 have m5:∀ e ∈ cutL (L.map shD) none (some (-1)),lenZ e ≤ 900:=fun e me=>rm e (cutL_mem me)
 rw [List.length_map] at c1 c2 c3 c4 c5
 generalize hx1:cutL (L.map shD) none (some r) = x1 at *
 generalize hx2:cutL (L.map shD) (some (r + 1)) none = x2 at *
 generalize cutL (L.map shD) (some r) (some (r + 1)) = x3 at *
 generalize cutL (L.map shD) (some r) none = x4 at *
 refine ⟨by omega,by omega,by omega,?_⟩
 refine seq1 ?_
 walk_at "ds_"
 refine ⟨by omega,by omega,?_⟩
 have alls:∀ d ∈ [PyData.list (x1 ++ x2),PyData.list (x1 ++ x3 ++ x4),PyData.list (List.map shD L).reverse,PyData.none,PyData.dict [],PyData.tuple (List.map shD L),PyData.list (List.map shD L ++ [PyData.tuple []]),PyData.list (List.map shD L ++ [PyData.tuple [PyData.int 0]]),PyData.list [],PyData.list [PyData.tuple []],PyData.list [PyData.tuple [PyData.int 0]],PyData.str (Str.ofString ""),PyData.int 0,PyData.list (cutL (List.map shD L) none (some (-1)))],ThT d:=by
  simp only [List.mem_cons,List.not_mem_nil,or_false]
  rintro d (rfl | rfl | rfl | rfl | rfl | rfl | rfl | rfl | rfl | rfl | rfl | rfl | rfl | rfl)
  ·exact ⟨by rw [List.length_append]; omega,fun e me=>(List.mem_append.mp me).elim (m1 e) (m2 e)⟩
  ·exact ⟨by rw [List.length_append,List.length_append]; omega,fun e me=>(List.mem_append.mp me).elim (fun h=>(List.mem_append.mp h).elim (m1 e) (m3 e)) (m4 e)⟩
  ·exact ⟨by rw [List.length_reverse,List.length_map]; omega,fun e me=>rm e (List.mem_reverse.mp me)⟩
  ·trivial
  ·trivial
  ·trivial
  ·exact ⟨by rw [List.length_append,List.length_map]; simp; omega,fun e me=>(List.mem_append.mp me).elim (rm e) fun h=>by rw [List.mem_singleton.mp h]; simp [lenZ]⟩
  ·exact ⟨by rw [List.length_append,List.length_map]; simp; omega,fun e me=>(List.mem_append.mp me).elim (rm e) fun h=>by rw [List.mem_singleton.mp h]; simp [lenZ]⟩
  ·exact ⟨by simp,by simp⟩
  ·exact ⟨by simp,fun e me=>by rw [List.mem_singleton.mp me]; simp [lenZ]⟩
  ·exact ⟨by simp,fun e me=>by rw [List.mem_singleton.mp me]; simp [lenZ]⟩
  ·trivial
  ·trivial
  ·exact ⟨by omega,m5⟩
 generalize hG:[PyData.list (x1 ++ x2),PyData.list (x1 ++ x3 ++ x4),PyData.list (List.map shD L).reverse,PyData.none,PyData.dict [],PyData.tuple (List.map shD L),PyData.list (List.map shD L ++ [PyData.tuple []]),PyData.list (List.map shD L ++ [PyData.tuple [PyData.int 0]]),PyData.list [],PyData.list [PyData.tuple []],PyData.list [PyData.tuple [PyData.int 0]],PyData.str (Str.ofString ""),PyData.int 0,PyData.list (cutL (List.map shD L) none (some (-1)))] = G at *
 have lG:G.length = 14:=by rw [← hG]; rfl
 have last:∀ p',isPen p'→q_law_draw [XV.l 0,XV.d (PyData.int ↑G.length)] [p'] (retP 0 [p'] fun y S2=>dIx (XV.d (PyData.list G)) y S2 (dEnd 1 R).rt):=fun p' hp'=>by
  rw [lG]
  refine sp_law_draw hp' (by omega) (log2_small (by omega) (by omega)) fun r' p2 r2 r3 hp2=>?_
  walk_at "ds_"
  obtain ⟨d,ed,hd⟩:=ix_in (P:=ThT) (ds:=G) r2 (by rw [lG]; exact r3) alls
  exact ⟨_,ed,q _ _ hd hp2⟩
 clear hG
 refine seq1 ?_
 walk_at "ds_"
 by_cases hr:r < L.length
 ·rw [if_pos hr]
  refine sp_law_draw hp1 (by decide) (by decide +kernel) fun r' p2 r2 r3 hp2=>?_
  walk_at "ds_"
  by_cases h3:0 < r'
  ·rw [if_pos h3]
   obtain ⟨k,rfl⟩:=Int.eq_ofNat_of_zero_le r0
   have hk:k < L.length:=by omega
   have ek:atI (L.map shD) (k:Int) = some (shD L[k]):=atI_nat (j:=k) (by rw [List.getElem?_map,List.getElem?_eq_getElem hk]; rfl)
   refine ⟨_,ek,sp_law_odd_row hp2 (hL _ (List.getElem_mem hk)) fun d p3 hd hp3=>?_⟩
   walk_at "ds_"
   rw [hx1,hx2]
   refine ⟨by omega,by omega,?_⟩
   refine q _ _ ⟨?_,?_⟩ hp3
   ·simp only [List.length_append,List.length_singleton]
    omega
   ·intro e me
    rcases List.mem_append.mp me with me | me
    ·rcases List.mem_append.mp me with me | me
     ·exact m1 e me
     ·rw [List.mem_singleton.mp me]
      exact Nat.le_trans hd (by decide)
    ·exact m2 e me
  ·rw [if_neg h3]
   exact last p2 hp2
 ·rw [if_neg hr]
  exact last p1 hp1
theorem sp_law_way40 {p:List PyData} (hp:isPen p) (q:∀ a lo hi p',hi - a ≤ 58→isPen p'→R (.d (.tuple [.int a,.tuple [.int lo,.int hi]])) [p']):q_law_way [.l 0,.d (.int 40)] [p] R:=by
 unfold q_law_way
 walk_at "ds_"
 (refine seq1 ?_; walk_at "ds_")
 refine sp_law_number hp fun a p1 _ _ hp1=>?_
 walk_at "ds_"
 (refine seq1 ?_; walk_at "ds_")
 refine sp_law_draw hp1 (by decide) (by decide +kernel) fun x p2 x0 x1 hp2=>?_
 walk_at "ds_"
 refine sp_law_draw hp2 (by decide) (by decide +kernel) fun y p3 y0 y1 hp3=>?_
 walk_at "ds_"
 refine sp_law_draw hp3 (by decide) (by decide +kernel) fun z p4 z0 z1 hp4=>?_
 walk_at "ds_"
 refine sp_law_draw hp4 (by decide) (by decide +kernel) fun w p5 w0 w1 hp5=>?_
 walk_at "ds_"
 obtain ⟨d,ed,v,rfl,v1⟩:=ix_in (P:=fun d=>∃ v,d = .int v∧v ≤ 40) (ds:=[PyData.int (x - 3),PyData.int y,PyData.int z]) (r:=(w + 1) / 4) (by omega) (show (w + 1) / 4 < 3 by omega) (by simp; omega)
 refine .inl ⟨⟨by decide,by decide +kernel⟩,_,ed,?_⟩
 walk_at "ds_"
 refine sp_law_draw hp5 (by decide) (by decide +kernel) fun s p6 s0 s1 hp6=>?_
 obtain ⟨d,ed2,v2,rfl,v3⟩:=ix_in (P:=fun d=>∃ v,d = .int v∧v ≤ 8) (ds:=[PyData.int 0,PyData.int 0,PyData.int 1,PyData.int 3,PyData.int 8]) s0 s1 (by simp)
 walk_at "ds_"
 refine ⟨_,ed2,?_⟩
 walk_at "ds_"
 exact q _ _ _ p6 (by omega) hp6
theorem tbl_th {T:List Int} {a lo hi:Int} {L:List (List Int)} (hT:Pos T) (h:hi - a ≤ 58) (k:Tbl T a lo hi L) (n:Nat):ThT (tbD L)∧ThT (.list (L.map shD ++ [shD (ro T (hi - a) n)])):=by
 obtain ⟨h1,h2⟩:=tbl_bd hT h k
 have rm:∀ e ∈ L.map shD,lenZ e ≤ 900:=fun e me=>by
  obtain ⟨l,ml,rfl⟩:=List.mem_map.mp me
  have:=h2 l ml
  show (l.map PyData.int).length ≤ 900
  rw [List.length_map]
  omega
 have rl:=ro_len (T:=T) (n:=n) h
 refine ⟨⟨by rw [List.length_map]; omega,rm⟩,by rw [List.length_append,List.length_map]; simp; omega,fun e me=>(List.mem_append.mp me).elim (rm e) fun h=>?_⟩
 rw [List.mem_singleton.mp h]
 show ((ro T (hi - a) n).map PyData.int).length ≤ 900
 rw [List.length_map]
 omega
theorem tbl_last {T:List Int} {a lo hi:Int} {L:List (List Int)} (k:Tbl T a lo hi L):∃ n:Nat,atI (L.map shD ++ [shD (ro T (hi - a) 0)]) ((L.length:Int) - 1) = some (shD (ro T (hi - a) n)):=by
 obtain ⟨m,h1,h2⟩:=k
 have key:∀ m:Nat,∃ n:Nat,atI (((List.range m).map (ro T (hi - a))).map shD ++ [shD (ro T (hi - a) 0)]) (((List.range m).map (ro T (hi - a))).length - 1:Int) = some (shD (ro T (hi - a) n)):=fun m=>by
  cases m with
  | zero=>exact ⟨0,rfl⟩
  | succ m =>
   refine ⟨m,?_⟩
   rw [List.length_map,List.length_range,show (((m + 1:Nat):Int) - 1) = ((m:Nat):Int) by omega]
   refine atI_nat (j:=m) ?_
   rw [List.getElem?_append_left (by simp),List.getElem?_map,List.getElem?_map,List.getElem?_range (by omega)]
   rfl
 rcases h2 with ⟨_,rfl⟩ | ⟨_,_,rfl⟩
 ·exact key _
 ·exact key _
theorem turn_k64_ok (a:Addr) (n:Int):b_k64 (lawE a 10) ((some (.o (.ref a)) :: List.replicate 10 none).set 1 (some (.d (.int n)))) []:=by
 unfold b_k64
 walk_at "ds_"
 (refine seq1 ?_; walk_at "ds_")
 refine sp_law_pen fun p hp=>?_
 walk_at "ds_"
 (refine seq1 ?_; walk_at "ds_")
 refine sp_law_shims hp fun T p1 hT hl hp1=>?_
 walk_at "ds_"
 (refine seq1 ?_; walk_at "ds_")
 refine sp_law_way40 hp1 fun b lo hi p2 h hp2=>?_
 walk_at "ds_"
 (refine seq1 ?_; walk_at "ds_")
 refine sp_law_table hT (by omega) h fun L hL=>?_
 walk_at "ds_"
 refine seq1 ?_
 walk_at "ds_"
 refine sp_law_told_v4 hT (by omega) h hL ?_
 walk_at "ds_"
 refine seq1 ?_
 walk_at "ds_"
 refine sp_law_first_row (T:=T) ?_
 obtain ⟨h60,h59⟩:=tbl_bd hT h hL
 obtain ⟨k,ek⟩:=tbl_last hL
 obtain ⟨th1,th2⟩:=tbl_th hT h hL (k + 1)
 have tw:tbD L = .list (L.map shD):=rfl
 rw [tw] at th1 ⊢
 walk_at "ds_"
 refine ⟨by omega,_,ek,?_⟩
 walk_at "ds_"
 refine seq1 ?_
 walk_at "ds_"
 refine sp_law_next_row hT (by omega) h ?_
 walk_at "ds_"
 refine ⟨by omega,?_⟩
 rw [← tw]
 walk_at "ds_"
 refine sp_law_odd_v8 hp2 h60 h59 fun d1 p3 hd1 hp3=>?_
 walk_at "ds_"
 refine sp_law_odd_v8 hp3 h60 h59 fun d2 p4 hd2 hp4=>?_
 walk_at "ds_"
 refine sp_law_odd_v8 hp4 h60 h59 fun d3 p5 hd3 hp5=>?_
 walk_at "ds_"
 refine loop_inv (fun i δ S=>∃ (u v:Option XV),S = [p5]∧δ = [some (XV.o (V.ref a)),some (XV.d (PyData.int n)),some (XV.l 0),some (XV.d (shD T)),some (XV.d (PyData.int b)),some (XV.d (PyData.tuple [PyData.int lo,PyData.int hi])),some (XV.d (tbD L)),some (XV.d (shD (ro T (hi - b) k))),some (XV.d (PyData.list (List.map shD L ++ [shD (ro T (hi - b) (k + 1))]))),u,v]) ⟨_,_,rfl,rfl⟩ ?_ ?_
 ·rintro i d _ _ N hi' ⟨u,v,rfl,rfl⟩ hN
  have hd:ThT d:=by
   have m:=List.mem_of_getElem? hi'
   simp only [List.mem_cons,List.not_mem_nil,or_false] at m
   rcases m with rfl | rfl | rfl | rfl | rfl
   ·exact th1
   ·exact th2
   ·exact hd1
   ·exact hd2
   ·exact hd3
  rw [tw]
  walk_at "ds_"
  rw [← tw]
  refine loop_inv (fun j δ S=>∃ (v:Option XV),S = [p5]∧δ = [some (XV.o (V.ref a)),some (XV.d (PyData.int n)),some (XV.l 0),some (XV.d (shD T)),some (XV.d (PyData.int b)),some (XV.d (PyData.tuple [PyData.int lo,PyData.int hi])),some (XV.d (tbD L)),some (XV.d (shD (ro T (hi - b) k))),some (XV.d (PyData.list (List.map shD L ++ [shD (ro T (hi - b) (k + 1))]))),some (.d d),v]) ⟨_,rfl,rfl⟩ ?_ ?_
  ·rintro j e _ _ N2 hj ⟨v,rfl,rfl⟩ hN2
   obtain ⟨m,rfl⟩:∃ m:Int,e = .int m:=by
    have m:=List.mem_of_getElem? hj
    simp only [List.mem_cons,List.not_mem_nil,or_false] at m
    rcases m with rfl | rfl | rfl <;> exact ⟨_,rfl⟩
   walk_at "ds_"
   refine sp_law_held_v2 hT (by omega) h hd ?_
   walk_at "ds_"
   exact hN2 _ _ ⟨_,rfl,rfl⟩
  ·rintro _ _ ⟨v,rfl,rfl⟩
   exact hN _ _ ⟨_,_,rfl,rfl⟩
 ·rintro _ _ ⟨u,v,rfl,rfl⟩
  walk_at "ds_"
theorem pre_k64_ok (a:Addr):pre_k64 (preE a 10) (some (.o (.ref a)) :: List.replicate 10 none) []:=by
 unfold pre_k64
 walk_at "ds_"
 refine sp_law_told_v4 (T:=[2]) (L:=[[0],[2],[]]) (fun x m=>by simp only [List.mem_cons,List.not_mem_nil,or_false] at m; omega) (by simp) (by decide) ⟨2,by decide,.inl ⟨by decide,by decide⟩⟩ ?_
 walk_at "ds_"
 refine sp_law_told_v4 (T:=[2]) (L:=[[]]) (fun x m=>by simp only [List.mem_cons,List.not_mem_nil,or_false] at m; omega) (by simp) (by decide) ⟨0,by decide,.inl ⟨by decide,by decide⟩⟩ ?_
 walk_at "ds_"
end
end My
set_option Elab.async false
set_option linter.all false
set_option maxRecDepth 100000
set_option maxHeartbeats 4000000
namespace My
open PySem L2
def top (i : Nat) : Stmt := PySem.Challenge.pw_gaugewright_k64_tables_held.main.body.getD i (.Pass ⟨0, 0, 0, 0⟩)
abbrev s_law_cell_at:Stmt:=top 17
theorem sc_law_cell_at:FnScope ["script","k"] ["script","k"] (defScope s_law_cell_at):=fsc (by decide +kernel)
abbrev s_law_pen:Stmt:=top 19
theorem sc_law_pen:FnScope ["cell","left"] ["cell"] (defScope s_law_pen):=fsc (by decide +kernel)
abbrev s_law_next:Stmt:=top 18
theorem sc_law_next:FnScope ["seed"] ["seed"] (defScope s_law_next):=fsc (by decide +kernel)
abbrev s_law_draw:Stmt:=top 20
theorem sc_law_draw:FnScope ["pen","many","found"] ["pen","many"] (defScope s_law_draw):=fsc (by decide +kernel)
abbrev s_law_shims:Stmt:=top 23
theorem sc_law_shims:FnScope ["pen","most"] ["pen"] (defScope s_law_shims):=fsc (by decide +kernel)
abbrev s_law_number:Stmt:=top 22
theorem sc_law_number:FnScope ["pen","way"] ["pen"] (defScope s_law_number):=fsc (by decide +kernel)
abbrev s_law_way:Stmt:=top 24
theorem sc_law_way:FnScope ["pen","far","number","low"] ["pen","far"] (defScope s_law_way):=fsc (by decide +kernel)
abbrev s_law_first_row:Stmt:=top 26
theorem sc_law_first_row:FnScope ["number","span"] ["number","span"] (defScope s_law_first_row):=fsc (by decide +kernel)
abbrev s_law_next_row:Stmt:=top 25
theorem sc_law_next_row:FnScope ["shims","row","top","found","ahead"] ["shims","row","top"] (defScope s_law_next_row):=fsc (by decide +kernel)
abbrev s_law_hits:Stmt:=top 27
theorem sc_law_hits:FnScope ["number","span","row"] ["number","span","row"] (defScope s_law_hits):=fsc (by decide +kernel)
abbrev s_law_table:Stmt:=top 28
theorem sc_law_table:FnScope ["shims","number","span","found","row"] ["shims","number","span"] (defScope s_law_table):=fsc (by decide +kernel)
abbrev s_most_rise:Stmt:=top 9
theorem sc_most_rise:FnScope ["number","span","most"] ["number","span"] (defScope s_most_rise):=fsc (by decide +kernel)
abbrev s_first_row:Stmt:=top 10
theorem sc_first_row:FnScope ["most"] ["most"] (defScope s_first_row):=fsc (by decide +kernel)
abbrev s_stacks_that_do:Stmt:=top 12
theorem sc_stacks_that_do:FnScope ["row","number","span"] ["row","number","span"] (defScope s_stacks_that_do):=fsc (by decide +kernel)
abbrev s_next_row:Stmt:=top 11
theorem sc_next_row:FnScope ["shims","row","most","longer","place","thickness","rise","stack"] ["shims","row","most"] (defScope s_next_row):=fsc (by decide +kernel)
abbrev s_rows_to_the_end:Stmt:=top 8
theorem sc_rows_to_the_end:FnScope ["shims","number","span","most","rows"] ["shims","number","span"] (defScope s_rows_to_the_end):=fsc (by decide +kernel)
abbrev s_sums_of:Stmt:=top 14
theorem sc_sums_of:FnScope ["row"] ["row"] (defScope s_sums_of):=fsc (by decide +kernel)
abbrev s_table_of:Stmt:=top 13
theorem sc_table_of:FnScope ["shims","number","span","rows"] ["shims","number","span"] (defScope s_table_of):=fsc (by decide +kernel)
abbrev s_law_whole:Stmt:=top 21
theorem sc_law_whole:FnScope ["found"] ["found"] (defScope s_law_whole):=fsc (by decide +kernel)
abbrev s_law_told:Stmt:=top 33
theorem sc_law_told:FnScope ["shims","number","span","due","turn","found","row","told"] ["shims","number","span","due"] (defScope s_law_told):=fsc (by decide +kernel)
abbrev s_law_odd_row:Stmt:=top 31
theorem sc_law_odd_row:FnScope ["row","pen","at","some","odd"] ["row","pen"] (defScope s_law_odd_row):=fsc (by decide +kernel)
abbrev s_law_odd:Stmt:=top 32
theorem sc_law_odd:FnScope ["table","pen","at","some"] ["table","pen"] (defScope s_law_odd):=fsc (by decide +kernel)
abbrev s_is_whole:Stmt:=top 4
theorem sc_is_whole:FnScope ["thing"] ["thing"] (defScope s_is_whole):=fsc (by decide +kernel)
abbrev s_is_same:Stmt:=top 5
theorem sc_is_same:FnScope ["thing","numbers"] ["thing","numbers"] (defScope s_is_same):=fsc (by decide +kernel)
abbrev s_table_holds:Stmt:=top 15
theorem sc_table_holds:FnScope ["shims","number","span","many","thing","most","row","told"] ["shims","number","span","many","thing"] (defScope s_table_holds):=fsc (by decide +kernel)
abbrev s_law_due:Stmt:=top 29
theorem sc_law_due:FnScope ["shims","number","span","many","thing","row","told"] ["shims","number","span","many","thing"] (defScope s_law_due):=fsc (by decide +kernel)
abbrev s_law_held:Stmt:=top 30
theorem sc_law_held:FnScope ["shims","number","span","many","thing","found"] ["shims","number","span","many","thing"] (defScope s_law_held):=fsc (by decide +kernel)
abbrev s_law:Stmt:=top 34
theorem sc_law:FnScope ["script","cell","pen","shims","number","span","table","last","behind","thing","many"] ["script"] (defScope s_law):=fsc (by decide +kernel)
structure Txt (mg:Str→Option Value):Prop where
 n_len:mg "len" = none
 n_max:mg "max" = none
 n_int:mg "int" = none
 n_tuple:mg "tuple" = none
 n_sorted:mg "sorted" = none
 n_set:mg "set" = none
 n_range:mg "range" = none
 n_enumerate:mg "enumerate" = none
 n_isinstance:mg "isinstance" = none
 n_bool:mg "bool" = none
 n_list:mg "list" = none
 n_zip:mg "zip" = none
 n_all:mg "all" = none
 g_MOST_RISE:∃ t,mg "MOST_RISE" = some (.int 200 t)
structure Dds (K:PySem.W.Frag) (mg:Str→Option Value):Prop where
 d_law_cell_at:Dd K mg "_law_cell_at" s_law_cell_at ["script","k"]
 d_law_pen:Dd K mg "_law_pen" s_law_pen ["cell"]
 d_law_next:Dd K mg "_law_next" s_law_next ["seed"]
 d_law_draw:Dd K mg "_law_draw" s_law_draw ["pen","many"]
 d_law_shims:Dd K mg "_law_shims" s_law_shims ["pen"]
 d_law_number:Dd K mg "_law_number" s_law_number ["pen"]
 d_law_way:Dd K mg "_law_way" s_law_way ["pen","far"]
 d_law_first_row:Dd K mg "_law_first_row" s_law_first_row ["number","span"]
 d_law_next_row:Dd K mg "_law_next_row" s_law_next_row ["shims","row","top"]
 d_law_hits:Dd K mg "_law_hits" s_law_hits ["number","span","row"]
 d_law_table:Dd K mg "_law_table" s_law_table ["shims","number","span"]
 d_most_rise:Dd K mg "most_rise" s_most_rise ["number","span"]
 d_first_row:Dd K mg "first_row" s_first_row ["most"]
 d_stacks_that_do:Dd K mg "stacks_that_do" s_stacks_that_do ["row","number","span"]
 d_next_row:Dd K mg "next_row" s_next_row ["shims","row","most"]
 d_rows_to_the_end:Dd K mg "rows_to_the_end" s_rows_to_the_end ["shims","number","span"]
 d_sums_of:Dd K mg "sums_of" s_sums_of ["row"]
 d_table_of:Dd K mg "table_of" s_table_of ["shims","number","span"]
 d_law_whole:Dd K mg "_law_whole" s_law_whole ["found"]
 d_law_told:Dd K mg "_law_told" s_law_told ["shims","number","span","due"]
 d_law_odd_row:Dd K mg "_law_odd_row" s_law_odd_row ["row","pen"]
 d_law_odd:Dd K mg "_law_odd" s_law_odd ["table","pen"]
 d_is_whole:Dd K mg "is_whole" s_is_whole ["thing"]
 d_is_same:Dd K mg "is_same" s_is_same ["thing","numbers"]
 d_table_holds:Dd K mg "table_holds" s_table_holds ["shims","number","span","many","thing"]
 d_law_due:Dd K mg "_law_due" s_law_due ["shims","number","span","many","thing"]
 d_law_held:Dd K mg "_law_held" s_law_held ["shims","number","span","many","thing"]
section
variable {P:Program} {w:World} {K:PySem.W.Frag} {mg:Str→Option Value} {base:Heap}
abbrev pD_law_pen (P:Program) (w:World) (K:PySem.W.Frag) (mg:Str→Option Value) (base:Heap):Prop:=Df P w K mg base "_law_pen" ["cell"] 1 (spN ["cell"] q_law_pen)
abbrev pD_law_next (P:Program) (w:World) (K:PySem.W.Frag) (mg:Str→Option Value) (base:Heap):Prop:=Df P w K mg base "_law_next" ["seed"] 1 (spN ["seed"] q_law_next)
abbrev pD_law_draw (P:Program) (w:World) (K:PySem.W.Frag) (mg:Str→Option Value) (base:Heap):Prop:=Df P w K mg base "_law_draw" ["pen","many"] 2 (spN ["pen","many"] q_law_draw)
abbrev pD_law_shims (P:Program) (w:World) (K:PySem.W.Frag) (mg:Str→Option Value) (base:Heap):Prop:=Df P w K mg base "_law_shims" ["pen"] 3 (spN ["pen"] q_law_shims)
abbrev pD_law_number (P:Program) (w:World) (K:PySem.W.Frag) (mg:Str→Option Value) (base:Heap):Prop:=Df P w K mg base "_law_number" ["pen"] 3 (spN ["pen"] q_law_number)
abbrev pD_law_way (P:Program) (w:World) (K:PySem.W.Frag) (mg:Str→Option Value) (base:Heap):Prop:=Df P w K mg base "_law_way" ["pen","far"] 4 (spN ["pen","far"] q_law_way)
abbrev pD_law_first_row (P:Program) (w:World) (K:PySem.W.Frag) (mg:Str→Option Value) (base:Heap):Prop:=Df P w K mg base "_law_first_row" ["number","span"] 1 (spN ["number","span"] q_law_first_row)
abbrev pD_law_next_row (P:Program) (w:World) (K:PySem.W.Frag) (mg:Str→Option Value) (base:Heap):Prop:=Df P w K mg base "_law_next_row" ["shims","row","top"] 1 (spN ["shims","row","top"] q_law_next_row)
abbrev pD_law_hits (P:Program) (w:World) (K:PySem.W.Frag) (mg:Str→Option Value) (base:Heap):Prop:=Df P w K mg base "_law_hits" ["number","span","row"] 1 (spN ["number","span","row"] q_law_hits_v2)
abbrev pD_law_table (P:Program) (w:World) (K:PySem.W.Frag) (mg:Str→Option Value) (base:Heap):Prop:=Df P w K mg base "_law_table" ["shims","number","span"] 2 (spN ["shims","number","span"] q_law_table)
abbrev pD_most_rise (P:Program) (w:World) (K:PySem.W.Frag) (mg:Str→Option Value) (base:Heap):Prop:=Df P w K mg base "most_rise" ["number","span"] 3 (spN ["number","span"] q_most_rise)
abbrev pD_first_row (P:Program) (w:World) (K:PySem.W.Frag) (mg:Str→Option Value) (base:Heap):Prop:=Df P w K mg base "first_row" ["most"] 1 (spN ["most"] q_first_row)
abbrev pD_stacks_that_do (P:Program) (w:World) (K:PySem.W.Frag) (mg:Str→Option Value) (base:Heap):Prop:=Df P w K mg base "stacks_that_do" ["row","number","span"] 1 (spN ["row","number","span"] q_stacks_that_do)
abbrev pD_next_row (P:Program) (w:World) (K:PySem.W.Frag) (mg:Str→Option Value) (base:Heap):Prop:=Df P w K mg base "next_row" ["shims","row","most"] 1 (spN ["shims","row","most"] q_next_row)
abbrev pD_rows_to_the_end (P:Program) (w:World) (K:PySem.W.Frag) (mg:Str→Option Value) (base:Heap):Prop:=Df P w K mg base "rows_to_the_end" ["shims","number","span"] 4 (spN ["shims","number","span"] q_rows_to_the_end)
abbrev pD_sums_of (P:Program) (w:World) (K:PySem.W.Frag) (mg:Str→Option Value) (base:Heap):Prop:=Df P w K mg base "sums_of" ["row"] 1 (spN ["row"] q_sums_of)
abbrev pD_table_of (P:Program) (w:World) (K:PySem.W.Frag) (mg:Str→Option Value) (base:Heap):Prop:=Df P w K mg base "table_of" ["shims","number","span"] 5 (spN ["shims","number","span"] q_table_of)
abbrev pD_law_whole (P:Program) (w:World) (K:PySem.W.Frag) (mg:Str→Option Value) (base:Heap):Prop:=Df P w K mg base "_law_whole" ["found"] 1 (spN ["found"] q_law_whole)
abbrev pD_law_told (P:Program) (w:World) (K:PySem.W.Frag) (mg:Str→Option Value) (base:Heap):Prop:=Df P w K mg base "_law_told" ["shims","number","span","due"] 6 (spN ["shims","number","span","due"] q_law_told_v4)
abbrev pD_law_odd_row (P:Program) (w:World) (K:PySem.W.Frag) (mg:Str→Option Value) (base:Heap):Prop:=Df P w K mg base "_law_odd_row" ["row","pen"] 3 (spN ["row","pen"] q_law_odd_row)
abbrev pD_law_odd (P:Program) (w:World) (K:PySem.W.Frag) (mg:Str→Option Value) (base:Heap):Prop:=Df P w K mg base "_law_odd" ["table","pen"] 4 (spN ["table","pen"] q_law_odd_v8)
abbrev pD_is_whole (P:Program) (w:World) (K:PySem.W.Frag) (mg:Str→Option Value) (base:Heap):Prop:=Df P w K mg base "is_whole" ["thing"] 1 (spN ["thing"] q_is_whole)
abbrev pD_is_same (P:Program) (w:World) (K:PySem.W.Frag) (mg:Str→Option Value) (base:Heap):Prop:=Df P w K mg base "is_same" ["thing","numbers"] 2 (spN ["thing","numbers"] q_is_same)
abbrev pD_table_holds (P:Program) (w:World) (K:PySem.W.Frag) (mg:Str→Option Value) (base:Heap):Prop:=Df P w K mg base "table_holds" ["shims","number","span","many","thing"] 4 (spN ["shims","number","span","many","thing"] q_table_holds)
abbrev pD_law_due (P:Program) (w:World) (K:PySem.W.Frag) (mg:Str→Option Value) (base:Heap):Prop:=Df P w K mg base "_law_due" ["shims","number","span","many","thing"] 2 (spN ["shims","number","span","many","thing"] q_law_due_v8)
abbrev pD_law_held (P:Program) (w:World) (K:PySem.W.Frag) (mg:Str→Option Value) (base:Heap):Prop:=Df P w K mg base "_law_held" ["shims","number","span","many","thing"] 5 (spN ["shims","number","span","many","thing"] q_law_held_v2)
theorem D_law_cell_at (T:Txt mg) (dd:Dds K mg):Df P w K mg base "_law_cell_at" ["script","k"] 1 (sp2 (pCell K)):=by
 refine Df.of2 dd.d_law_cell_at sc_law_cell_at (fun v u=>[some v,some u]) (fun _ _=>rfl) fun f cdv A outer s H v u Q E hr h=>?_
 obtain ⟨a,ns,i,rfl,rfl,hS,h0,q⟩:=h
 refine ⟨_,(pss_cons (ps_if (pt_cmpR op_lt (pv 1) (pe_callB call_lenQ (by rfl) T.n_len bt_len (pa_cons (pv 0) pa_nil)) (nomark _)) (pss_one (ps_ret (pe_ix ix_list (pv 0) (pv 1) (fun _ _=>rfl)))) pss_nil) (pss_one (ps_ret pe_int))),?_⟩
 simp only [tSeq,tIfS,tTest,tOp,tVar_iff,tCB,tCons,tNil,tRet,tC,tNext,rI0_int,List.getElem?_cons_zero,List.getElem?_cons_succ]
 refine ⟨a,_,rfl,.inl hS,?_⟩
 simp only [rI0_int,ex_bl,decide_eq_true_eq]
 refine ite2 (fun hi=>?_) (fun _=>q 0)
 obtain ⟨n,e⟩:=atI_int h0 hi
 exact ⟨a,_,i,_,rfl,rfl,hS,e,q n⟩
theorem D_law_pen (T:Txt mg) (dd:Dds K mg):pD_law_pen P w K mg base:=by
 exact Df.dN dd.d_law_pen sc_law_pen 1 rfl fun f cdv A outer s H E hr=>⟨_,_,(pss_cons (ps_set (i:=1) sc_law_pen.nd rfl (Or.inl rfl) (pe_callB (call_max2 rfl) (by rfl) T.n_max bt_max (pa_cons (pv 0) (pa_cons (pe_op op_sub pe_int (pv 0)) pa_nil)))) (pss_one (ps_ret (pe_lst (pa_cons (pv 1) (pa_cons (pe_callTy call_int1 (by rfl) T.n_int bt_int (pa_cons (pe_cmpR op_ge (pv 1) (pe_op op_pow pe_int pe_int) (nomark _)) pa_nil)) (pa_cons (pe_op op_mod (pv 1) pe_int) pa_nil))))))),(rs_seq (rs_asg (re_cb rc_I2 (ra_cons re_var (ra_cons (re_op ro_I0 re_int re_var) ra_nil))) rg_name) (rs_ret (re_lstT (ra_cons re_var (ra_cons (re_cb rc_int1 (ra_cons (re_op ro_Ib re_var (re_op ro_I re_int re_int)) ra_nil)) (ra_cons (re_op ro_I re_var re_int) ra_nil)))))),fun xs S R q=>q⟩
theorem D_law_next (T:Txt mg) (dd:Dds K mg):pD_law_next P w K mg base:=by
 exact Df.dN dd.d_law_next sc_law_next 0 rfl fun f cdv A outer s H E hr=>⟨_,_,(pss_cons (ps_set (i:=0) sc_law_next.nd rfl (Or.inl rfl) (pe_op op_mod (pe_op op_addG (pv 0) pe_int) pe_int)) (pss_one (ps_ret (pe_op op_mod (pe_op op_addG (pe_op op_addG (pe_op op_mulG (pv 0) (pv 0)) (pe_op op_mulG pe_int (pv 0))) pe_int) pe_int)))),(rs_seq (rs_asg (re_op ro_I (re_op ro_add re_var re_int) re_int) rg_name) (rs_ret (re_op ro_I (re_op ro_add (re_op ro_add (re_op ro_mul re_var re_var) (re_op ro_mul re_int re_var)) re_int) re_int))),fun xs S R q=>q⟩
theorem D_law_draw (T:Txt mg) (dd:Dds K mg) (D_law_next:pD_law_next P w K mg base):pD_law_draw P w K mg base:=by
 exact Df.dN dd.d_law_draw sc_law_draw 1 rfl fun f cdv A outer s H E hr=>⟨_,_,(pss_cons (ps_if (pt_cmpR (op_eqD hr.units) (pe_ix ix_seq (pv 0) pe_int (fun _ _=>rfl)) pe_int (nomark _)) (pss_cons (ps_set (i:=2) sc_law_draw.nd rfl (Or.inl rfl) (pe_op op_mod (pe_ix ix_seq (pv 0) pe_int (fun _ _=>rfl)) (pv 1))) (pss_cons (ps_asg (pe_op op_fdG (pe_ix ix_seq (pv 0) pe_int (fun _ _=>rfl)) (pv 1)) (pg_sub (pv 0) pe_int set_list)) (pss_one (ps_ret (pv 2))))) pss_nil) (pss_cons (ps_asg (pe_dfN D_law_next hr (by decide) (pa_cons (pe_op op_addG (pe_dfN D_law_next hr (by decide) (pa_cons (pe_ix ix_seq (pv 0) pe_int (fun _ _=>rfl)) pa_nil)) pe_int) pa_nil)) (pg_sub (pv 0) pe_int set_list)) (pss_one (ps_ret (pe_op op_mod (pe_op op_fdG (pe_ix ix_seq (pv 0) pe_int (fun _ _=>rfl)) pe_int) (pv 1)))))),(rs_seq (rs_if (rt_t (re_op ro_eqD (re_op ro_ix re_var re_int) re_int)) (rs_seq (rs_asg (re_op ro_I (re_op ro_ix re_var re_int) re_var) rg_name) (rs_seq (rs_asg (re_op ro_fd (re_op ro_ix re_var re_int) re_var) (rg_set re_var re_int)) (rs_ret re_var))) rs_next) (rs_seq (rs_asg (re_call (ra_cons (re_op ro_add (re_call (ra_cons (re_op ro_ix re_var re_int) ra_nil)) re_int) ra_nil)) (rg_set re_var re_int)) (rs_ret (re_op ro_I (re_op ro_fd (re_op ro_ix re_var re_int) re_int) re_var)))),fun xs S R q=>q⟩
theorem D_law_shims (T:Txt mg) (dd:Dds K mg) (D_law_draw:pD_law_draw P w K mg base):pD_law_shims P w K mg base:=by
 exact Df.dN dd.d_law_shims sc_law_shims 1 rfl fun f cdv A outer s H E hr=>⟨_,_,(pss_cons (ps_set (i:=1) sc_law_shims.nd rfl (Or.inr rfl) (pe_ix ix_seq (pe_lst (pa_cons pe_int (pa_cons pe_int (pa_cons pe_int pa_nil)))) (pe_dfN D_law_draw hr (by decide) (pa_cons (pv 0) (pa_cons pe_int pa_nil))) (fun _ _=>rfl))) (pss_one (ps_ret (pe_callTy call_tuple_of (by rfl) T.n_tuple bt_tuple (pa_cons (pe_sortset rfl rfl T.n_sorted rfl T.n_set (pa_cons (pe_comp (fun _ _ h=>h) rfl (compOk_of rfl rfl rfl rfl (N:=["k","pen","most"]) (caps:=[none,some 0,some 1]) (by show capsOk ["pen","most"] (defScope s_law_shims).names _ _ _ = true; decide +kernel)) (pi_range1X rfl T.n_range (pa_cons (pe_op op_addG pe_int (pe_dfN D_law_draw hr (by decide) (pa_cons (pv 0) (pa_cons pe_int pa_nil)))) pa_nil)) (fun _ _ _ _=>(pg_name (i:=0) (by show List.Nodup (["k","pen","most"]:List Str); decide) rfl (Or.inl rfl))) (fun _ _ _ _=>pts_nil) (fun _ _ _ _=>(pe_op op_addG pe_int (pe_dfN D_law_draw hr (by decide) (pa_cons (pv 1) (pa_cons (pv 2) pa_nil)))))) pa_nil)) pa_nil))))),(rs_seq (rs_asg (re_op ro_ix (re_lst (ra_cons re_int (ra_cons re_int (ra_cons re_int ra_nil)))) (re_callP (i:=0) (ra_cons re_var (ra_cons re_int ra_nil)))) rg_name) (rs_ret (re_cb rc_tupOf (ra_cons (re_cb rc_sortset (ra_cons (re_comp (ri_rng1X (ra_cons (re_op ro_add re_int (re_callP (i:=0) (ra_cons re_var (ra_cons re_int ra_nil)))) ra_nil)) rg_name rt_noIf (re_op ro_add re_int (re_callP (i:=0) (ra_cons re_var (ra_cons re_var ra_nil))))) ra_nil)) ra_nil)))),fun xs S R q=>q⟩
theorem D_law_number (T:Txt mg) (dd:Dds K mg) (D_law_draw:pD_law_draw P w K mg base):pD_law_number P w K mg base:=by
 exact Df.dN dd.d_law_number sc_law_number 1 rfl fun f cdv A outer s H E hr=>⟨_,_,(pss_cons (ps_set (i:=1) sc_law_number.nd rfl (Or.inl rfl) (pe_dfN D_law_draw hr (by decide) (pa_cons (pv 0) (pa_cons pe_int pa_nil)))) (pss_cons (ps_if (pt_cmpR op_lt (pv 1) pe_int (nomark _)) (pss_one (ps_ret (pe_op op_sub (pe_dfN D_law_draw hr (by decide) (pa_cons (pv 0) (pa_cons pe_int pa_nil))) pe_int))) pss_nil) (pss_cons (ps_if (pt_cmpR op_lt (pv 1) pe_int (nomark _)) (pss_one (ps_ret (pe_op op_sub (pe_dfN D_law_draw hr (by decide) (pa_cons (pv 0) (pa_cons pe_int pa_nil))) pe_int))) pss_nil) (pss_one (ps_ret (pe_op op_mulG (pe_op op_sub (pe_dfN D_law_draw hr (by decide) (pa_cons (pv 0) (pa_cons (pe_op op_mulG pe_int (pe_op op_pow pe_int pe_int)) pa_nil))) (pe_op op_pow pe_int pe_int)) (pe_op op_pow pe_int pe_int))))))),(rs_seq (rs_asg (re_callP (i:=0) (ra_cons re_var (ra_cons re_int ra_nil))) rg_name) (rs_seq (rs_if (rt_t (re_op ro_Ib re_var re_int)) (rs_ret (re_op ro_I0 (re_callP (i:=0) (ra_cons re_var (ra_cons re_int ra_nil))) re_int)) rs_next) (rs_seq (rs_if (rt_t (re_op ro_Ib re_var re_int)) (rs_ret (re_op ro_I0 (re_callP (i:=0) (ra_cons re_var (ra_cons re_int ra_nil))) re_int)) rs_next) (rs_ret (re_op ro_mul (re_op ro_I0 (re_callP (i:=0) (ra_cons re_var (ra_cons (re_op ro_mul re_int (re_op ro_I re_int re_int)) ra_nil))) (re_op ro_I re_int re_int)) (re_op ro_I re_int re_int)))))),fun xs S R q=>q⟩
theorem D_law_way (T:Txt mg) (dd:Dds K mg) (D_law_number:pD_law_number P w K mg base) (D_law_draw:pD_law_draw P w K mg base):pD_law_way P w K mg base:=by
 exact Df.dN dd.d_law_way sc_law_way 2 rfl fun f cdv A outer s H E hr=>⟨_,_,(pss_cons (ps_set (i:=2) sc_law_way.nd rfl (Or.inl rfl) (pe_dfN D_law_number hr (by decide) (pa_cons (pv 0) pa_nil))) (pss_cons (ps_set (i:=3) sc_law_way.nd rfl (Or.inl rfl) (pe_op op_addG (pv 2) (pe_ix ix_seq (pe_lst (pa_cons (pe_op op_sub (pe_dfN D_law_draw hr (by decide) (pa_cons (pv 0) (pa_cons pe_int pa_nil))) pe_int) (pa_cons (pe_dfN D_law_draw hr (by decide) (pa_cons (pv 0) (pa_cons pe_int pa_nil))) (pa_cons (pe_dfN D_law_draw hr (by decide) (pa_cons (pv 0) (pa_cons (pv 1) pa_nil))) pa_nil)))) (pe_op op_fdG (pe_op op_addG (pe_dfN D_law_draw hr (by decide) (pa_cons (pv 0) (pa_cons pe_int pa_nil))) pe_int) pe_int) (fun _ _=>rfl)))) (pss_one (ps_ret (pe_tup (pa_cons (pv 2) (pa_cons (pe_tup (pa_cons (pv 3) (pa_cons (pe_op op_addG (pv 3) (pe_ix ix_seq (pe_lst (pa_cons pe_int (pa_cons pe_int (pa_cons pe_int (pa_cons pe_int (pa_cons pe_int pa_nil)))))) (pe_dfN D_law_draw hr (by decide) (pa_cons (pv 0) (pa_cons pe_int pa_nil))) (fun _ _=>rfl))) pa_nil))) pa_nil))))))),(rs_seq (rs_asg (re_callP (i:=0) (ra_cons re_var ra_nil)) rg_name) (rs_seq (rs_asg (re_op ro_add re_var (re_op ro_ix (re_lst (ra_cons (re_op ro_I0 (re_callP (i:=0) (ra_cons re_var (ra_cons re_int ra_nil))) re_int) (ra_cons (re_callP (i:=0) (ra_cons re_var (ra_cons re_int ra_nil))) (ra_cons (re_callP (i:=0) (ra_cons re_var (ra_cons re_var ra_nil))) ra_nil)))) (re_op ro_fd (re_op ro_add (re_callP (i:=0) (ra_cons re_var (ra_cons re_int ra_nil))) re_int) re_int))) rg_name) (rs_ret (re_tup (ra_cons re_var (ra_cons (re_tup (ra_cons re_var (ra_cons (re_op ro_add re_var (re_op ro_ix (re_lst (ra_cons re_int (ra_cons re_int (ra_cons re_int (ra_cons re_int (ra_cons re_int ra_nil)))))) (re_callP (i:=0) (ra_cons re_var (ra_cons re_int ra_nil))))) ra_nil))) ra_nil)))))),fun xs S R q=>q⟩
theorem D_law_first_row (T:Txt mg) (dd:Dds K mg):pD_law_first_row P w K mg base:=by
 exact Df.dN dd.d_law_first_row sc_law_first_row 0 rfl fun f cdv A outer s H E hr=>⟨_,_,(pss_cons (ps_if (pt_cmpR op_gt (pv 0) (pe_ix ix_seq (pv 1) pe_int (fun _ _=>rfl)) (nomark _)) (pss_one (ps_ret (pe_tup pa_nil))) pss_nil) (pss_one (ps_ret (pe_tup (pa_cons pe_int pa_nil))))),(rs_seq (rs_if (rt_t (re_op ro_Ib re_var (re_op ro_ix re_var re_int))) (rs_ret (re_tup ra_nil)) rs_next) (rs_ret (re_tup (ra_cons re_int ra_nil)))),fun xs S R q=>q⟩
theorem D_law_next_row (T:Txt mg) (dd:Dds K mg):pD_law_next_row P w K mg base:=by
 exact Df.dN dd.d_law_next_row sc_law_next_row 2 rfl fun f cdv A outer s H E hr=>⟨_,_,(pss_cons (ps_set (i:=3) sc_law_next_row.nd rfl (Or.inl rfl) (pe_lst pa_nil)) (pss_cons (ps_for PassesOwn.never rfl (pi_seq (pv 1)) (pg_name (i:=4) sc_law_next_row.nd rfl (Or.inr rfl)) (pss_one (ps_expr (pe_bm PySem.F.plainAttrs_list PySem.F.slot_list_extend PySem.F.type_list_extend mt_extend (pv 3) (pa_cons (pe_comp (fun _ _ h=>h) rfl (compOk_of rfl rfl rfl rfl (N:=["shim","ahead","top"]) (caps:=[none,some 4,some 2]) (by show capsOk ["shims","row","top","found","ahead"] (defScope s_law_next_row).names _ _ _ = true; decide +kernel)) (pi_seq (pv 0)) (fun _ _ _ _=>(pg_name (i:=0) (by show List.Nodup (["shim","ahead","top"]:List Str); decide) rfl (Or.inl rfl))) (fun _ _ _ _=>(pts_one (pt_cmpR op_le (pe_op op_addG (pv 1) (pv 0)) (pv 2) (nomark _)))) (fun _ _ _ _=>(pe_op op_addG (pv 1) (pv 0)))) pa_nil))))) (pss_one (ps_ret (pe_callTy call_tuple_of (by rfl) T.n_tuple bt_tuple (pa_cons (pe_sortsetB rfl rfl T.n_sorted rfl T.n_set (pa_cons (pv 3) pa_nil)) pa_nil)))))),(rs_as2 (rs_seq (rs_frz (rs_seq (rs_asg (re_lstT ra_nil) rg_name) (rs_for (ri_seq re_var) rg_name (rs_drop (re_bm rm_extend re_var (ra_cons (re_comp (ri_seq re_var) rg_name (rt_t (re_op ro_Ib (re_op ro_add re_var re_var) re_var)) (re_op ro_add re_var re_var)) ra_nil)))))) (rs_ret (re_cb rc_tupOf (ra_cons (re_cb rc_sortsetB (ra_cons re_var ra_nil)) ra_nil))))),fun xs S R q=>q⟩
theorem D_law_hits (T:Txt mg) (dd:Dds K mg):pD_law_hits P w K mg base:=by
 exact Df.dN dd.d_law_hits sc_law_hits 0 rfl fun f cdv A outer s H E hr=>⟨_,_,(pss_one (ps_ret (pe_cmpR (op_neD hr.units) (pe_comp (fun _ _ h=>h) rfl (compOk_of rfl rfl rfl rfl (N:=["one","span","number"]) (caps:=[none,some 1,some 0]) (by show capsOk ["number","span","row"] (defScope s_law_hits).names _ _ _ = true; decide +kernel)) (pi_seq (pv 2)) (fun _ _ _ _=>(pg_name (i:=0) (by show List.Nodup (["one","span","number"]:List Str); decide) rfl (Or.inl rfl))) (fun _ _ _ _=>(pts_one (pt_chain op_le op_le (pe_ix ix_seq (pv 1) pe_int (fun _ _=>rfl)) (pe_op op_addG (pv 2) (pv 0)) (pe_ix ix_seq (pv 1) pe_int (fun _ _=>rfl))))) (fun _ _ _ _=>(pv 0))) (pe_lst pa_nil) (nomark _)))),(rs_ret (re_op ro_neD (re_comp (ri_seq re_var) rg_name (rt_t (re_chain ro_Ib ro_Ib (re_op ro_ix re_var re_int) (re_op ro_add re_var re_var) (re_op ro_ix re_var re_int))) re_var) (re_lst ra_nil))),fun xs S R q=>q⟩
theorem D_law_table (T:Txt mg) (dd:Dds K mg) (D_law_first_row:pD_law_first_row P w K mg base) (D_law_hits:pD_law_hits P w K mg base) (D_law_next_row:pD_law_next_row P w K mg base):pD_law_table P w K mg base:=by
 exact Df.dN dd.d_law_table sc_law_table 2 rfl fun f cdv A outer s H E hr=>⟨_,_,(pss_cons (ps_set (i:=3) sc_law_table.nd rfl (Or.inl rfl) (pe_lst pa_nil)) (pss_cons (ps_set (i:=4) sc_law_table.nd rfl (Or.inl rfl) (pe_dfN D_law_first_row hr (by decide) (pa_cons (pv 1) (pa_cons (pv 2) pa_nil)))) (pss_cons (ps_while PassesOwn.never (PW.pt (pw_and (pt_cmpR (op_neD hr.units) (pv 4) (pe_tup pa_nil) (nomark _)) (pw_and1 (pt_not (pt_truth (pe_dfN D_law_hits hr (by decide) (pa_cons (pv 1) (pa_cons (pv 2) (pa_cons (pv 4) pa_nil)))) (fun _=>rfl)))))) (pss_cons (ps_expr (pe_bm PySem.F.plainAttrs_list PySem.F.slot_list_append PySem.F.type_list_append mt_append (pv 3) (pa_cons (pv 4) pa_nil))) (pss_one (ps_set (i:=4) sc_law_table.nd rfl (Or.inl rfl) (pe_dfN D_law_next_row hr (by decide) (pa_cons (pv 0) (pa_cons (pv 4) (pa_cons (pe_op op_sub (pe_ix ix_seq (pv 2) pe_int (fun _ _=>rfl)) (pv 1)) pa_nil)))))))) (pss_cons (ps_if (pt_cmpR (op_eqD hr.units) (pv 4) (pe_tup pa_nil) (nomark _)) (pss_one (ps_ret (pe_op op_addG (pv 3) (pe_lst (pa_cons (pe_tup pa_nil) pa_nil))))) pss_nil) (pss_one (ps_ret (pv 3))))))),(rs_seq (rs_asg (re_lstT ra_nil) rg_name) (rs_seq (rs_asg (re_call (ra_cons re_var (ra_cons re_var ra_nil))) rg_name) (rs_seq (rs_while (rt_and (rt_t (re_op ro_neD re_var (re_tup ra_nil))) (rt_not (rt_tru (re_call (ra_cons re_var (ra_cons re_var (ra_cons re_var ra_nil))))))) (rs_seq (rs_drop (re_bm rm_append re_var (ra_cons re_var ra_nil))) (rs_asg (re_call (ra_cons re_var (ra_cons re_var (ra_cons (re_op ro_I0 (re_op ro_ix re_var re_int) re_var) ra_nil)))) rg_name))) (rs_seq (rs_if (rt_t (re_op ro_eqD re_var (re_tup ra_nil))) (rs_ret (re_op ro_add re_var (re_lst (ra_cons (re_tup ra_nil) ra_nil)))) rs_next) (rs_ret re_var))))),fun xs S R q=>q⟩
theorem D_most_rise (T:Txt mg) (dd:Dds K mg):pD_most_rise P w K mg base:=by
 exact Df.dN dd.d_most_rise sc_most_rise 1 rfl fun f cdv A outer s H E hr=>⟨_,_,(pss_cons (ps_set (i:=2) sc_most_rise.nd rfl (Or.inl rfl) (pe_op op_sub (pe_ix ix_seq (pv 1) pe_int (fun _ _=>rfl)) (pv 0))) (pss_cons (ps_if (pt_cmpR op_gt (pv 2) (pe_globI rfl T.g_MOST_RISE) (nomark _)) (pss_one ps_never) pss_nil) (pss_one (ps_ret (pv 2))))),(rs_seq (rs_asg (re_op ro_I0 (re_op ro_ix re_var re_int) re_var) rg_name) (rs_seq (rs_if (rt_t (re_op ro_Ib re_var re_int)) rs_never rs_next) (rs_ret re_var))),fun xs S R q=>q⟩
theorem D_first_row (T:Txt mg) (dd:Dds K mg):pD_first_row P w K mg base:=by
 exact Df.dN dd.d_first_row sc_first_row 0 rfl fun f cdv A outer s H E hr=>⟨_,_,(pss_one (ps_ret (pe_ifExp (pt_cmpR op_ge (pv 0) pe_int (nomark _)) (pe_fz (pe_disp (pps_cons pe_int (pe_tup pa_nil) pps_nil) rfl rfl (by simp) (by decide))) (pe_fz pe_dnewK)))),(rs_ret (re_if (rt_t (re_op ro_Ib re_var re_int)) (re_dispG (re_tup ra_nil)) re_dict)),fun xs S R q=>q⟩
theorem D_stacks_that_do (T:Txt mg) (dd:Dds K mg):pD_stacks_that_do P w K mg base:=by
 exact Df.dN dd.d_stacks_that_do sc_stacks_that_do 0 rfl fun f cdv A outer s H E hr=>⟨_,_,(pss_one (ps_ret (pe_comp (fun _ _ h=>h) rfl (compOk_of rfl rfl rfl rfl (N:=["rise","stack","span","number"]) (caps:=[none,none,some 2,some 1]) (by show capsOk ["row","number","span"] (defScope s_stacks_that_do).names _ _ _ = true; decide +kernel)) (pi_items (pv 0) rfl rfl) (fun _ _ _ _=>(pg_tup (n:=2) rfl (pgs_cons (pg_name (i:=0) (by show List.Nodup (["rise","stack","span","number"]:List Str); decide) rfl (Or.inl rfl)) (pgs_cons (pg_name (i:=1) (by show List.Nodup (["rise","stack","span","number"]:List Str); decide) rfl (Or.inl rfl)) pgs_nil)))) (fun _ _ _ _=>(pts_one (pt_chain op_le op_le (pe_ix ix_seq (pv 2) pe_int (fun _ _=>rfl)) (pe_op op_addG (pv 3) (pv 0)) (pe_ix ix_seq (pv 2) pe_int (fun _ _=>rfl))))) (fun _ _ _ _=>(pv 1))))),(rs_ret (re_compT (ri_items re_var) (rg_tup (rgs_cons rg_name (rgs_cons rg_name rgs_nil))) (rt_t (re_chain ro_Ib ro_Ib (re_op ro_ix re_var re_int) (re_op ro_add re_var re_var) (re_op ro_ix re_var re_int))) re_var)),fun xs S R q=>q⟩
theorem D_next_row (T:Txt mg) (dd:Dds K mg):pD_next_row P w K mg base:=by
 exact Df.dN dd.d_next_row sc_next_row 5 rfl fun f cdv A outer s H E hr=>⟨_,_,(pss_cons (ps_set (i:=3) sc_next_row.nd rfl (Or.inl rfl) pe_dnewK) (pss_cons (ps_fz (i:=3) (ps_for PassesOwn.never rfl (pi_enumG rfl T.n_enumerate (pa_cons (pv 0) pa_nil)) (pg_tup (n:=2) rfl (pgs_cons (pg_name (i:=4) sc_next_row.nd rfl (Or.inl rfl)) (pgs_cons (pg_name (i:=5) sc_next_row.nd rfl (Or.inl rfl)) pgs_nil))) (pss_one (ps_for PassesOwn.never rfl (pi_items (pv 1) rfl rfl) (pg_tup (n:=2) rfl (pgs_cons (pg_name (i:=6) sc_next_row.nd rfl (Or.inl rfl)) (pgs_cons (pg_name (i:=7) sc_next_row.nd rfl (Or.inl rfl)) pgs_nil))) (pss_one (ps_if (pt_cmpR op_le (pe_op op_addG (pv 6) (pv 5)) (pv 2) (nomark _)) (pss_one (ps_expr (pe_dset (pv 3) (pe_op op_addG (pv 6) (pv 5)) (pe_op op_addG (pe_tup (pa_cons (pv 4) pa_nil)) (pv 7)) ⟨rfl,rfl,rfl,rfl⟩))) pss_nil)))))) (pss_one (ps_ret (pv 3))))),(rs_seq2 (rs_of_m (rm_newF (rm_for (fun M=>ix_lift (ri_enumG (ra_cons re_var ra_nil))) (rg_tup (rgs_cons rg_name (rgs_cons rg_name rgs_nil))) (rm_for (fun M=>ix_lift (ri_items re_var)) (rg_tup (rgs_cons rg_name (rgs_cons rg_name rgs_nil))) (rm_if (fun M=>(tx_lift (rt_t (re_op ro_Ib (re_op ro_add re_var re_var) re_var)))) (rm_set (fun M=>(ex_lift (re_op ro_add re_var re_var))) (fun M=>(ex_lift (re_op ro_add (re_tup (ra_cons re_var ra_nil)) re_var)))) (rm_lift rs_next)))))) (rs_ret re_var)),fun xs S R q=>q⟩
theorem D_rows_to_the_end (T:Txt mg) (dd:Dds K mg) (D_most_rise:pD_most_rise P w K mg base) (D_first_row:pD_first_row P w K mg base) (D_stacks_that_do:pD_stacks_that_do P w K mg base) (D_next_row:pD_next_row P w K mg base):pD_rows_to_the_end P w K mg base:=by
 exact Df.dN dd.d_rows_to_the_end sc_rows_to_the_end 2 rfl fun f cdv A outer s H E hr=>⟨_,_,(pss_cons (ps_set (i:=3) sc_rows_to_the_end.nd rfl (Or.inl rfl) (pe_dfN D_most_rise hr (by decide) (pa_cons (pv 1) (pa_cons (pv 2) pa_nil)))) (pss_cons (ps_set (i:=4) sc_rows_to_the_end.nd rfl (Or.inl rfl) (pe_lst (pa_cons (pe_dfN D_first_row hr (by decide) (pa_cons (pv 3) pa_nil)) pa_nil))) (pss_cons (ps_while PassesOwn.never (PW.pt (pw_and (pt_truD (pe_ix ix_seq (pv 4) (pe_un un_neg pe_int) (fun _ _=>rfl)) (fun _=>rfl)) (pw_and1 (pt_not (pt_truth (pe_dfN D_stacks_that_do hr (by decide) (pa_cons (pe_ix ix_seq (pv 4) (pe_un un_neg pe_int) (fun _ _=>rfl)) (pa_cons (pv 1) (pa_cons (pv 2) pa_nil)))) (fun _=>rfl)))))) (pss_one (ps_expr (pe_bm PySem.F.plainAttrs_list PySem.F.slot_list_append PySem.F.type_list_append mt_append (pv 4) (pa_cons (pe_dfN D_next_row hr (by decide) (pa_cons (pv 0) (pa_cons (pe_ix ix_seq (pv 4) (pe_un un_neg pe_int) (fun _ _=>rfl)) (pa_cons (pv 3) pa_nil)))) pa_nil))))) (pss_one (ps_ret (pv 4)))))),(rs_seq (rs_asg (re_call (ra_cons re_var (ra_cons re_var ra_nil))) rg_name) (rs_seq (rs_asg (re_lstT (ra_cons (re_call (ra_cons re_var ra_nil)) ra_nil)) rg_name) (rs_seq (rs_while (rt_and (rt_truD (re_op ro_ix re_var (re_un ru_I re_int))) (rt_not (rt_tru (re_call (ra_cons (re_op ro_ix re_var (re_un ru_I re_int)) (ra_cons re_var (ra_cons re_var ra_nil))))))) (rs_drop (re_bm rm_append re_var (ra_cons (re_call (ra_cons re_var (ra_cons (re_op ro_ix re_var (re_un ru_I re_int)) (ra_cons re_var ra_nil)))) ra_nil)))) (rs_ret re_var)))),fun xs S R q=>q⟩
theorem D_sums_of (T:Txt mg) (dd:Dds K mg):pD_sums_of P w K mg base:=by
 exact Df.dN dd.d_sums_of sc_sums_of 0 rfl fun f cdv A outer s H E hr=>⟨_,_,(pss_one (ps_ret (pe_callTy call_tuple_of (by rfl) T.n_tuple bt_tuple (pa_cons (pe_callB (call_sortD rfl) (by rfl) T.n_sorted bt_sorted (pa_cons (pv 0) pa_nil)) pa_nil)))),(rs_ret (re_cb rc_tupOf (ra_cons (re_cb rc_sortD (ra_cons re_var ra_nil)) ra_nil))),fun xs S R q=>q⟩
theorem D_table_of (T:Txt mg) (dd:Dds K mg) (D_rows_to_the_end:pD_rows_to_the_end P w K mg base) (D_sums_of:pD_sums_of P w K mg base) (D_stacks_that_do:pD_stacks_that_do P w K mg base):pD_table_of P w K mg base:=by
 exact Df.dN dd.d_table_of sc_table_of 1 rfl fun f cdv A outer s H E hr=>⟨_,_,(pss_cons (ps_set (i:=3) sc_table_of.nd rfl (Or.inl rfl) (pe_dfN D_rows_to_the_end hr (by decide) (pa_cons (pv 0) (pa_cons (pv 1) (pa_cons (pv 2) pa_nil))))) (pss_one (ps_ret (pe_comp (fun _ _ h=>h) rfl (compOk_of rfl rfl rfl rfl (N:=["row","number","span"]) (caps:=[none,some 1,some 2]) (by show capsOk ["shims","number","span","rows"] (defScope s_table_of).names _ _ _ = true; decide +kernel)) (pi_seq (pv 3)) (fun _ _ _ _=>(pg_name (i:=0) (by show List.Nodup (["row","number","span"]:List Str); decide) rfl (Or.inl rfl))) (fun _ _ _ _=>(pts_one (pt_not (pt_truth (pe_dfN D_stacks_that_do hr (by decide) (pa_cons (pv 0) (pa_cons (pv 1) (pa_cons (pv 2) pa_nil)))) (fun _=>rfl))))) (fun _ _ _ _=>(pe_dfN D_sums_of hr (by decide) (pa_cons (pv 0) pa_nil))))))),(rs_seq (rs_asg (re_call (ra_cons re_var (ra_cons re_var (ra_cons re_var ra_nil)))) rg_name) (rs_ret (re_compT (ri_seq re_var) rg_name (rt_not (rt_tru (re_call (ra_cons re_var (ra_cons re_var (ra_cons re_var ra_nil)))))) (re_call (ra_cons re_var ra_nil))))),fun xs S R q=>q⟩
theorem D_law_whole (T:Txt mg) (dd:Dds K mg):pD_law_whole P w K mg base:=by
 exact Df.dN dd.d_law_whole sc_law_whole 0 rfl fun f cdv A outer s H E hr=>⟨_,_,(pss_one (ps_ret (pe_and (pe_callB call_isi (by rfl) T.n_isinstance bt_isinstance (pa_cons (pv 0) (pa_cons (pe_bltn rfl T.n_int bt_int (v:=.ty "int") rfl) pa_nil))) (pe_one (pe_not (pe_callB call_isi (by rfl) T.n_isinstance bt_isinstance (pa_cons (pv 0) (pa_cons (pe_bltn rfl T.n_bool bt_bool (v:=.ty "bool") rfl) pa_nil)))))))),(rs_ret (re_and (re_cb rc_isi (ra_cons re_var (ra_cons re_o ra_nil))) (re_not (re_cb rc_isi (ra_cons re_var (ra_cons re_o ra_nil)))))),fun xs S R q=>q⟩
theorem D_law_told (T:Txt mg) (dd:Dds K mg) (D_table_of:pD_table_of P w K mg base) (D_law_whole:pD_law_whole P w K mg base):pD_law_told P w K mg base:=by
 exact Df.dN dd.d_law_told sc_law_told 4 rfl fun f cdv A outer s H E hr=>⟨_,_,(pss_cons (ps_for PassesOwn.never rfl (pi_range1X rfl T.n_range (pa_cons pe_int pa_nil)) (pg_name (i:=4) sc_law_told.nd rfl (Or.inl rfl)) (pss_cons (ps_set (i:=5) sc_law_told.nd rfl (Or.inl rfl) (pe_dfN D_table_of hr (by decide) (pa_cons (pv 0) (pa_cons (pv 1) (pa_cons (pv 2) pa_nil))))) (pss_cons (ps_if (PW.pt (pw_or (pt_not (pt_truth (pe_callB call_isi (by rfl) T.n_isinstance bt_isinstance (pa_cons (pv 5) (pa_cons (pe_bltn rfl T.n_list bt_list (v:=.ty "list") rfl) pa_nil))) (fun _=>rfl))) (pw_or1 (pt_cmpR (op_neD hr.units) (pe_callB call_lenG (by rfl) T.n_len bt_len (pa_cons (pv 5) pa_nil)) (pe_callB call_lenG (by rfl) T.n_len bt_len (pa_cons (pv 3) pa_nil)) (nomark _))))) (pss_one (ps_ret pe_bl)) pss_nil) (pss_cons (ps_for PassesOwn.never rfl (pi_zipG rfl T.n_zip (pa_cons (pv 3) (pa_cons (pv 5) pa_nil))) (pg_tup (n:=2) rfl (pgs_cons (pg_name (i:=6) sc_law_told.nd rfl (Or.inl rfl)) (pgs_cons (pg_name (i:=7) sc_law_told.nd rfl (Or.inl rfl)) pgs_nil))) (pss_one (ps_if (PW.pt (pw_or (pt_not (pt_truth (pe_callB call_isi (by rfl) T.n_isinstance bt_isinstance (pa_cons (pv 7) (pa_cons (pe_bltn rfl T.n_tuple bt_tuple (v:=.ty "tuple") rfl) pa_nil))) (fun _=>rfl))) (pw_or (pt_not (pt_truth (pe_callB (call_allQ rfl) (by rfl) T.n_all bt_all (pa_cons (pe_comp (fun _ _ h=>h) rfl (compOk_of (L:=0) rfl rfl rfl rfl (N:=["one"]) (caps:=[none]) (by show capsOk ["shims","number","span","due","turn","found","row","told"] (defScope s_law_told).names _ _ _ = true; decide +kernel)) (pi_seq (pv 7)) (fun _ _ _ _=>(pg_name (i:=0) (by show List.Nodup (["one"]:List Str); decide) rfl (Or.inl rfl))) (fun _ _ _ _=>pts_nil) (fun _ _ _ _=>(pe_dfN D_law_whole hr (by decide) (pa_cons (pv 0) pa_nil)))) pa_nil)) (fun _=>rfl))) (pw_or1 (pt_cmpR (op_neD hr.units) (pv 7) (pv 6) (nomark _)))))) (pss_one (ps_ret pe_bl)) pss_nil))) (pss_one (ps_expr (pe_bm PySem.F.plainAttrs_list PySem.F.slot_list_append PySem.F.type_list_append mt_append (pv 5) (pa_cons pe_non pa_nil)))))))) (pss_one (ps_ret pe_bl))),(rs_seq (rs_for (ri_rng1X (ra_cons re_int ra_nil)) rg_name (rs_seq (rs_asg (re_call (ra_cons re_var (ra_cons re_var (ra_cons re_var ra_nil)))) rg_name) (rs_seq (rs_if (rt_or (rt_not (rt_tru (re_cb rc_isi (ra_cons re_var (ra_cons re_o ra_nil))))) (rt_t (re_op ro_neD (re_cb rc_lenG (ra_cons re_var ra_nil)) (re_cb rc_lenG (ra_cons re_var ra_nil))))) (rs_ret re_bl) rs_next) (rs_seq (rs_forZ (ra_cons re_var (ra_cons re_var ra_nil)) (rg_tup (rgs_cons rg_name (rgs_cons rg_name rgs_nil))) (rs_if (rt_or (rt_not (rt_tru (re_cb rc_isi (ra_cons re_var (ra_cons re_o ra_nil))))) (rt_or (rt_not (rt_tru (re_cb rc_all (ra_cons (re_comp (ri_seq re_var) rg_name rt_noIf (re_call (ra_cons re_var ra_nil))) ra_nil)))) (rt_t (re_op ro_neD re_var re_var)))) (rs_ret re_bl) rs_next)) (rs_drop (re_bm rm_append re_var (ra_cons re_non ra_nil))))))) (rs_ret re_bl)),fun xs S R q=>q⟩
theorem D_law_odd_row (T:Txt mg) (dd:Dds K mg) (D_law_draw:pD_law_draw P w K mg base):pD_law_odd_row P w K mg base:=by
 exact Df.dN dd.d_law_odd_row sc_law_odd_row 3 rfl fun f cdv A outer s H E hr=>⟨_,_,(pss_cons (ps_set (i:=2) sc_law_odd_row.nd rfl (Or.inl rfl) (pe_dfN D_law_draw hr (by decide) (pa_cons (pv 1) (pa_cons (pe_op op_addG (pe_callB call_lenG (by rfl) T.n_len bt_len (pa_cons (pv 0) pa_nil)) pe_int) pa_nil)))) (pss_cons (ps_set (i:=3) sc_law_odd_row.nd rfl (Or.inl rfl) (pe_lst (pa_cons (pe_op op_addG (pe_slice sl_tupW (pv 0) po_none (po_some (pv 2))) (pe_slice sl_tupW (pv 0) (po_some (pe_op op_addG (pv 2) pe_int)) po_none)) (pa_cons (pe_op op_addG (pe_op op_addG (pe_slice sl_tupW (pv 0) po_none (po_some (pv 2))) (pe_slice sl_tupW (pv 0) (po_some (pv 2)) (po_some (pe_op op_addG (pv 2) pe_int)))) (pe_slice sl_tupW (pv 0) (po_some (pv 2)) po_none)) (pa_cons (pe_revT (pv 0) (pe_un un_neg pe_int)) (pa_cons (pe_callTy call_list_of (by rfl) T.n_list bt_list (pa_cons (pv 0) pa_nil)) (pa_cons pe_non (pa_cons (pe_tup pa_nil) (pa_cons (pe_tup (pa_cons pe_int pa_nil)) (pa_cons pe_str (pa_cons pe_int pa_nil))))))))))) (pss_cons (ps_for PassesOwn.never rfl (pi_seq (pe_lstQ (qa_cons pe_bl (qa_cons pe_non (qa_cons pe_str (qa_cons pe_int (qa_cons pe_int (qa_cons (pe_un un_neg pe_int) (qa_cons (pe_tup (pa_cons pe_int pa_nil)) (qa_cons pe_bl qa_nil)))))))))) (pg_name (i:=4) sc_law_odd_row.nd rfl (Or.inl rfl)) (pss_one (ps_expr (pe_bm PySem.F.plainAttrs_list PySem.F.slot_list_append PySem.F.type_list_append mt_append (pv 3) (pa_cons (pe_op op_addG (pe_op op_addG (pe_slice sl_tupW (pv 0) po_none (po_some (pv 2))) (pe_tup (pa_cons (pv 4) pa_nil))) (pe_slice sl_tupW (pv 0) (po_some (pe_op op_addG (pv 2) pe_int)) po_none)) pa_nil))))) (pss_one (ps_ret (pe_ix ix_seq (pv 3) (pe_dfN D_law_draw hr (by decide) (pa_cons (pv 1) (pa_cons (pe_callB call_lenG (by rfl) T.n_len bt_len (pa_cons (pv 3) pa_nil)) pa_nil))) (fun _ _=>rfl))))))),(rs_seq (rs_asg (re_callP (i:=0) (ra_cons re_var (ra_cons (re_op ro_add (re_cb rc_lenG (ra_cons re_var ra_nil)) re_int) ra_nil))) rg_name) (rs_seq (rs_asg (re_lstT (ra_cons (re_op ro_add (re_sl rl_tupW re_var rp_none (rp_some re_var)) (re_sl rl_tupW re_var (rp_some (re_op ro_add re_var re_int)) rp_none)) (ra_cons (re_op ro_add (re_op ro_add (re_sl rl_tupW re_var rp_none (rp_some re_var)) (re_sl rl_tupW re_var (rp_some re_var) (rp_some (re_op ro_add re_var re_int)))) (re_sl rl_tupW re_var (rp_some re_var) rp_none)) (ra_cons (re_revT re_var (re_un ru_I re_int)) (ra_cons (re_cb rc_lstOf (ra_cons re_var ra_nil)) (ra_cons re_non (ra_cons (re_tup ra_nil) (ra_cons (re_tup (ra_cons re_int ra_nil)) (ra_cons re_str (ra_cons re_int ra_nil)))))))))) rg_name) (rs_seq (rs_for (ri_seq (re_lst (ra_cons re_bl (ra_cons re_non (ra_cons re_str (ra_cons re_int (ra_cons re_int (ra_cons (re_un ru_I re_int) (ra_cons (re_tup (ra_cons re_int ra_nil)) (ra_cons re_bl ra_nil)))))))))) rg_name (rs_drop (re_bm rm_append re_var (ra_cons (re_op ro_add (re_op ro_add (re_sl rl_tupW re_var rp_none (rp_some re_var)) (re_tup (ra_cons re_var ra_nil))) (re_sl rl_tupW re_var (rp_some (re_op ro_add re_var re_int)) rp_none)) ra_nil)))) (rs_ret (re_op ro_ix re_var (re_callP (i:=0) (ra_cons re_var (ra_cons (re_cb rc_lenG (ra_cons re_var ra_nil)) ra_nil)))))))),fun xs S R q=>q⟩
theorem D_law_odd (T:Txt mg) (dd:Dds K mg) (D_law_draw:pD_law_draw P w K mg base) (D_law_odd_row:pD_law_odd_row P w K mg base):pD_law_odd P w K mg base:=by
 exact Df.dN dd.d_law_odd sc_law_odd 2 rfl fun f cdv A outer s H E hr=>⟨_,_,(pss_cons (ps_set (i:=2) sc_law_odd.nd rfl (Or.inl rfl) (pe_dfN D_law_draw hr (by decide) (pa_cons (pv 1) (pa_cons (pe_op op_addG (pe_callB call_lenG (by rfl) T.n_len bt_len (pa_cons (pv 0) pa_nil)) pe_int) pa_nil)))) (pss_cons (ps_set (i:=3) sc_law_odd.nd rfl (Or.inl rfl) (pe_lst (pa_cons (pe_op op_addG (pe_slice sl_seq (pv 0) po_none (po_some (pv 2))) (pe_slice sl_seq (pv 0) (po_some (pe_op op_addG (pv 2) pe_int)) po_none)) (pa_cons (pe_op op_addG (pe_op op_addG (pe_slice sl_seq (pv 0) po_none (po_some (pv 2))) (pe_slice sl_seq (pv 0) (po_some (pv 2)) (po_some (pe_op op_addG (pv 2) pe_int)))) (pe_slice sl_seq (pv 0) (po_some (pv 2)) po_none)) (pa_cons (pe_rev (pv 0) (pe_un un_neg pe_int)) (pa_cons pe_non (pa_cons (pe_fz pe_dnewK) pa_nil))))))) (pss_cons (ps_set (i:=3) sc_law_odd.nd rfl (Or.inl rfl) (pe_op op_addG (pv 3) (pe_lstQ (qa_cons (pe_callTy call_tuple_of (by rfl) T.n_tuple bt_tuple (pa_cons (pv 0) pa_nil)) (qa_cons (pe_op op_addG (pv 0) (pe_lst (pa_cons (pe_tup pa_nil) pa_nil))) (qa_cons (pe_op op_addG (pv 0) (pe_lst (pa_cons (pe_tup (pa_cons pe_int pa_nil)) pa_nil))) (qa_cons (pe_lst pa_nil) (qa_cons (pe_lst (pa_cons (pe_tup pa_nil) pa_nil)) (qa_cons (pe_lst (pa_cons (pe_tup (pa_cons pe_int pa_nil)) pa_nil)) (qa_cons pe_str (qa_cons pe_int (qa_cons (pe_slice sl_seq (pv 0) po_none (po_some (pe_un un_neg pe_int))) qa_nil)))))))))))) (pss_cons (ps_if (PW.pt (pw_and (pt_cmpR op_lt (pv 2) (pe_callB call_lenG (by rfl) T.n_len bt_len (pa_cons (pv 0) pa_nil)) (nomark _)) (pw_and1 (pt_cmpR op_gt (pe_dfN D_law_draw hr (by decide) (pa_cons (pv 1) (pa_cons pe_int pa_nil))) pe_int (nomark _))))) (pss_one (ps_ret (pe_op op_addG (pe_op op_addG (pe_slice sl_seq (pv 0) po_none (po_some (pv 2))) (pe_lst (pa_cons (pe_dfN D_law_odd_row hr (by decide) (pa_cons (pe_ix ix_seq (pv 0) (pv 2) (fun _ _=>rfl)) (pa_cons (pv 1) pa_nil))) pa_nil))) (pe_slice sl_seq (pv 0) (po_some (pe_op op_addG (pv 2) pe_int)) po_none)))) pss_nil) (pss_one (ps_ret (pe_ix ix_seq (pv 3) (pe_dfN D_law_draw hr (by decide) (pa_cons (pv 1) (pa_cons (pe_callB call_lenG (by rfl) T.n_len bt_len (pa_cons (pv 3) pa_nil)) pa_nil))) (fun _ _=>rfl)))))))),(rs_seq (rs_asg (re_callP (i:=0) (ra_cons re_var (ra_cons (re_op ro_add (re_cb rc_lenG (ra_cons re_var ra_nil)) re_int) ra_nil))) rg_name) (rs_seq (rs_asg (re_lst (ra_cons (re_op ro_add (re_sl rl_seq re_var rp_none (rp_some re_var)) (re_sl rl_seq re_var (rp_some (re_op ro_add re_var re_int)) rp_none)) (ra_cons (re_op ro_add (re_op ro_add (re_sl rl_seq re_var rp_none (rp_some re_var)) (re_sl rl_seq re_var (rp_some re_var) (rp_some (re_op ro_add re_var re_int)))) (re_sl rl_seq re_var (rp_some re_var) rp_none)) (ra_cons (re_rev re_var (re_un ru_I re_int)) (ra_cons re_non (ra_cons re_dict ra_nil)))))) rg_name) (rs_seq (rs_asg (re_op ro_add re_var (re_lst (ra_cons (re_cb rc_tupOf (ra_cons re_var ra_nil)) (ra_cons (re_op ro_add re_var (re_lst (ra_cons (re_tup ra_nil) ra_nil))) (ra_cons (re_op ro_add re_var (re_lst (ra_cons (re_tup (ra_cons re_int ra_nil)) ra_nil))) (ra_cons (re_lst ra_nil) (ra_cons (re_lst (ra_cons (re_tup ra_nil) ra_nil)) (ra_cons (re_lst (ra_cons (re_tup (ra_cons re_int ra_nil)) ra_nil)) (ra_cons re_str (ra_cons re_int (ra_cons (re_sl rl_seq re_var rp_none (rp_some (re_un ru_I re_int))) ra_nil))))))))))) rg_name) (rs_seq (rs_if (rt_and (rt_t (re_op ro_Ib re_var (re_cb rc_lenG (ra_cons re_var ra_nil)))) (rt_t (re_op ro_Ib (re_callP (i:=0) (ra_cons re_var (ra_cons re_int ra_nil))) re_int))) (rs_ret (re_op ro_add (re_op ro_add (re_sl rl_seq re_var rp_none (rp_some re_var)) (re_lst (ra_cons (re_callP (i:=1) (ra_cons (re_op ro_ix re_var re_var) (ra_cons re_var ra_nil))) ra_nil))) (re_sl rl_seq re_var (rp_some (re_op ro_add re_var re_int)) rp_none))) rs_next) (rs_ret (re_op ro_ix re_var (re_callP (i:=0) (ra_cons re_var (ra_cons (re_cb rc_lenG (ra_cons re_var ra_nil)) ra_nil))))))))),fun xs S R q=>q⟩
theorem D_is_whole (T:Txt mg) (dd:Dds K mg):pD_is_whole P w K mg base:=by
 exact Df.dN dd.d_is_whole sc_is_whole 0 rfl fun f cdv A outer s H E hr=>⟨_,_,(pss_one (ps_ret (pe_and (pe_callB call_isi (by rfl) T.n_isinstance bt_isinstance (pa_cons (pv 0) (pa_cons (pe_bltn rfl T.n_int bt_int (v:=.ty "int") rfl) pa_nil))) (pe_one (pe_not (pe_callB call_isi (by rfl) T.n_isinstance bt_isinstance (pa_cons (pv 0) (pa_cons (pe_bltn rfl T.n_bool bt_bool (v:=.ty "bool") rfl) pa_nil)))))))),(rs_ret (re_and (re_cb rc_isi (ra_cons re_var (ra_cons re_o ra_nil))) (re_not (re_cb rc_isi (ra_cons re_var (ra_cons re_o ra_nil)))))),fun xs S R q=>q⟩
theorem D_is_same (T:Txt mg) (dd:Dds K mg) (D_is_whole:pD_is_whole P w K mg base):pD_is_same P w K mg base:=by
 exact Df.dN dd.d_is_same sc_is_same 0 rfl fun f cdv A outer s H E hr=>⟨_,_,(pss_one (ps_ret (pe_and (pe_callB call_isi (by rfl) T.n_isinstance bt_isinstance (pa_cons (pv 0) (pa_cons (pe_bltn rfl T.n_tuple bt_tuple (v:=.ty "tuple") rfl) pa_nil))) (pe_and (pe_callB (call_allQ rfl) (by rfl) T.n_all bt_all (pa_cons (pe_comp (fun _ _ h=>h) rfl (compOk_of (L:=0) rfl rfl rfl rfl (N:=["number"]) (caps:=[none]) (by show capsOk ["thing","numbers"] (defScope s_is_same).names _ _ _ = true; decide +kernel)) (pi_seq (pv 0)) (fun _ _ _ _=>(pg_name (i:=0) (by show List.Nodup (["number"]:List Str); decide) rfl (Or.inl rfl))) (fun _ _ _ _=>pts_nil) (fun _ _ _ _=>(pe_dfN D_is_whole hr (by decide) (pa_cons (pv 0) pa_nil)))) pa_nil)) (pe_one (pe_cmpR (op_eqD hr.units) (pv 0) (pv 1) (nomark _))))))),(rs_ret (re_and (re_cb rc_isi (ra_cons re_var (ra_cons re_o ra_nil))) (re_and (re_cb rc_all (ra_cons (re_comp (ri_seq re_var) rg_name rt_noIf (re_call (ra_cons re_var ra_nil))) ra_nil)) (re_op ro_eqD re_var re_var)))),fun xs S R q=>q⟩
theorem D_table_holds (T:Txt mg) (dd:Dds K mg) (D_most_rise:pD_most_rise P w K mg base) (D_first_row:pD_first_row P w K mg base) (D_stacks_that_do:pD_stacks_that_do P w K mg base) (D_is_same:pD_is_same P w K mg base) (D_sums_of:pD_sums_of P w K mg base) (D_next_row:pD_next_row P w K mg base):pD_table_holds P w K mg base:=by
 exact Df.dN dd.d_table_holds sc_table_holds 3 rfl fun f cdv A outer s H E hr=>⟨_,_,(pss_cons (ps_set (i:=5) sc_table_holds.nd rfl (Or.inl rfl) (pe_dfN D_most_rise hr (by decide) (pa_cons (pv 1) (pa_cons (pv 2) pa_nil)))) (pss_cons (ps_if (PW.pt (pw_or (pt_not (pt_truth (pe_callB call_isi (by rfl) T.n_isinstance bt_isinstance (pa_cons (pv 4) (pa_cons (pe_bltn rfl T.n_list bt_list (v:=.ty "list") rfl) pa_nil))) (fun _=>rfl))) (pw_or1 (pt_cmpR (op_neD hr.units) (pe_callB call_lenG (by rfl) T.n_len bt_len (pa_cons (pv 4) pa_nil)) (pv 3) (nomark _))))) (pss_one (ps_ret pe_bl)) pss_nil) (pss_cons (ps_set (i:=6) sc_table_holds.nd rfl (Or.inl rfl) (pe_dfN D_first_row hr (by decide) (pa_cons (pv 5) pa_nil))) (pss_cons (ps_for PassesOwn.never rfl (pi_seq (pv 4)) (pg_name (i:=7) sc_table_holds.nd rfl (Or.inl rfl)) (pss_cons (ps_if (PW.pt (pw_or (pt_not (pt_truth (pe_dfN D_is_same hr (by decide) (pa_cons (pv 7) (pa_cons (pe_dfN D_sums_of hr (by decide) (pa_cons (pv 6) pa_nil)) pa_nil))) (fun _=>rfl))) (pw_or1 (pt_truth (pe_dfN D_stacks_that_do hr (by decide) (pa_cons (pv 6) (pa_cons (pv 1) (pa_cons (pv 2) pa_nil)))) (fun _=>rfl))))) (pss_one (ps_ret pe_bl)) pss_nil) (pss_one (ps_set (i:=6) sc_table_holds.nd rfl (Or.inl rfl) (pe_dfN D_next_row hr (by decide) (pa_cons (pv 0) (pa_cons (pv 6) (pa_cons (pv 5) pa_nil)))))))) (pss_one (ps_ret pe_bl)))))),(rs_seq (rs_asg (re_call (ra_cons re_var (ra_cons re_var ra_nil))) rg_name) (rs_seq (rs_if (rt_or (rt_not (rt_tru (re_cb rc_isi (ra_cons re_var (ra_cons re_o ra_nil))))) (rt_t (re_op ro_neD (re_cb rc_lenG (ra_cons re_var ra_nil)) re_var))) (rs_ret re_bl) rs_next) (rs_seq (rs_asg (re_call (ra_cons re_var ra_nil)) rg_name) (rs_seq (rs_for (ri_seq re_var) rg_name (rs_seq (rs_if (rt_or (rt_not (rt_tru (re_call (ra_cons re_var (ra_cons (re_call (ra_cons re_var ra_nil)) ra_nil))))) (rt_tru (re_call (ra_cons re_var (ra_cons re_var (ra_cons re_var ra_nil)))))) (rs_ret re_bl) rs_next) (rs_asg (re_call (ra_cons re_var (ra_cons re_var (ra_cons re_var ra_nil)))) rg_name))) (rs_ret re_bl))))),fun xs S R q=>q⟩
theorem D_law_due (T:Txt mg) (dd:Dds K mg) (D_law_first_row:pD_law_first_row P w K mg base) (D_law_whole:pD_law_whole P w K mg base) (D_law_hits:pD_law_hits P w K mg base) (D_law_next_row:pD_law_next_row P w K mg base):pD_law_due P w K mg base:=by
 exact Df.dN dd.d_law_due sc_law_due 2 rfl fun f cdv A outer s H E hr=>⟨_,_,(pss_cons (ps_if (PW.pt (pw_or (pt_not (pt_truth (pe_callB call_isi (by rfl) T.n_isinstance bt_isinstance (pa_cons (pv 4) (pa_cons (pe_bltn rfl T.n_list bt_list (v:=.ty "list") rfl) pa_nil))) (fun _=>rfl))) (pw_or1 (pt_cmpR (op_neD hr.units) (pe_callB call_lenG (by rfl) T.n_len bt_len (pa_cons (pv 4) pa_nil)) (pv 3) (nomark _))))) (pss_one (ps_ret pe_bl)) pss_nil) (pss_cons (ps_set (i:=5) sc_law_due.nd rfl (Or.inl rfl) (pe_dfN D_law_first_row hr (by decide) (pa_cons (pv 1) (pa_cons (pv 2) pa_nil)))) (pss_cons (ps_for PassesOwn.never rfl (pi_seq (pv 4)) (pg_name (i:=6) sc_law_due.nd rfl (Or.inl rfl)) (pss_cons (ps_if (PW.pt (pw_or (pt_not (pt_truth (pe_callB call_isi (by rfl) T.n_isinstance bt_isinstance (pa_cons (pv 6) (pa_cons (pe_bltn rfl T.n_tuple bt_tuple (v:=.ty "tuple") rfl) pa_nil))) (fun _=>rfl))) (pw_or (pt_not (pt_truth (pe_callB (call_allQ rfl) (by rfl) T.n_all bt_all (pa_cons (pe_comp (fun _ _ h=>h) rfl (compOk_of (L:=0) rfl rfl rfl rfl (N:=["one"]) (caps:=[none]) (by show capsOk ["shims","number","span","many","thing","row","told"] (defScope s_law_due).names _ _ _ = true; decide +kernel)) (pi_seq (pv 6)) (fun _ _ _ _=>(pg_name (i:=0) (by show List.Nodup (["one"]:List Str); decide) rfl (Or.inl rfl))) (fun _ _ _ _=>pts_nil) (fun _ _ _ _=>(pe_dfN D_law_whole hr (by decide) (pa_cons (pv 0) pa_nil)))) pa_nil)) (fun _=>rfl))) (pw_or1 (pt_cmpR (op_neD hr.units) (pv 6) (pv 5) (nomark _)))))) (pss_one (ps_ret pe_bl)) pss_nil) (pss_cons (ps_if (pt_truth (pe_dfN D_law_hits hr (by decide) (pa_cons (pv 1) (pa_cons (pv 2) (pa_cons (pv 5) pa_nil)))) (fun _=>rfl)) (pss_one (ps_ret pe_bl)) pss_nil) (pss_one (ps_set (i:=5) sc_law_due.nd rfl (Or.inl rfl) (pe_dfN D_law_next_row hr (by decide) (pa_cons (pv 0) (pa_cons (pv 5) (pa_cons (pe_op op_sub (pe_ix ix_seq (pv 2) pe_int (fun _ _=>rfl)) (pv 1)) pa_nil))))))))) (pss_one (ps_ret pe_bl))))),(rs_seq (rs_if (rt_or (rt_not (rt_tru (re_cb rc_isi (ra_cons re_var (ra_cons re_o ra_nil))))) (rt_t (re_op ro_neD (re_cb rc_lenG (ra_cons re_var ra_nil)) re_var))) (rs_ret re_bl) rs_next) (rs_seq (rs_asg (re_call (ra_cons re_var (ra_cons re_var ra_nil))) rg_name) (rs_seq (rs_for (ri_seq re_var) rg_name (rs_seq (rs_if (rt_or (rt_not (rt_tru (re_cb rc_isi (ra_cons re_var (ra_cons re_o ra_nil))))) (rt_or (rt_not (rt_tru (re_cb rc_all (ra_cons (re_comp (ri_seq re_var) rg_name rt_noIf (re_call (ra_cons re_var ra_nil))) ra_nil)))) (rt_t (re_op ro_neD re_var re_var)))) (rs_ret re_bl) rs_next) (rs_seq (rs_if (rt_tru (re_call (ra_cons re_var (ra_cons re_var (ra_cons re_var ra_nil))))) (rs_ret re_bl) rs_next) (rs_asg (re_call (ra_cons re_var (ra_cons re_var (ra_cons (re_op ro_I0 (re_op ro_ix re_var re_int) re_var) ra_nil)))) rg_name)))) (rs_ret re_bl)))),fun xs S R q=>q⟩
theorem D_law_held (T:Txt mg) (dd:Dds K mg) (D_table_holds:pD_table_holds P w K mg base) (D_law_due:pD_law_due P w K mg base):pD_law_held P w K mg base:=by
 exact Df.dN dd.d_law_held sc_law_held 1 rfl fun f cdv A outer s H E hr=>⟨_,_,(pss_cons (ps_set (i:=5) sc_law_held.nd rfl (Or.inl rfl) (pe_dfN D_table_holds hr (by decide) (pa_cons (pv 0) (pa_cons (pv 1) (pa_cons (pv 2) (pa_cons (pv 3) (pa_cons (pv 4) pa_nil))))))) (pss_one (ps_ret (pe_and (pe_callB call_isi (by rfl) T.n_isinstance bt_isinstance (pa_cons (pv 5) (pa_cons (pe_bltn rfl T.n_bool bt_bool (v:=.ty "bool") rfl) pa_nil))) (pe_one (pe_cmpR (op_eqD hr.units) (pv 5) (pe_dfN D_law_due hr (by decide) (pa_cons (pv 0) (pa_cons (pv 1) (pa_cons (pv 2) (pa_cons (pv 3) (pa_cons (pv 4) pa_nil)))))) (nomark _))))))),(rs_seq (rs_asg (re_call (ra_cons re_var (ra_cons re_var (ra_cons re_var (ra_cons re_var (ra_cons re_var ra_nil)))))) rg_name) (rs_ret (re_and (re_cb rc_isi (ra_cons re_var (ra_cons re_o ra_nil))) (re_op ro_eqD re_var (re_call (ra_cons re_var (ra_cons re_var (ra_cons re_var (ra_cons re_var (ra_cons re_var ra_nil)))))))))),fun xs S R q=>q⟩
theorem ok_law {f:Addr} {fd:FuncData} (F:Fun K "law" "law" s_law f fd) (T:Txt mg) (dd:Dds K mg):FnOk P w K mg base CX0 7 f fd ["script"] (sp1 (pLaw K)):=by
 have D_law_cell_at:=D_law_cell_at (P:=P) (w:=w) (base:=base) T dd
 have D_law_pen:pD_law_pen P w K mg base:=D_law_pen T dd 
 have D_law_next:pD_law_next P w K mg base:=D_law_next T dd 
 have D_law_draw:pD_law_draw P w K mg base:=D_law_draw T dd D_law_next
 have D_law_shims:pD_law_shims P w K mg base:=D_law_shims T dd D_law_draw
 have D_law_number:pD_law_number P w K mg base:=D_law_number T dd D_law_draw
 have D_law_way:pD_law_way P w K mg base:=D_law_way T dd D_law_number D_law_draw
 have D_law_first_row:pD_law_first_row P w K mg base:=D_law_first_row T dd 
 have D_law_next_row:pD_law_next_row P w K mg base:=D_law_next_row T dd 
 have D_law_hits:pD_law_hits P w K mg base:=D_law_hits T dd 
 have D_law_table:pD_law_table P w K mg base:=D_law_table T dd D_law_first_row D_law_hits D_law_next_row
 have D_most_rise:pD_most_rise P w K mg base:=D_most_rise T dd 
 have D_first_row:pD_first_row P w K mg base:=D_first_row T dd 
 have D_stacks_that_do:pD_stacks_that_do P w K mg base:=D_stacks_that_do T dd 
 have D_next_row:pD_next_row P w K mg base:=D_next_row T dd 
 have D_rows_to_the_end:pD_rows_to_the_end P w K mg base:=D_rows_to_the_end T dd D_most_rise D_first_row D_stacks_that_do D_next_row
 have D_sums_of:pD_sums_of P w K mg base:=D_sums_of T dd 
 have D_table_of:pD_table_of P w K mg base:=D_table_of T dd D_rows_to_the_end D_sums_of D_stacks_that_do
 have D_law_whole:pD_law_whole P w K mg base:=D_law_whole T dd 
 have D_law_told:pD_law_told P w K mg base:=D_law_told T dd D_table_of D_law_whole
 have D_law_odd_row:pD_law_odd_row P w K mg base:=D_law_odd_row T dd D_law_draw
 have D_law_odd:pD_law_odd P w K mg base:=D_law_odd T dd D_law_draw D_law_odd_row
 have D_is_whole:pD_is_whole P w K mg base:=D_is_whole T dd 
 have D_is_same:pD_is_same P w K mg base:=D_is_same T dd D_is_whole
 have D_table_holds:pD_table_holds P w K mg base:=D_table_holds T dd D_most_rise D_first_row D_stacks_that_do D_is_same D_sums_of D_next_row
 have D_law_due:pD_law_due P w K mg base:=D_law_due T dd D_law_first_row D_law_whole D_law_hits D_law_next_row
 have D_law_held:pD_law_held P w K mg base:=D_law_held T dd D_table_holds D_law_due
 refine F.ok1 sc_law (fun v=>[some v,none,none,none,none,none,none,none,none,none,none]) (fun _=>rfl) fun cdv A outer s H v Q E hr h=>?_
 obtain ⟨a,ns,rfl,hS,hlen,q⟩:=h
 refine ⟨_,(pss_cons (ps_if (PW.pt (pw_or (pt_not (pt_truth (pe_dfN D_law_told hr (by decide) (pa_cons (pe_tup (pa_cons pe_int pa_nil)) (pa_cons pe_int (pa_cons (pe_tup (pa_cons pe_int (pa_cons pe_int pa_nil))) (pa_cons (pe_lst (pa_cons (pe_tup (pa_cons pe_int pa_nil)) (pa_cons (pe_tup (pa_cons pe_int pa_nil)) (pa_cons (pe_tup pa_nil) pa_nil)))) pa_nil))))) (fun _=>rfl))) (pw_or1 (pt_not (pt_truth (pe_dfN D_law_told hr (by decide) (pa_cons (pe_tup (pa_cons pe_int pa_nil)) (pa_cons pe_int (pa_cons (pe_tup (pa_cons pe_int (pa_cons pe_int pa_nil))) (pa_cons (pe_lst (pa_cons (pe_tup pa_nil) pa_nil)) pa_nil))))) (fun _=>rfl)))))) (pss_one (ps_ret pe_bl)) pss_nil) (pss_cons (ps_for PassesOwn.never rfl (pi_list (pe_op op_cat (pe_lst (pa_cons (pe_df2 D_law_cell_at hr (by decide) (pv 0) pe_int) pa_nil)) (pe_slice sl_list (pv 0) (po_some pe_int) (po_some pe_int)))) (pg_name (i:=1) sc_law.nd rfl (Or.inl rfl)) (pss_cons (ps_set (i:=2) sc_law.nd rfl (Or.inl rfl) (pe_dfN D_law_pen hr (by decide) (pa_cons (pv 1) pa_nil))) (pss_cons (ps_set (i:=3) sc_law.nd rfl (Or.inl rfl) (pe_dfN D_law_shims hr (by decide) (pa_cons (pv 2) pa_nil))) (pss_cons (ps_asg (pe_dfN D_law_way hr (by decide) (pa_cons (pv 2) (pa_cons pe_int pa_nil))) (pg_tup (n:=2) rfl (pgs_cons (pg_name (i:=4) sc_law.nd rfl (Or.inl rfl)) (pgs_cons (pg_name (i:=5) sc_law.nd rfl (Or.inl rfl)) pgs_nil)))) (pss_cons (ps_set (i:=6) sc_law.nd rfl (Or.inl rfl) (pe_dfN D_law_table hr (by decide) (pa_cons (pv 3) (pa_cons (pv 4) (pa_cons (pv 5) pa_nil))))) (pss_cons (ps_if (pt_not (pt_truth (pe_dfN D_law_told hr (by decide) (pa_cons (pv 3) (pa_cons (pv 4) (pa_cons (pv 5) (pa_cons (pv 6) pa_nil))))) (fun _=>rfl))) (pss_one (ps_ret pe_bl)) pss_nil) (pss_cons (ps_set (i:=7) sc_law.nd rfl (Or.inl rfl) (pe_ix ix_seq (pe_op op_addG (pv 6) (pe_lst (pa_cons (pe_dfN D_law_first_row hr (by decide) (pa_cons (pv 4) (pa_cons (pv 5) pa_nil))) pa_nil))) (pe_op op_sub (pe_callB call_lenG (by rfl) T.n_len bt_len (pa_cons (pv 6) pa_nil)) pe_int) (fun _ _=>rfl))) (pss_cons (ps_set (i:=8) sc_law.nd rfl (Or.inl rfl) (pe_op op_addG (pv 6) (pe_lst (pa_cons (pe_dfN D_law_next_row hr (by decide) (pa_cons (pv 3) (pa_cons (pv 7) (pa_cons (pe_op op_sub (pe_ix ix_seq (pv 5) pe_int (fun _ _=>rfl)) (pv 4)) pa_nil)))) pa_nil)))) (pss_one (ps_for PassesOwn.never rfl (pi_seq (pe_lst (pa_cons (pv 6) (pa_cons (pv 8) (pa_cons (pe_dfN D_law_odd hr (by decide) (pa_cons (pv 6) (pa_cons (pv 2) pa_nil))) (pa_cons (pe_dfN D_law_odd hr (by decide) (pa_cons (pv 6) (pa_cons (pv 2) pa_nil))) (pa_cons (pe_dfN D_law_odd hr (by decide) (pa_cons (pv 6) (pa_cons (pv 2) pa_nil))) pa_nil))))))) (pg_name (i:=9) sc_law.nd rfl (Or.inl rfl)) (pss_one (ps_for PassesOwn.never rfl (pi_seq (pe_lst (pa_cons (pe_callB call_lenG (by rfl) T.n_len bt_len (pa_cons (pv 6) pa_nil)) (pa_cons (pe_op op_addG (pe_callB call_lenG (by rfl) T.n_len bt_len (pa_cons (pv 6) pa_nil)) pe_int) (pa_cons (pe_callB (call_max2 rfl) (by rfl) T.n_max bt_max (pa_cons pe_int (pa_cons (pe_op op_sub (pe_callB call_lenG (by rfl) T.n_len bt_len (pa_cons (pv 6) pa_nil)) pe_int) pa_nil))) pa_nil))))) (pg_name (i:=10) sc_law.nd rfl (Or.inl rfl)) (pss_one (ps_if (pt_not (pt_truth (pe_dfN D_law_held hr (by decide) (pa_cons (pv 3) (pa_cons (pv 4) (pa_cons (pv 5) (pa_cons (pv 10) (pa_cons (pv 9) pa_nil)))))) (fun _=>rfl))) (pss_one (ps_ret pe_bl)) pss_nil)))))))))))))) (pss_one (ps_ret pe_bl)))),?_⟩
 refine pre_dd1 (a:=a) (m:=10) (dt:=pre_k64) (rs_if (rt_or (rt_not (rt_tru (re_call (ra_cons (re_tup (ra_cons re_int ra_nil)) (ra_cons re_int (ra_cons (re_tup (ra_cons re_int (ra_cons re_int ra_nil))) (ra_cons (re_lst (ra_cons (re_tup (ra_cons re_int ra_nil)) (ra_cons (re_tup (ra_cons re_int ra_nil)) (ra_cons (re_tup ra_nil) ra_nil)))) ra_nil))))))) (rt_not (rt_tru (re_call (ra_cons (re_tup (ra_cons re_int ra_nil)) (ra_cons re_int (ra_cons (re_tup (ra_cons re_int (ra_cons re_int ra_nil))) (ra_cons (re_lst (ra_cons (re_tup ra_nil) ra_nil)) ra_nil)))))))) (rs_ret re_bl) rs_next) rfl rfl (pre_k64_ok a) fun σ1 H1 z0 z1 s1=>?_
 exact cells_d (m:=10) (db:=b_k64) (rs_seq (rs_asg (re_call (ra_cons re_var ra_nil)) rg_name) (rs_seq (rs_asg (re_callP (i:=0) (ra_cons re_var ra_nil)) rg_name) (rs_seq (rs_asg (re_callP (i:=0) (ra_cons re_var (ra_cons re_int ra_nil))) (rg_tup (rgs_cons rg_name (rgs_cons rg_name rgs_nil)))) (rs_seq (rs_asg (re_call (ra_cons re_var (ra_cons re_var (ra_cons re_var ra_nil)))) rg_name) (rs_seq (rs_if (rt_not (rt_tru (re_call (ra_cons re_var (ra_cons re_var (ra_cons re_var (ra_cons re_var ra_nil))))))) (rs_ret re_bl) rs_next) (rs_seq (rs_asg (re_op ro_ix (re_op ro_add re_var (re_lst (ra_cons (re_call (ra_cons re_var (ra_cons re_var ra_nil))) ra_nil))) (re_op ro_I0 (re_cb rc_lenG (ra_cons re_var ra_nil)) re_int)) rg_name) (rs_seq (rs_asg (re_op ro_add re_var (re_lst (ra_cons (re_call (ra_cons re_var (ra_cons re_var (ra_cons (re_op ro_I0 (re_op ro_ix re_var re_int) re_var) ra_nil)))) ra_nil))) rg_name) (rs_for (ri_seq (re_lst (ra_cons re_var (ra_cons re_var (ra_cons (re_callP (i:=1) (ra_cons re_var (ra_cons re_var ra_nil))) (ra_cons (re_callP (i:=1) (ra_cons re_var (ra_cons re_var ra_nil))) (ra_cons (re_callP (i:=1) (ra_cons re_var (ra_cons re_var ra_nil))) ra_nil))))))) rg_name (rs_for (ri_seq (re_lst (ra_cons (re_cb rc_lenG (ra_cons re_var ra_nil)) (ra_cons (re_op ro_add (re_cb rc_lenG (ra_cons re_var ra_nil)) re_int) (ra_cons (re_cb rc_I2 (ra_cons re_int (ra_cons (re_op ro_I0 (re_cb rc_lenG (ra_cons re_var ra_nil)) re_int) ra_nil))) ra_nil))))) rg_name (rs_if (rt_not (rt_tru (re_call (ra_cons re_var (ra_cons re_var (ra_cons re_var (ra_cons re_var (ra_cons re_var ra_nil)))))))) (rs_ret re_bl) rs_next)))))))))) z0 z1 (s1.seq hS) hlen (fun n=>turn_k64_ok a n) (by decide) fun _ H2 _=>q H2
end
end My
def PySem.W.Fast.tw928908181153931395:Unit:=()
def PySem.W.Fast.tw9103169721114615703:Unit:=()
def PySem.W.Fast.tw1408000153064523780:Unit:=()
def PySem.W.Fast.tw897186228326178814:Unit:=()
def PySem.W.Fast.tw2998143375185883922:Unit:=()
def PySem.W.Fast.tw7986844969677069341:Unit:=()
def PySem.W.Fast.tw7451398898697260688:Unit:=()
def PySem.W.Fast.tw13469364965847945682:Unit:=()
def PySem.W.Fast.tw17327414857821678607:Unit:=()
def PySem.W.Fast.tw483575276083434473:Unit:=()
def PySem.W.Fast.tw16744377352084385843:Unit:=()
def PySem.W.Fast.tw6976060437794981120:Unit:=()
def PySem.W.Fast.tw14937458076789800935:Unit:=()
def PySem.W.Fast.tw16828131242176723423:Unit:=()
def PySem.W.Fast.tw7414162298255717865:Unit:=()
def PySem.W.Fast.tw18082928412075902849:Unit:=()
def PySem.W.Fast.tw9531192800860333249:Unit:=()
def PySem.W.Fast.tw11211885632513660729:Unit:=()
def PySem.W.Fast.tw2228213129256058564:Unit:=()
def PySem.W.Fast.tw9693542381574262546:Unit:=()
def PySem.W.Fast.tw214372802803079196:Unit:=()
def PySem.W.Fast.tw834697549518535902:Unit:=()
def PySem.W.Fast.tw12402605649070148905:Unit:=()
def PySem.W.Fast.tw6817499605974437558:Unit:=()
def PySem.W.Fast.tw11610976303534931071:Unit:=()
def PySem.W.Fast.tw15356730221969182050:Unit:=()
def PySem.W.Fast.tw1075834595558207284:Unit:=()
def PySem.W.Fast.tw16423571917183495426:Unit:=()
def PySem.W.Fast.tw7966783076538743578:Unit:=()
def PySem.W.Fast.tw4662223144838196602:Unit:=()
def PySem.W.Fast.tw10342071425654631344:Unit:=()
def PySem.W.Fast.tw9487923532688130003:Unit:=()
def PySem.W.Fast.tw16247911772503121109:Unit:=()
def PySem.W.Fast.tw2502920639531502732:Unit:=()
def PySem.W.Fast.tw8993920673598809569:Unit:=()
def PySem.W.Fast.tw14214302391968502051:Unit:=()
def PySem.W.Fast.tw2519653143406172545:Unit:=()
def PySem.W.Fast.tw12545736879904902823:Unit:=()
def PySem.W.Fast.tw18211383163989124871:Unit:=()
def PySem.W.Fast.tw14127273027055838410:Unit:=()
def PySem.W.Fast.tw16578204427863405383:Unit:=()
def PySem.W.Fast.tw5873536852216509857:Unit:=()
def PySem.W.Fast.tw17206385051246763996:Unit:=()
def PySem.W.Fast.tw14197885158775915682:Unit:=()
def PySem.W.Fast.tw8496316270980102795:Unit:=()
def PySem.W.Fast.tw7161921351096783841:Unit:=()
def PySem.W.Fast.tw3455686806449272132:Unit:=()
def PySem.W.Fast.tw3747519903007798921:Unit:=()
def PySem.W.Fast.tw9894026532274041082:Unit:=()
def PySem.W.Fast.tw1208433556265584664:Unit:=()
def PySem.W.Fast.tw3791977278491354651:Unit:=()
def PySem.W.Fast.tw6443594418505739425:Unit:=()
def PySem.W.Fast.tw15995773852587778230:Unit:=()
def PySem.W.Fast.tw11078472643293904045:Unit:=()
def PySem.W.Fast.tw11308274320112711810:Unit:=()
def PySem.W.Fast.tw15098537472995886560:Unit:=()
def PySem.W.Fast.tw7572141196948746279:Unit:=()
def PySem.W.Fast.tw6950419558060210417:Unit:=()
def PySem.W.Fast.tw14931507808834607713:Unit:=()
def PySem.W.Fast.tw4963489604815570049:Unit:=()
def PySem.W.Fast.tw16128854189676145945:Unit:=()
def PySem.W.Fast.tw8431885642590221187:Unit:=()
def PySem.W.Fast.tw13626698651641520579:Unit:=()
def PySem.W.Fast.tw11269301156121684182:Unit:=()
def PySem.W.Fast.tw11966616009707015039:Unit:=()
def PySem.W.Fast.tw8856184528935074261:Unit:=()
def PySem.W.Fast.tw16004596545613693975:Unit:=()
def PySem.W.Fast.tw16998537669238575377:Unit:=()
def PySem.W.Fast.tw9571931519455621708:Unit:=()
def PySem.W.Fast.tw3408905100116043520:Unit:=()
def PySem.W.Fast.tw8391250433243407722:Unit:=()
def PySem.W.Fast.tw17202325314850641533:Unit:=()
def PySem.W.Fast.tw6107438959207065583:Unit:=()
def PySem.W.Fast.tw14329672492832289131:Unit:=()
def PySem.W.Fast.tw3895868116408962226:Unit:=()
def PySem.W.Fast.tw13037856169123131564:Unit:=()
def PySem.W.Fast.tw9062287191352295322:Unit:=()
def PySem.W.Fast.tw16078166718581448531:Unit:=()
def PySem.W.Fast.tw3070608860846384012:Unit:=()
def PySem.W.Fast.tw17909668454899062306:Unit:=()
def PySem.W.Fast.tw3427288285780450948:Unit:=()
def PySem.W.Fast.tw949622029300475894:Unit:=()
def PySem.W.Fast.tw674104716169891052:Unit:=()
def PySem.W.Fast.tw15332788251021073564:Unit:=()
def PySem.W.Fast.tw9536280633932561352:Unit:=()
def PySem.W.Fast.tw15673828601685082851:Unit:=()
open PySem PySem.W PyProof.Rows L2
set_option maxRecDepth 100000 in
set_option maxHeartbeats 0 in
theorem PySem.Challenge.cw_gaugewright_k64_tables_held_holds : PySem.Challenge.rw_gaugewright_k64_tables_held.Holds := by
 w_on; o_law; k_head; (case hw=>w_witness2)
 k_fill
 refine L2.walk_law (l := PySem.Challenge.rw_gaugewright_k64_tables_held) (k := 7) rfl rfl ⟨rfl, by decide, by decide⟩ (fun w h Y => PySem.W.kIn_of Y) ?F
 case F =>
  intro w mg fa h KX G hmg
  have d_law_cell_at:Dd (L2.KOf KX) mg "_law_cell_at" My.s_law_cell_at ["script","k"]:=by
   dsimp only [L2.KOf]
   refine' Dd.mk' KX G ?a ?l ?c ?k ?b
   (case a=>k_is); (case l=>k_is); (case c=>k_is); (case k=>k_is); (case b=>intro _ _ _ _ _ _ us hl; obtain ⟨_,_,rfl⟩:=L2.len2 hl; rfl)
  have d_law_pen:Dd (L2.KOf KX) mg "_law_pen" My.s_law_pen ["cell"]:=by
   dsimp only [L2.KOf]
   refine' Dd.mk' KX G ?a ?l ?c ?k ?b
   (case a=>k_is); (case l=>k_is); (case c=>k_is); (case k=>k_is); (case b=>intro _ _ _ _ _ _ us hl; obtain ⟨_,rfl⟩:=L2.len1 hl; rfl)
  have d_law_next:Dd (L2.KOf KX) mg "_law_next" My.s_law_next ["seed"]:=by
   dsimp only [L2.KOf]
   refine' Dd.mk' KX G ?a ?l ?c ?k ?b
   (case a=>k_is); (case l=>k_is); (case c=>k_is); (case k=>k_is); (case b=>intro _ _ _ _ _ _ us hl; obtain ⟨_,rfl⟩:=L2.len1 hl; rfl)
  have d_law_draw:Dd (L2.KOf KX) mg "_law_draw" My.s_law_draw ["pen","many"]:=by
   dsimp only [L2.KOf]
   refine' Dd.mk' KX G ?a ?l ?c ?k ?b
   (case a=>k_is); (case l=>k_is); (case c=>k_is); (case k=>k_is); (case b=>intro _ _ _ _ _ _ us hl; obtain ⟨_,_,rfl⟩:=L2.len2 hl; rfl)
  have d_law_shims:Dd (L2.KOf KX) mg "_law_shims" My.s_law_shims ["pen"]:=by
   dsimp only [L2.KOf]
   refine' Dd.mk' KX G ?a ?l ?c ?k ?b
   (case a=>k_is); (case l=>k_is); (case c=>k_is); (case k=>k_is); (case b=>intro _ _ _ _ _ _ us hl; obtain ⟨_,rfl⟩:=L2.len1 hl; rfl)
  have d_law_number:Dd (L2.KOf KX) mg "_law_number" My.s_law_number ["pen"]:=by
   dsimp only [L2.KOf]
   refine' Dd.mk' KX G ?a ?l ?c ?k ?b
   (case a=>k_is); (case l=>k_is); (case c=>k_is); (case k=>k_is); (case b=>intro _ _ _ _ _ _ us hl; obtain ⟨_,rfl⟩:=L2.len1 hl; rfl)
  have d_law_way:Dd (L2.KOf KX) mg "_law_way" My.s_law_way ["pen","far"]:=by
   dsimp only [L2.KOf]
   refine' Dd.mk' KX G ?a ?l ?c ?k ?b
   (case a=>k_is); (case l=>k_is); (case c=>k_is); (case k=>k_is); (case b=>intro _ _ _ _ _ _ us hl; obtain ⟨_,_,rfl⟩:=L2.len2 hl; rfl)
  have d_law_first_row:Dd (L2.KOf KX) mg "_law_first_row" My.s_law_first_row ["number","span"]:=by
   dsimp only [L2.KOf]
   refine' Dd.mk' KX G ?a ?l ?c ?k ?b
   (case a=>k_is); (case l=>k_is); (case c=>k_is); (case k=>k_is); (case b=>intro _ _ _ _ _ _ us hl; obtain ⟨_,_,rfl⟩:=L2.len2 hl; rfl)
  have d_law_next_row:Dd (L2.KOf KX) mg "_law_next_row" My.s_law_next_row ["shims","row","top"]:=by
   dsimp only [L2.KOf]
   refine' Dd.mk' KX G ?a ?l ?c ?k ?b
   (case a=>k_is); (case l=>k_is); (case c=>k_is); (case k=>k_is); (case b=>intro _ _ _ _ _ _ us hl; obtain ⟨_,_,_,rfl⟩:=L2.len3 hl; rfl)
  have d_law_hits:Dd (L2.KOf KX) mg "_law_hits" My.s_law_hits ["number","span","row"]:=by
   dsimp only [L2.KOf]
   refine' Dd.mk' KX G ?a ?l ?c ?k ?b
   (case a=>k_is); (case l=>k_is); (case c=>k_is); (case k=>k_is); (case b=>intro _ _ _ _ _ _ us hl; obtain ⟨_,_,_,rfl⟩:=L2.len3 hl; rfl)
  have d_law_table:Dd (L2.KOf KX) mg "_law_table" My.s_law_table ["shims","number","span"]:=by
   dsimp only [L2.KOf]
   refine' Dd.mk' KX G ?a ?l ?c ?k ?b
   (case a=>k_is); (case l=>k_is); (case c=>k_is); (case k=>k_is); (case b=>intro _ _ _ _ _ _ us hl; obtain ⟨_,_,_,rfl⟩:=L2.len3 hl; rfl)
  have d_most_rise:Dd (L2.KOf KX) mg "most_rise" My.s_most_rise ["number","span"]:=by
   dsimp only [L2.KOf]
   refine' Dd.mk' KX G ?a ?l ?c ?k ?b
   (case a=>k_is); (case l=>k_is); (case c=>k_is); (case k=>k_is); (case b=>intro _ _ _ _ _ _ us hl; obtain ⟨_,_,rfl⟩:=L2.len2 hl; rfl)
  have d_first_row:Dd (L2.KOf KX) mg "first_row" My.s_first_row ["most"]:=by
   dsimp only [L2.KOf]
   refine' Dd.mk' KX G ?a ?l ?c ?k ?b
   (case a=>k_is); (case l=>k_is); (case c=>k_is); (case k=>k_is); (case b=>intro _ _ _ _ _ _ us hl; obtain ⟨_,rfl⟩:=L2.len1 hl; rfl)
  have d_stacks_that_do:Dd (L2.KOf KX) mg "stacks_that_do" My.s_stacks_that_do ["row","number","span"]:=by
   dsimp only [L2.KOf]
   refine' Dd.mk' KX G ?a ?l ?c ?k ?b
   (case a=>k_is); (case l=>k_is); (case c=>k_is); (case k=>k_is); (case b=>intro _ _ _ _ _ _ us hl; obtain ⟨_,_,_,rfl⟩:=L2.len3 hl; rfl)
  have d_next_row:Dd (L2.KOf KX) mg "next_row" My.s_next_row ["shims","row","most"]:=by
   dsimp only [L2.KOf]
   refine' Dd.mk' KX G ?a ?l ?c ?k ?b
   (case a=>k_is); (case l=>k_is); (case c=>k_is); (case k=>k_is); (case b=>intro _ _ _ _ _ _ us hl; obtain ⟨_,_,_,rfl⟩:=L2.len3 hl; rfl)
  have d_rows_to_the_end:Dd (L2.KOf KX) mg "rows_to_the_end" My.s_rows_to_the_end ["shims","number","span"]:=by
   dsimp only [L2.KOf]
   refine' Dd.mk' KX G ?a ?l ?c ?k ?b
   (case a=>k_is); (case l=>k_is); (case c=>k_is); (case k=>k_is); (case b=>intro _ _ _ _ _ _ us hl; obtain ⟨_,_,_,rfl⟩:=L2.len3 hl; rfl)
  have d_sums_of:Dd (L2.KOf KX) mg "sums_of" My.s_sums_of ["row"]:=by
   dsimp only [L2.KOf]
   refine' Dd.mk' KX G ?a ?l ?c ?k ?b
   (case a=>k_is); (case l=>k_is); (case c=>k_is); (case k=>k_is); (case b=>intro _ _ _ _ _ _ us hl; obtain ⟨_,rfl⟩:=L2.len1 hl; rfl)
  have d_table_of:Dd (L2.KOf KX) mg "table_of" My.s_table_of ["shims","number","span"]:=by
   dsimp only [L2.KOf]
   refine' Dd.mk' KX G ?a ?l ?c ?k ?b
   (case a=>k_is); (case l=>k_is); (case c=>k_is); (case k=>k_is); (case b=>intro _ _ _ _ _ _ us hl; obtain ⟨_,_,_,rfl⟩:=L2.len3 hl; rfl)
  have d_law_whole:Dd (L2.KOf KX) mg "_law_whole" My.s_law_whole ["found"]:=by
   dsimp only [L2.KOf]
   refine' Dd.mk' KX G ?a ?l ?c ?k ?b
   (case a=>k_is); (case l=>k_is); (case c=>k_is); (case k=>k_is); (case b=>intro _ _ _ _ _ _ us hl; obtain ⟨_,rfl⟩:=L2.len1 hl; rfl)
  have d_law_told:Dd (L2.KOf KX) mg "_law_told" My.s_law_told ["shims","number","span","due"]:=by
   dsimp only [L2.KOf]
   refine' Dd.mk' KX G ?a ?l ?c ?k ?b
   (case a=>k_is); (case l=>k_is); (case c=>k_is); (case k=>k_is); (case b=>intro _ _ _ _ _ _ us hl; obtain ⟨_,_,_,_,rfl⟩:=L2.len4 hl; rfl)
  have d_law_odd_row:Dd (L2.KOf KX) mg "_law_odd_row" My.s_law_odd_row ["row","pen"]:=by
   dsimp only [L2.KOf]
   refine' Dd.mk' KX G ?a ?l ?c ?k ?b
   (case a=>k_is); (case l=>k_is); (case c=>k_is); (case k=>k_is); (case b=>intro _ _ _ _ _ _ us hl; obtain ⟨_,_,rfl⟩:=L2.len2 hl; rfl)
  have d_law_odd:Dd (L2.KOf KX) mg "_law_odd" My.s_law_odd ["table","pen"]:=by
   dsimp only [L2.KOf]
   refine' Dd.mk' KX G ?a ?l ?c ?k ?b
   (case a=>k_is); (case l=>k_is); (case c=>k_is); (case k=>k_is); (case b=>intro _ _ _ _ _ _ us hl; obtain ⟨_,_,rfl⟩:=L2.len2 hl; rfl)
  have d_is_whole:Dd (L2.KOf KX) mg "is_whole" My.s_is_whole ["thing"]:=by
   dsimp only [L2.KOf]
   refine' Dd.mk' KX G ?a ?l ?c ?k ?b
   (case a=>k_is); (case l=>k_is); (case c=>k_is); (case k=>k_is); (case b=>intro _ _ _ _ _ _ us hl; obtain ⟨_,rfl⟩:=L2.len1 hl; rfl)
  have d_is_same:Dd (L2.KOf KX) mg "is_same" My.s_is_same ["thing","numbers"]:=by
   dsimp only [L2.KOf]
   refine' Dd.mk' KX G ?a ?l ?c ?k ?b
   (case a=>k_is); (case l=>k_is); (case c=>k_is); (case k=>k_is); (case b=>intro _ _ _ _ _ _ us hl; obtain ⟨_,_,rfl⟩:=L2.len2 hl; rfl)
  have d_table_holds:Dd (L2.KOf KX) mg "table_holds" My.s_table_holds ["shims","number","span","many","thing"]:=by
   dsimp only [L2.KOf]
   refine' Dd.mk' KX G ?a ?l ?c ?k ?b
   (case a=>k_is); (case l=>k_is); (case c=>k_is); (case k=>k_is); (case b=>intro _ _ _ _ _ _ us hl; obtain ⟨_,_,_,_,_,rfl⟩:=L2.len5 hl; rfl)
  have d_law_due:Dd (L2.KOf KX) mg "_law_due" My.s_law_due ["shims","number","span","many","thing"]:=by
   dsimp only [L2.KOf]
   refine' Dd.mk' KX G ?a ?l ?c ?k ?b
   (case a=>k_is); (case l=>k_is); (case c=>k_is); (case k=>k_is); (case b=>intro _ _ _ _ _ _ us hl; obtain ⟨_,_,_,_,_,rfl⟩:=L2.len5 hl; rfl)
  have d_law_held:Dd (L2.KOf KX) mg "_law_held" My.s_law_held ["shims","number","span","many","thing"]:=by
   dsimp only [L2.KOf]
   refine' Dd.mk' KX G ?a ?l ?c ?k ?b
   (case a=>k_is); (case l=>k_is); (case c=>k_is); (case k=>k_is); (case b=>intro _ _ _ _ _ _ us hl; obtain ⟨_,_,_,_,_,rfl⟩:=L2.len5 hl; rfl)
  have d_law:Dd (L2.KOf KX) mg "law" My.s_law ["script"]:=by
   dsimp only [L2.KOf]
   refine' Dd.mk' KX G ?a ?l ?c ?k ?b
   (case a=>k_is); (case l=>k_is); (case c=>k_is); (case k=>k_is); (case b=>intro _ _ _ _ _ _ us hl; obtain ⟨_,rfl⟩:=L2.len1 hl; rfl)
  have g13:∃ t,mg "MOST_RISE" = some (.int 200 t):=by
   apply Exists.intro
   apply PySem.W.mg_of KX G
   k_is
  have T:My.Txt mg:=by
   refine' ⟨PySem.W.mg_none_of KX G ?z0,PySem.W.mg_none_of KX G ?z1,PySem.W.mg_none_of KX G ?z2,PySem.W.mg_none_of KX G ?z3,PySem.W.mg_none_of KX G ?z4,PySem.W.mg_none_of KX G ?z5,PySem.W.mg_none_of KX G ?z6,PySem.W.mg_none_of KX G ?z7,PySem.W.mg_none_of KX G ?z8,PySem.W.mg_none_of KX G ?z9,PySem.W.mg_none_of KX G ?z10,PySem.W.mg_none_of KX G ?z11,PySem.W.mg_none_of KX G ?z12,g13⟩
   (case z0=>k_is); (case z1=>k_is); (case z2=>k_is); (case z3=>k_is); (case z4=>k_is); (case z5=>k_is); (case z6=>k_is); (case z7=>k_is); (case z8=>k_is); (case z9=>k_is); (case z10=>k_is); (case z11=>k_is); (case z12=>k_is)
  have dd:My.Dds (L2.KOf KX) mg:=⟨d_law_cell_at,d_law_pen,d_law_next,d_law_draw,d_law_shims,d_law_number,d_law_way,d_law_first_row,d_law_next_row,d_law_hits,d_law_table,d_most_rise,d_first_row,d_stacks_that_do,d_next_row,d_rows_to_the_end,d_sums_of,d_table_of,d_law_whole,d_law_told,d_law_odd_row,d_law_odd,d_is_whole,d_is_same,d_table_holds,d_law_due,d_law_held⟩
  obtain ⟨f,fd,F,hm,_⟩:=d_law.ex
  have e0:=hmg.symm.trans hm
  cases e0
  exact ⟨fd,F.bind1 fun _ _ _ _ _ _ _=>rfl,fun base _ _=>My.ok_law F T dd⟩
#print axioms PySem.Challenge.cw_gaugewright_k64_tables_held_holds
end