import PyProof.Rows.All
import Wide.All
import OpenK.AllK
import Wide.FinOn
import Lean
import PyProof.EqAt
import PyProof.EqKinds
import PyProof.TupleCall
import KE.KTupSum
import KE.KSortTup
import PyProof.SetKind
import PyProof.SetRoads
import PyProof.SetNew
import PyProof.DictKinds
import PyProof.NsDelKeeps
import PyProof.StrWalks
import KE.KEqDict
import KE.KDictList
import PyProof.AttrMissSeq
import PyProof.WalksMore
import KE.KDictOf
import PyProof.Rows.Range3
import KE.KItemsList
import PyProof.FactsAll.dict_3
import KE.KMinKey
import PyProof.Rows.CallKwBuiltin
import PyProof.TupleOfSeq
import KE.KLam
import KE.KNestM
import PyProof.Rows.StrNews
import KE.KIntText
import PyProof.TupleKey
import PyProof.DictFindH
import PyProof.DictRoadsH
import PyProof.DictItems
import PyProof.Rows.TupTab
import Wide.Seal
import PyProof.DictValues
import PySem.Challenge.RW_gaugewright_k07_whole_all_sets
open Bool renaming false_ne_true→gc,and_eq_true→gx
open Exists renaming intro→lz
open False renaming elim→dh
open ForInStep renaming yield→kj
open Int renaming eq_ofNat_of_zero_le→ia,emod_lt_of_pos→jd,emod_nonneg→jg,toNat_of_nonneg→jr,natCast_mul→lq
open List renaming replicate→bh,getElem?_concat_length→bp,length_append→bx,mem_append_right→cb,mem_cons_of_mem→ck,size_toArray→cm,mem_of_getElem?→cn,length_map→cp,getElem?_append_left→cr,mem_cons_self→dm,getElem?_eq_getElem→eg,not_mem_nil→fi,length_singleton→fj,length_cons→fm,mem_append_left→fq,range→fy,getElem?_map→gf,eq_nil_of_length_eq_zero→gj,append_nil→gu,mem_cons→gy,lookup_cons→ik,map_cons→im,length_take→jl,Nodup→jp,replicate_succ→ju,lookup→jw,map_append→kg,getElem?_set_self→kq,reverse_cons→ky,getElem?_set_ne→lh,take_length→lx
open Nat renaming le_refl→cq,lt_of_lt_of_le→ef,le_trans→gg,ne_of_lt→ie,lt_irrefl→iy,le_of_lt→ji
open Ne renaming symm→dy
open Option.some renaming inj→fe
open Or renaming inl→gv
open PyProof.Rows renaming callWith_type1→fz,envOfC→gh
open PySem renaming wpAny_bind→bb,Value→bc,Shared→bd,PyData→be,wpAny_pure→bo,wpAny→bq,sizeLine→bt,starEach→bv,Program→bw,Around→cw,wpAny_field→cy,World→df,wpAny_newObj_type→fg,bootBuiltins→fk,wpAny_callSpecial?_slot→fr,wpAny_loadPart_at→gb,wpAny_passesOwn→gm,wpAny_mono→gr,wpAny_call_entry→gw,wpAny_holding→ic,wpAny_seqItems→ig,wpAny_setField→ii,wpAny_Call_Name_kw→io,binaryOp→ip,FuncData→iq,assignEach→iu,rawInt→ix,wpAny_setField_rec→jc,Builtin→je,builtinLookup_eq_fast→jf,mainGlobals→jh,wpAny_truthy_bool→jj,NameKind→jk,backTo→js,sizeLine_eq→jv,IsPair→ke,wpAny_execs_nil→kh,compareOp→km,wpAny_attempt→ko,firstArgMember→kr,codeAny→ku,codeAny_mono→kv,wpAny_standAt→kz,attributeBase→lg,typeLookup_type→ln,sliceBounds→lw
open PySem.Builtin.Range renaming rangeSize→ib
open PySem.Builtin.SmallTypes renaming nextOf→dn
open PySem.Heap renaming get?_push_of_some→bg,get?_push_size→bu,lt_size→cv,SameBut→fc,get?_update_self→ft,get?_update_other→fu
open PySem.Heap.SameBut renaming update→jq
open PySem.Obj renaming data_mapFields→ge,isFreed_of_fields→gi,mapFields→gk,mapSeq→jo
open PySem.PassesOwn renaming never→fx
open PySem.PyData renaming int→cz,canLayAll0→ir,canLay0→ja,eqv→jb,bool→jm,str→jy,depthAll→kl
open PySem.SeqAt renaming shaped→dq,canLay_of_shaped→fw
open PySem.Str renaming ofString→jx
open PySem.Value renaming ref→cg,none→cu,type→ls
open PySem.W renaming Frag→bn,mg_none_of→gq,kia_one→jt,keepIn→ki,cellsFrom_some→kx,findIn→lc,mg_of→li,fnOf→ly,clsIn→me
open True renaming intro→lu
def cf:=@if_neg
def dw:=@if_pos
def gl:=@decide_eq_false
theorem yw{p:Prop}(h:p:=by omega):p:=h
theorem yv{p:Prop}(h:p:=by simp):p:=h
open Option (isSome_iff_exists map_eq_some_iff map_some)
open Nat (le_of_lt le_refl le_succ le_trans lt_irrefl lt_of_lt_of_le mul_comm ne_of_gt ne_of_lt zero_add zero_le)
open List (all_cons all_eq_true append_assoc append_nil cons_append eq_nil_of_length_eq_zero flatten_cons foldl_cons forIn_cons getElem?_append_left getElem?_concat_length getElem?_cons_succ getElem?_cons_zero getElem?_eq_getElem getElem?_map getElem?_set_ne getElem?_set_self getElem_mem length_append length_cons length_drop length_map length_nil length_reverse length_set length_singleton length_take lookup_cons map_append map_cons map_map map_nil map_reverse mem_append mem_append_left mem_append_right mem_cons mem_cons_of_mem mem_cons_self mem_filter mem_iff_getElem? mem_map mem_of_getElem? mem_of_mem_take mem_range mem_reverse mem_singleton nil_append nodup_append nodup_cons nodup_nil not_mem_nil of_mem_zip replicate_succ reverse_cons set_cons_succ set_cons_zero size_toArray take_append_drop take_length take_zero zip_cons_cons)
open PySem.Heap (get?_push_of_some get?_push_size get?_update_ne get?_update_other get?_update_self lt_size size_push)
open Array (length_toList)
theorem dz{p:Prop}[Decidable p](h:decide p=true:=by rfl):p:=of_decide_eq_true h
set_option Elab.async false
set_option linter.all false
set_option maxRecDepth 100000
set_option maxHeartbeats 8000000
noncomputable section
namespace L2
open PySem PySem.Spec PyProof.Rows
section
abbrev Key:=Sum Int Str
def xY:Key->bc->Bool
 | .inl k,v=>Value.isInt k v
 | .inr x,v=>Value.isStrOf x v
def Bd(w:df):Key->Int
 | .inl k=>hashInt k
 | .inr x=>hashStr w x
theorem d8:∀{k:Key}{v:bc},xY k v=true->(∃i t,k=Sum.inl i/\v=Value.int i t)\/(∃x t,k=Sum.inr x/\v=Value.str x t)
 | .inl i,v,h=>by
  obtain⟨t,e⟩:=Value.isInt_shape (k:=i) (v:=v) h;exact .inl ⟨i,t,rfl,e⟩
 | .inr x,v,h=>by
  obtain⟨t,e⟩:=Value.isStrOf_shape (x:=x) (v:=v) h;exact .inr ⟨x,t,rfl,e⟩
theorem FX(a b:Int):decide ((Sum.inl a:Key)=Sum.inl b)=(a==b):=by
 by_cases e:a=b
 ·subst e;simp
 ·have h:¬(Sum.inl a:Key)=Sum.inl b:=fun q=>e (Sum.inl.inj q);rw[gl h];exact(beq_eq_false_iff_ne.mpr e).symm
theorem C7(a b:Str):decide ((Sum.inr a:Key)=Sum.inr b)=decide (a=b):=by
 by_cases e:a=b
 ·subst e;simp
 ·have h:¬(Sum.inr a:Key)=Sum.inr b:=fun q=>e (Sum.inr.inj q);rw[gl h,gl e]
theorem CL(a:Int)(b:Str):decide ((Sum.inl a:Key)=Sum.inr b)=false:=gl (fun q=>nomatch q)
theorem EW(a:Str)(b:Int):decide ((Sum.inr a:Key)=Sum.inl b)=false:=gl (fun q=>nomatch q)
def pF(prog:bw)(w:df):PySem.KeyKind prog w Key where
 is:=xY
 hash:=Bd w
 inj:=fun v a b ha hb=>by
  rcases d8 ha with ⟨i,t,rfl,rfl⟩|⟨x,t,rfl,rfl⟩
  ·rcases d8 hb with ⟨j,u,rfl,e⟩|⟨y,u,rfl,e⟩
   ·injection e with e1 _;rw[e1]
   ·exact nomatch e
  ·rcases d8 hb with ⟨j,u,rfl,e⟩|⟨y,u,rfl,e⟩
   ·exact nomatch e
   ·injection e with e1 _;rw[e1]
 byValue:=fun k v h=>by
  rcases d8 h with ⟨i,t,rfl,rfl⟩|⟨x,t,rfl,rfl⟩<;>rfl
 pyHash:=fun hv h=>by
  rcases d8 hv with ⟨i,t,rfl,rfl⟩|⟨x,t,rfl,rfl⟩
  ·exact wpAny_pyHash_int h
  ·exact wpAny_pyHash_str h
 eqBool:=fun hu hv h=>by
  rcases d8 hu with ⟨i,t,rfl,rfl⟩|⟨x,t,rfl,rfl⟩
  ·rcases d8 hv with ⟨j,u,rfl,rfl⟩|⟨y,u,rfl,rfl⟩
   ·rw[FX]at h;exact wpAny_eqBool_int h
   ·rw[CL]at h;exact SeqAt.EqAt.int_str i t y u _ _ _ _ h
  ·rcases d8 hv with ⟨j,u,rfl,rfl⟩|⟨y,u,rfl,rfl⟩
   ·rw[EW]at h;exact SeqAt.EqAt.str_int x t j u _ _ _ _ h
   ·rw[C7]at h;exact wpAny_eqBool_str h
 «strs»:=fun k x t v h=>by
  rcases d8 h with ⟨i,u,rfl,e⟩|⟨y,u,rfl,e⟩
  ·exact nomatch e
  ·injection e with e1 _
   subst e1;cases v<;>rfl
end
section
inductive V where
 |non|bl (b:Bool)|int (i:Int)|str (x:Str)|byt (b:Array UInt8)|flt (b:UInt64)|ref (a:Addr)|ty (n:String)
 deriving DecidableEq
def RelV:V->bc->Prop
 | .non,u=>u=cu
 | .bl b,u=>u=Value.bool b
 | .int i,u=>∃t,u=Value.int i t
 | .str x,u=>∃t,u=Value.str x t
 | .byt b,u=>∃t,u=Value.bytes b t
 | .flt b,u=>∃t,u=Value.float b t
 | .ref a,u=>u=cg a
 | .ty n,u=>u=ls n
abbrev Vals:List V->List bc->Prop:=Paired RelV
theorem Vals.length{xs:List V}{us:List bc}(r:Vals xs us):xs.length=us.length:=Paired.length r
theorem Vals.get:∀{xs:List V}{us:List bc}{i:Nat}{x:V},Vals xs us->xs[i]?=some x->∃u,us[i]?=some u/\RelV x u
 |_,_,_,_,.nil,e=>by simp at e
 |_,_,0,_,.cons r _,e=>by simp at e;subst e;exact⟨_,rfl,r⟩
 |_,_,i+1,x,.cons _ t,e=>by
  obtain⟨u,h1,h2⟩:=Vals.get (i:=i) (x:=x) t (by simpa using e);exact⟨u,by simpa using h1,h2⟩
theorem Vals.set{x:V}{u:bc}(r:RelV x u):∀{xs:List V}{us:List bc} (i:Nat),Vals xs us->Vals (xs.set i x) (us.set i u)
 |_,_,_,.nil=>.nil
 |_,_,0,.cons _ t=>.cons r t
 |_,_,i+1,.cons q t=>.cons q (Vals.set r i t)
theorem Vals.append:∀{xs ys:List V}{us ws:List bc},Vals xs us->Vals ys ws->Vals (xs++ys) (us++ws)
 |_,_,_,_,.nil,s=>s
 |_,_,_,_,.cons r t,s=>.cons r (Vals.append t s)
theorem Vals.take:∀{xs:List V}{us:List bc} (n:Nat),Vals xs us->Vals (xs.take n) (us.take n)
 |_,_,0,_=>.nil
 |_,_,_+1,.nil=>.nil
 |_,_,n+1,.cons r t=>.cons r (Vals.take n t)
theorem Vals.drop:∀{xs:List V}{us:List bc} (n:Nat),Vals xs us->Vals (xs.drop n) (us.drop n)
 |_,_,0,r=>r
 |_,_,_+1,.nil=>.nil
 |_,_,n+1,.cons _ t=>Vals.drop n t
def RelO:Option V->Option bc->Prop
 |some v,some u=>RelV v u
 |none,none=>True
 |_,_=>False
def KV{κ:Type}:List (κ×V)->List (κ×bc)->Prop:=Paired fun(p:κ×V) (q:κ×bc)=>p.1=q.1/\RelV p.2 q.2
def kV:Key->V
 | .inl i=>.int i
 | .inr x=>.str x
inductive HO where
 |lst (xs:List V)
 |tup (xs:List V)
 |dK (kvs:List (Key×V))|dT (kvs:List (List Key×V))
 |set (S:Int->Bool) (n:Nat)
 |ins (C dx:Addr) (fs:List (Str×V))
 |own (x:Addr)
 |xd (fs:List (Str×V))
 |met (f x:Addr)
 |rng (lo hi:Int)
 |frz (o:Obj) (u:HO)
 |tbl (ps:Array bc)
 |ext (φ:Heap->Prop)
abbrev Hp:=Addr->Option HO
def upd(H:Hp)(a:Addr)(o:HO):Hp:=fun b=>if b=a then some o else H b
theorem zJ{H:Hp}{a:Addr}{o:HO}:upd H a o a=some o:=by unfold upd;rw[dw rfl]
theorem zu{H:Hp}{a b:Addr}{o:HO}(h:b≠a):upd H a o b=H b:=by unfold upd;rw[cf h]
theorem ER{H:Hp}{a:Addr}{o u:HO}:upd (upd H a o) a u=upd H a u:=by
 funext b;unfold upd;split<;>rfl
theorem zr{H:Hp}{a b:Addr}{o:HO}(h:H a=some o)(h':H b=none):a≠b:=by
 intro e;subst e;rw[h]at h';cases h'
def TblOk(H:Hp)(ps qs:Array bc):Prop:=qs = #[]\/∃(l c:bc) (q:Str) (t:Tok) (k:Addr) (oc:Obj) (vs:Array bc) (t':Tok),ps = #[l,c,.str q t]/\qs = #[l,c,.ref k]/\H k=some (.frz oc (.own 0))/\oc.data=.fields vs/\vs[1]?=some (.str q t')
theorem TblOk.stay{H H':Hp}{ps qs:Array bc}(x:TblOk H ps qs)(hf:∀b o u,H b=some (.frz o u)->H' b=some (.frz o u)):TblOk H' ps qs:=by
 rcases x with x|⟨l,c,q,t,k,oc,vs,t',e1,e2,e3,r⟩
 ·exact .inl x
 ·exact .inr ⟨l,c,q,t,k,oc,vs,t',e1,e2,hf _ _ _ e3,r⟩
section
variable (P:bw) (w:df)
def ObjOk(H:Hp)(h:Heap)(a:Addr):HO->Prop
 | .lst xs=>xs.length<=bt/\∃(its:List bc) (n:Nat),Vals xs its/\h.get? a=some { cls:=.type "list",data:=.seq its.toArray n }
 | .tup xs=>(xs.length<=bt/\∃o:Obj,h.get? a=some o/\o.dict=none)/\∃its:List bc,Vals xs its/\IsTup h a its.toArray
 | .dK kvs=>kvs.length<=bt/\(a==sysModules)=false/\∃vs,KV kvs vs/\h.DictOf (pF P w) a vs
 | .dT kvs=>kvs.length<=bt/\(a==sysModules)=false/\∃xs:List (List Key×Addr×bc),
   Paired (fun(p:List Key×V) (q:List Key×Addr×bc)=>p.1=q.1/\H q.2.1=some (.tup (p.1.map kV))/\RelV p.2 q.2.2) kvs xs /\
   ∃o es ep,h.get? a=some o/\o.ExactDict/\o.data=.dict es ep/\es.toList=xs.map (entryOfKey (tupleKind (pF P w)))/\(xs.map (·.1)).Nodup
 | .set S n=>h.SetOf (intKind P w) a S n
 | .ins C dx fs=>H dx=some (.own a)/\fs.length<=1000/\dx≠a/\h.get? a=some (W.instObj C dx) /\
   ∃mA,h.Ns1 dx mA/\(∀f,RelO (fs.lookup f) (mA f))/\PySem.Within mA (fs.map (·.1))
 | .own _=>∃o,h.get? a=some o
 | .xd fs=>∃mA,h.Ns1 a mA/\∀f,RelO (fs.lookup f) (mA f)
 | .rng lo hi=>∃t u v,h.get? a=some { cls:=.type "range",data:=.fields #[.int lo t,.int hi u,.int 1 v] }
 | .frz o u=>h.get? a=some o/\ObjOk H h a u
 | .tbl ps=>∃qs:Array bc,h.get? a=some { cls:=.none,data:=.fields qs }/\TblOk H ps qs
 | .met f x=>h.get? a=some (W.methodObj (.ref f) (.ref x))
 | .ext φ=>φ h/\(∃o,h.get? a=some o)/\∀h1 h2:Heap,φ h1->(∀o,h1.get? a=some o->h2.get? a=some o)->φ h2
def HOk(H:Hp)(h:Heap):Prop:=∀a o,H a=some o->ObjOk P w H h a o
end
section
variable {P:bw}{w:df}{H H':Hp}{h h':Heap}{a:Addr}{o:HO}
theorem ObjOk.lt(x:ObjOk P w H h a o):a<h.objs.size:=by
 cases o with
 |lst xs=>obtain⟨_,_,_,_,e⟩:=x;exact cv e
 |tup xs=>obtain⟨_,_,_,p⟩:=x;exact p.lt
 |dK kvs=>obtain⟨_,_,_,_,o,_,_,e,_⟩:=x;exact cv e
 |dT kvs=>obtain⟨_,_,_,_,o,_,_,e,_⟩:=x;exact cv e
 |set S n=>obtain⟨o,_,_,_,e,_⟩:=x;exact cv e
 |ins C dx fs=>obtain⟨_,_,_,e,_⟩:=x;exact cv e
 |own y=>obtain⟨_,e⟩:=x;exact cv e
 |xd fs=>obtain⟨_,⟨_,_,_,e,_⟩,_⟩:=x;exact cv e
 |rng lo hi=>obtain⟨_,_,_,e⟩:=x;exact cv e
 |frz ob u=>obtain⟨e,_⟩:=x;exact cv e
 |tbl ps=>obtain⟨_,e,_⟩:=x;exact cv e
 |met f y=>exact cv (show h.get? a=some _ from x)
 |ext φ=>obtain⟨_,⟨_,e⟩,_⟩:=x;exact cv e
theorem Paired.mapP{α β:Type}{F G:α->β->Prop}:∀{l₁:List α}{l₂:List β},Paired F l₁ l₂->(∀a b,F a b->G a b)->Paired G l₁ l₂
 |_,_,.nil,_=>.nil
 |_,_,.cons r t,f=>.cons (f _ _ r) (Paired.mapP t f)
theorem ObjOk.stay(x:ObjOk P w H h a o)(k:∀b u,(b=a\/H b=some (.own a))->h.get? b=some u->h'.get? b=some u)
  (ho:∀b,H b=some (.own a)->H' b=some (.own a)) (ht:∀b xs,H b=some (.tup xs)->H' b=some (.tup xs))
  (hf:∀b o u,H b=some (.frz o u)->H' b=some (.frz o u):=by first|exact fun _ _ _ q=>q|(intro b o u q;rw[zu (zr q (by assumption))];exact q)):ObjOk P w H' h' a o:=by
 induction o with
 |lst xs=>obtain⟨z,aa,n,r,e⟩:=x;exact⟨z,aa,n,r,k _ _ (.inl rfl) e⟩
 |tup xs=>obtain⟨⟨z,o2,e2,d2⟩,aa,r,ob,e,c⟩:=x;exact⟨⟨z,o2,k _ _ (.inl rfl) e2,d2⟩,aa,r,ob,k _ _ (.inl rfl) e,c⟩
 |dK kvs=>obtain⟨z,y,vs,r,ob,es,ep,e,c⟩:=x;exact⟨z,y,vs,r,ob,es,ep,k _ _ (.inl rfl) e,c⟩
 |dT kvs=>
  obtain⟨z,y,xs,r,ob,es,ep,e,c⟩:=x;exact⟨z,y,xs,Paired.mapP r fun p q z=>⟨z.1,ht _ _ z.2.1,z.2.2⟩,ob,es,ep,k _ _ (.inl rfl) e,c⟩
 |set S n=>obtain⟨ob,es,ep,t,e,c⟩:=x;exact⟨ob,es,ep,t,k _ _ (.inl rfl) e,c⟩
 |ins C dx fs=>
  obtain⟨d,z,ne,e,mA,⟨od,es,ep,e2,c⟩,r⟩:=x;exact⟨ho _ d,z,ne,k _ _ (.inl rfl) e,mA,⟨od,es,ep,k _ _ (.inr d) e2,c⟩,r⟩
 |own y=>obtain⟨ob,e⟩:=x;exact⟨ob,k _ _ (.inl rfl) e⟩
 |xd fs=>obtain⟨mA,⟨od,es,ep,e,c⟩,r⟩:=x;exact⟨mA,⟨od,es,ep,k _ _ (.inl rfl) e,c⟩,r⟩
 |rng lo hi=>obtain⟨t,u,v,e⟩:=x;exact⟨t,u,v,k _ _ (.inl rfl) e⟩
 |frz ob u ih=>obtain⟨e,q⟩:=x;exact⟨k _ _ (.inl rfl) e,ih q⟩
 |tbl ps=>
  obtain⟨qs,e,q⟩:=x;exact⟨qs,k a _ (.inl rfl) e,q.stay hf⟩
 |met f y=>
  have e:h.get? a=some (W.methodObj (.ref f) (.ref y)):=x;show h'.get? a=some (W.methodObj (.ref f) (.ref y));exact k a _ (.inl rfl) e
 |ext φ=>obtain⟨p,⟨o,e⟩,st⟩:=x;exact⟨st _ _ p fun o q=>k _ _ (.inl rfl) q,⟨o,k _ _ (.inl rfl) e⟩,st⟩
theorem HOk.lt(x:HOk P w H h)(e:H a=some o):a<h.objs.size:=(x a o e).lt
theorem HOk.fresh(x:HOk P w H h)(e:h.objs.size<=a):H a=none:=by
 cases q:H a with
 |none=>rfl
 |some u=>exact absurd (ef (x.lt q) e) (iy _)
theorem HOk.kept(x:HOk P w H h)(k:∀b u,h.get? b=some u->h'.get? b=some u):HOk P w H h':=fun a o e=>
 (x a o e).stay (fun b u _ q=>k b u q) (fun _ q=>q) fun _ _ q=>q
theorem HOk.laid(x:HOk P w H h)(k:∀b u,h.get? b=some u->h'.get? b=some u)(hp:h.objs.size<=a)(p:ObjOk P w (upd H a o) h' a o):HOk P w (upd H a o) h':=fun b u e=>by
 have hn:=x.fresh hp;by_cases hb:b=a
 ·subst hb;rw[zJ]at e;cases e;exact p
 ·rw[zu hb]at e;exact(x b u e).stay (fun c v _ q=>k c v q) (fun c q=>by rw[zu (zr q hn)];exact q) fun c xs q=>by rw[zu (zr q hn)];exact q
end
def Rd(H:Hp)(a:Addr)(u:HO):Prop:=H a=some u\/∃o,H a=some (.frz o u)
theorem Rd.ok{P:bw}{w:df}{H:Hp}{h:Heap}{a:Addr}{u:HO}(r:Rd H a u)(x:HOk P w H h):ObjOk P w H h a u:=by
 rcases r with r|⟨o,r⟩
 ·exact x a u r
 ·obtain⟨_,q⟩:=x a _ r;exact q
def Mut:Option HO->Prop
 |some (.lst _)=>True
 |some (.dK _)=>True
 |some (.dT _)=>True
 |some (.set _ _)=>True
 |some (.ins _ _ _)=>True
 |some (.ext _)=>True
 |_=>False
section
variable {P:bw}{w:df}{H:Hp}{h h':Heap}{x e:Addr}{o':HO}
theorem HOk.write(ok:HOk P w H h)(mu:Mut (H x))(he:e=x\/H e=some (.own x))(k:∀b u,b≠e->h.get? b=some u->h'.get? b=some u)(ae:∃u,h'.get? e=some u)
  (new:ObjOk P w (upd H x o') h' x o'):HOk P w (upd H x o') h':=fun b u q=>by
 have p:∀c y,H c=some (.own y)->c≠x:=fun c y r z=>by subst z;rw[r]at mu;exact mu
 have aa:∀c xs,H c=some (.tup xs)->c≠x:=fun c xs r z=>by subst z;rw[r]at mu;exact mu
 have ac:∀c o u,H c=some (.frz o u)->c≠x:=fun c o u r z=>by subst z;rw[r]at mu;exact mu
 by_cases hb:b=x
 ·subst hb;rw[zJ]at q;cases q;exact new
 ·rw[zu hb]at q;by_cases hbe:b=e
  ·have q':H b=some (.own x):=by
    rcases he with z|z
    ·exact absurd (hbe.trans z) hb
    ·rw[hbe];exact z
   rw[q]at q';cases q';obtain⟨v,hv⟩:=ae;exact⟨v,by rw[hbe];exact hv⟩
  ·refine(ok b u q).stay (fun c v hc r=>k c v ?_ r) (fun c r=>by rw[zu (p c b r)];exact r) (fun c xs r=>by rw[zu (aa c xs r)];exact r) fun c o u r=>by rw[zu (ac c o u r)];exact r
   rcases hc with rfl|hc
   ·exact hbe
   ·rintro rfl;rcases he with z|z
    ·exact p c b hc z
    ·rw[hc]at z;cases z;exact hb rfl
end
structure Un(fs ex:List Addr)(H H':Hp)(h h':Heap):Prop where
 keep:∀b o,h.get? b=some o->H b=none->b∉fs->b∉ex->h'.get? b=some o
 slot:∀b o,h.get? b=some o->H b=none->b∈fs->b∉ex->∃sl,h'.get? b=some { o with slots:=sl }
 free:∀b o,h.get? b=some o->H b=none->b∉ex->H' b=none
 there:∀b o,h.get? b=some o->b∉ex->∃o',h'.get? b=some o'
 tups:∀b xs,H b=some (.tup xs)->H' b=some (.tup xs)
 frzs:∀b o u,H b=some (.frz o u)->H' b=some (.frz o u)
 tbls:∀b ps,H b=some (.tbl ps)->H' b=some (.tbl ps)
section
variable {fs fs' ex ex':List Addr}{H H1 H2:Hp}{h h1 h2 h':Heap}{a x e:Addr}{o:HO}
theorem Un.any(u:Un fs ex H H1 h h1){b:Addr}{ob:Obj}(q:h.get? b=some ob)(n:H b=none)(hx:b∉ex):∃sl,h1.get? b=some { ob with slots:=sl }:=by
 by_cases hb:b∈fs
 ·exact u.slot b ob q n hb hx
 ·exact⟨ob.slots,u.keep b ob q n hb hx⟩
theorem Un.trans(a:Un fs ex H H1 h h1)(b:Un fs ex H1 H2 h1 h2):Un fs ex H H2 h h2 where
 keep:=fun c ob q n hc hx=>b.keep c ob (a.keep c ob q n hc hx) (a.free c ob q n hx) hc hx
 slot:=fun c ob q n hc hx=>by
  obtain⟨sl,e1⟩:=a.slot c ob q n hc hx;obtain⟨p,e2⟩:=b.slot c _ e1 (a.free c ob q n hx) hc hx;exact⟨p,e2⟩
 free:=fun c ob q n hx=>by
  obtain⟨o',e1⟩:=a.there c ob q hx;exact b.free c o' e1 (a.free c ob q n hx) hx
 there:=fun c ob q hx=>by
  obtain⟨o',e1⟩:=a.there c ob q hx;exact b.there c o' e1 hx
 tups:=fun c xs q=>b.tups c xs (a.tups c xs q)
 frzs:=fun c ob xs q=>b.frzs c ob xs (a.frzs c ob xs q)
 tbls:=fun c ps q=>b.tbls c _ (a.tbls c ps q)
theorem Un.kept(k:∀b u,h.get? b=some u->h'.get? b=some u):Un fs ex H H h h':=
 ⟨fun b ob q _ _ _=>k b ob q,fun b ob q _ _ _=>⟨ob.slots,k b ob q⟩,fun _ _ _ n _=>n,fun b ob q _=>⟨ob,k b ob q⟩,fun _ _ q=>q,fun _ _ _ q=>q,fun _ _ q=>q⟩
theorem Un.refl:Un fs ex H H h h:=Un.kept fun _ _ q=>q
theorem Un.laid(k:∀b u,h.get? b=some u->h'.get? b=some u)(hp:h.objs.size<=a)(hn:H a=none):Un fs ex H (upd H a o) h h' where
 keep:=fun b u q _ _ _=>k b u q
 slot:=fun b u q _ _ _=>⟨u.slots,k b u q⟩
 free:=fun b u q n _=>by rw[zu (ie (ef (cv q) hp))];exact n
 there:=fun b u q _=>⟨u,k b u q⟩
 tups:=fun b xs q=>by rw[zu (zr q hn)];exact q
 frzs:=fun b u xs q=>by rw[zu (zr q hn)];exact q
 tbls:=fun b ps q=>by rw[zu (zr q hn)];exact q
theorem Un.write(mu:Mut (H x))(he:e=x\/H e=some (.own x))(k:∀b u,b≠e->h.get? b=some u->h'.get? b=some u)(p:∃u,h'.get? e=some u):Un fs ex H (upd H x o) h h':=by
 have hx:∀b,H b=none->b≠x:=fun b n z=>by subst z;rw[n]at mu;exact mu
 have hb:∀b,H b=none->b≠e:=fun b n z=>by
  subst z;rcases he with r|r
  ·exact hx b n r
  ·rw[n]at r;cases r
 have hm:∀b u,H b=some u->¬ Mut (some u)->b≠x:=fun b u q nm z=>by subst z;rw[q]at mu;exact nm mu
 refine⟨fun b u q n _ _=>k b u (hb b n) q,fun b u q n _ _=>⟨u.slots,k b u (hb b n) q⟩,fun b u q n _=>by rw[zu (hx b n)];exact n,fun b u q _=>?_,
  fun b xs q=>by rw[zu (hm b _ q fun z=>z)];exact q,fun b u xs q=>by rw[zu (hm b _ q fun z=>z)];exact q,fun b ps q=>by rw[zu (hm b _ q fun z=>z)];exact q⟩
 by_cases hbe:b=e
 ·subst hbe;exact p
 ·exact⟨u,k b u hbe q⟩
theorem Un.mono(u:Un fs ex H H1 h h1)(hs:∀b∈fs,b∈fs')(hx:∀b∈ex,b∈ex'):Un fs' ex' H H1 h h1:=
 ⟨fun b ob q n hb he=>u.keep b ob q n (fun z=>hb (hs b z)) fun z=>he (hx b z),fun _ _ q n _ he=>u.any q n fun z=>he (hx _ z),fun b ob q n he=>u.free b ob q n fun z=>he (hx b z),fun b ob q he=>u.there b ob q fun z=>he (hx b z),u.tups,u.frzs,u.tbls⟩
end
def trk(h:Heap)(H:Hp):List Addr:=(fy h.objs.size).filter fun a=>(H a).isSome
def dW(h:Heap)(H:Hp):Heap:=W.hideAll h (trk h H)
theorem A4(h:Heap)(H:Hp):(dW h H).objs.size=h.objs.size:=W.hideAll_size _ _
theorem Ej{h:Heap}{H:Hp}{b:Addr}{o:Obj}(e:h.get? b=some o)(n:H b=none):(dW h H).get? b=some o:=
 W.hideAll_get _ e fun hm=>by
  have q:(H b).isSome=true:=(mem_filter.mp hm).2;rw[n]at q;simp at q
theorem EL{h:Heap}{H:Hp}{b:Addr}{o:Obj}(e:(dW h H).get? b=some o):h.get? b=some o/\H b=none:=by
 have e':h.get? b=some o:=W.of_hideAll (trk h H) e;refine⟨e',?_⟩;cases q:H b with
 |none=>rfl
 |some x=>
  have hm:b∈trk h H:=mem_filter.mpr ⟨mem_range.mpr (cv e'),by simp[q]⟩;have z:(dW h H).get? b=none:=W.hideAll_none (trk h H) hm;rw[z]at e;cases e
def Ac(g h:Heap)(L:Addr):List (Addr×Obj):=(fy h.objs.size).filterMap fun a=>if a=L\/(g.get? a).isSome=true then none else (h.get? a).map fun o=>(a,o)
def rest(g h:Heap)(L d:Addr):List (Addr×Obj):=(Ac g h L).filter fun p=>decide (p.1≠d)
end
section
def tabsG:List ((Addr×Addr)×Array bc):=[]
def BltAt(base:Heap)(mg:Str->Option bc):Prop:=∃bm ob,mg "__builtins__" = some (.ref bm)/\bm≠builtinsNs/\base.get? bm=some ob/\ob.cls=.type "module"/\ob.dict=some builtinsNs/\ob.data=.plain
structure Frf(fs:List Addr)(H:Hp):Prop where
 free:∀b∈fs,H b=none
 tab:∀q∈tabsG,H q.1.2=some (.tbl q.2)
structure Mod(K:bn)(mg:Str->Option bc)(base:Heap):Prop where
 kin:K.In base
 glob:base.Ns jh mg
 blt:∃mb,base.Ns builtinsNs mb/\∀x:Str,x ≠ "__name__"->mb x=fk x
 nolimit:base.NoLimit
 bm:BltAt base mg
 hd:∀q∈tabsG,W.CodeHd base q.1.1 q.1.2
structure Cx where
 prog:bw
 w:df
 K:bn
 mg:Str->Option bc
 base:Heap
 A:cw
 N:List Str
 s₀:bd
 H₀:Hp
 env:Env
 outer:List Env
 stack:List Env
 ex:List Addr
 fn:Str->Bool
 calm:Bool
 pn:List (Addr×Obj)
 xe:bc->bd->Prop
def frs(l:List Env):List Addr:=l.filterMap (·.frame)
abbrev Cx.fs (X:Cx):List Addr:=frs X.outer
def Vis(sc:Scope)(x:Str):Prop:=sc.names.lookup x=some .local\/sc.names.lookup x=some .cell\/sc.names.lookup x=some .free
def Loc(sc:Scope)(x:Str):Prop:=sc.names.lookup x=some .local\/sc.names.lookup x=some .cell
def Look(env:Env)(h:Heap)(m:Str->Option bc)(x:Str)(u:bc):Prop:=
 (env.kindOf x=some .local/\m x=some u)\/((env.kindOf x=some .cell\/env.kindOf x=some .free)/\∃c,env.cells.lookup x=some c/\h.IsCell c (some u))
structure Cx.Ok(X:Cx):Prop where
 mod:Mod X.K X.mg X.base
 kind:X.env.scope.kind=.function
 glob:X.env.globals=jh
 blt:X.env.builtins=builtinsNs
 above:X.s₀.heap.objs.size<=X.env.locals
 inj:∀x y c,X.env.cells.lookup x=some c->X.env.cells.lookup y=some c->x=y
 has:∀x,(X.env.kindOf x=some .cell\/X.env.kindOf x=some .free)->∃c,X.env.cells.lookup x=some c
 cab:∀x c,X.fn x=true->X.env.cells.lookup x=some c->X.s₀.heap.objs.size<=c
 hd:X.calm=true->X.A.handled=none
 frames:X.A.frames=some X.stack
 stk:X.stack=X.outer\/(X.stack=X.env::X.outer/\X.env.frame=some X.env.locals)
 exf:∀b∈X.ex,b≠X.env.locals/\∀x c,X.env.cells.lookup x=some c->c≠b
 bs:∀b o,X.base.get? b=some o->X.s₀.heap.get? b=some o/\X.H₀ b=none
 bsz:X.base.objs.size<=X.s₀.heap.objs.size
 noex:∀b o,X.base.get? b=some o->b∉X.ex
 exfs:∀b∈X.ex,b∉X.fs
 funs:X.s₀.heap.FunFrames X.base X.outer
 frf:Frf X.fs X.H₀
structure Inv(X:Cx)(zc:List (Addr×Obj))(σ:List (Option V))(H:Hp)(s:bd):Prop where
 ok:X.Ok
 os:s.os=X.s₀.os
 bare:AllBare s.gens
 base:Un X.fs X.ex X.H₀ H X.s₀.heap s.heap
 loc:∃m,s.heap.Ns X.env.locals m/\∀(i:Nat) (x:Str) (v:V),X.N[i]?=some x->σ[i]?=some (some v)->Vis X.env.scope x->∃u,RelV v u/\Look X.env s.heap m x u
 cell:∀x c,X.env.cells.lookup x=some c->∃v,s.heap.IsCell c v
 free:H X.env.locals=none
 freeC:∀x c,X.env.cells.lookup x=some c->H c=none
 pin:∀p∈X.pn++zc,s.heap.get? p.1=some p.2/\H p.1=none/\p.1≠X.env.locals/\p.1∉X.fs/\∀v,p.2.data≠.cell v
 hok:HOk X.prog X.w H s.heap
 len:σ.length=X.N.length
section
variable {X:Cx}{zc:List (Addr×Obj)}{σ:List (Option V)}{H H':Hp}{s:bd}{h':Heap}
theorem Cx.Ok.nofr(ok:X.Ok){b:Addr}{o:Obj}(e:X.base.get? b=some o):b∉X.fs:=fun hb=>by
 have:=(ok.funs.mem hb).1;rw[e]at this;cases this
theorem Inv.bs(I:Inv X zc σ H s):∀b o,X.base.get? b=some o->s.heap.get? b=some o/\H b=none:=fun b o e=>
 ⟨I.base.keep b o (I.ok.bs b o e).1 (I.ok.bs b o e).2 (I.ok.nofr e) (I.ok.noex b o e),I.base.free b o (I.ok.bs b o e).1 (I.ok.bs b o e).2 (I.ok.noex b o e)⟩
theorem Inv.bk(I:Inv X zc σ H s):∀b o,X.base.get? b=some o->s.heap.get? b=some o:=fun b o e=>(I.bs b o e).1
theorem Inv.mod(I:Inv X zc σ H s):Mod X.K X.mg X.base:=I.ok.mod
theorem Inv.kIn(I:Inv X zc σ H s):X.K.In s.heap:=I.ok.mod.kin.keeps I.bk
theorem Inv.lt(I:Inv X zc σ H s):X.env.locals<s.heap.objs.size:=let ⟨_,hn,_⟩:=I.loc;hn.lt
theorem Inv.sz(I:Inv X zc σ H s):X.s₀.heap.objs.size<=s.heap.objs.size:=gg I.ok.above (ji I.lt)
theorem Inv.nofs(I:Inv X zc σ H s){a:Addr}(h:s.heap.objs.size<=a):a∉X.fs:=fun hb=>by
 obtain⟨_,o,ho,_⟩:=I.ok.funs.mem hb;exact absurd (ef (cv ho) (gg I.sz h)) (iy _)
theorem Inv.cne(I:Inv X zc σ H s):∀x c,X.env.cells.lookup x=some c->c≠X.env.locals:=fun x c e z=>by
 obtain⟨v,o,ho,hd⟩:=I.cell x c e;obtain⟨m,⟨o',es,ep,aa,p,_⟩,_⟩:=I.loc;rw[z,aa]at ho;cases ho;rw[p]at hd;cases hd
theorem Inv.funs(I:Inv X zc σ H s):s.heap.FunFrames X.base X.outer:=by
 have all:∀(l:List Env),(∀b∈frs l,b∈X.fs)->X.s₀.heap.FunFrames X.base l->s.heap.FunFrames X.base l:=by
  intro l;induction l with
  |nil=>intro _ _;trivial
  |cons env r ih=>
   intro hs hl;obtain⟨hk,⟨L,o,hf,hn,ho,hd⟩,hr⟩:=hl;have hL:L∈X.fs:=hs L (by unfold frs;rw[List.filterMap_cons,hf];exact dm);obtain⟨sl,e⟩:=I.base.slot L o ho (I.ok.frf.free L hL) hL fun z=>I.ok.exfs L z hL;exact⟨hk,⟨L,_,hf,hn,e,hd⟩,ih (fun b hb=>hs b (by unfold frs;rw[List.filterMap_cons,hf];exact ck _ hb)) hr⟩
 exact all X.outer (fun _ hb=>hb) I.ok.funs
theorem Inv.stack(I:Inv X zc σ H s):s.heap.FunFrames X.base X.stack:=by
 rcases I.ok.stk with e|⟨e,hf⟩
 ·rw[e];exact I.funs
 ·rw[e];obtain⟨m,hn,_⟩:=I.loc;refine .cons (by rw[I.ok.kind];decide) hf hn ?_ I.funs;exact Heap.get?_none_of_le (gg I.ok.bsz I.ok.above)
theorem Inv.stkSub(I:Inv X zc σ H s):∀b∈frs X.stack,b∈X.env.locals::X.fs:=fun b hb=>by
 rcases I.ok.stk with e|⟨e,hf⟩
 ·rw[e]at hb;exact ck _ hb
 ·rw[e]at hb;unfold frs at hb;rw[List.filterMap_cons,hf]at hb;exact hb
theorem Inv.stkFree(I:Inv X zc σ H s):Frf (frs X.stack) H:=⟨fun b hb=>by
 rcases mem_cons.mp (I.stkSub b hb)with e|hb
 ·rw[e];exact I.free
 ·obtain⟨_,o,ho,_⟩:=I.ok.funs.mem hb;exact I.base.free b o ho (I.ok.frf.free b hb) fun z=>I.ok.exfs b z hb,fun q hq=>I.base.tbls _ _ (I.ok.frf.tab q hq)⟩
theorem Inv.step{g':Array GenState}{t':Nat}{d':Drawn}{ch:List Addr}(I:Inv X zc σ H s)
  (hch:∀b∈ch,(b∈X.ex\/X.s₀.heap.objs.size<=b)/\b≠X.env.locals/\(∀x c,X.env.cells.lookup x=some c->c≠b)/\∀p∈X.pn++zc,p.1≠b)
  (keep:∀b o,b≠X.env.locals->b∉X.fs->b∉ch->s.heap.get? b=some o->H b=none->h'.get? b=some o)
  (slot:∀b o,b≠X.env.locals->b∈X.fs->b∉ch->s.heap.get? b=some o->H b=none->∃sl,h'.get? b=some { o with slots:=sl }) (free:∀b o,b∉ch->s.heap.get? b=some o->H b=none->H' b=none)
  (there:∀b o,b∉ch->s.heap.get? b=some o->∃o',h'.get? b=some o')
  (tups:∀b xs,H b=some (.tup xs)->H' b=some (.tup xs)) (frzs:∀b o u,H b=some (.frz o u)->H' b=some (.frz o u)) (tbls:∀b ps,H b=some (.tbl ps)->H' b=some (.tbl ps))
  (ns:∀m,s.heap.Ns X.env.locals m->h'.Ns X.env.locals m) (hok:HOk X.prog X.w H' h') (hg:AllBare g'):
  Inv X zc σ H' { s with heap:=h',gens:=g',drawn:=d',toks:=t' }:=by
 have af:∀b o,X.s₀.heap.get? b=some o->b≠X.env.locals:=fun b o e=>ie (ef (cv e) I.ok.above);have ae:∀b o,X.s₀.heap.get? b=some o->b∉X.ex->b∉ch:=fun b o e hx hb=>by
  rcases(hch b hb).1 with z|z
  ·exact hx z
  ·exact absurd (ef (cv e) z) (iy _)
 have ac:∀x c,X.env.cells.lookup x=some c->∀v,s.heap.IsCell c v->h'.IsCell c v:=fun x c e v ⟨o,ho,hd⟩=>by
  have aa:c∉ch:=fun z=>(hch c z).2.2.1 x c e rfl;by_cases hc:c∈X.fs
  ·obtain⟨sl,q⟩:=slot c o (I.cne x c e) hc aa ho (I.freeC x c e);exact⟨_,q,hd⟩
  ·exact⟨o,keep c o (I.cne x c e) hc aa ho (I.freeC x c e),hd⟩
 refine⟨I.ok,I.os,hg,⟨fun b o e n hb hx=>?_,fun b o e n hb hx=>?_,fun b o e n hx=>?_,fun b o e hx=>?_,fun b xs e=>tups b xs (I.base.tups b xs e),fun b o xs e=>frzs b o xs (I.base.frzs b o xs e),fun b ps e=>?_⟩,?_,fun x c e=>?_,?_,fun x c e=>?_,fun p hp=>?_,hok,I.len⟩
 ·exact keep b o (af b o e) hb (ae b o e hx) (I.base.keep b o e n hb hx) (I.base.free b o e n hx)
 ·obtain⟨sl,e1⟩:=I.base.slot b o e n hb hx;obtain⟨ag,e2⟩:=slot b _ (af b o e) hb (ae b o e hx) e1 (I.base.free b o e n hx);exact⟨ag,e2⟩
 ·obtain⟨o',e1⟩:=I.base.there b o e hx;exact free b o' (ae b o e hx) e1 (I.base.free b o e n hx)
 ·obtain⟨o',e1⟩:=I.base.there b o e hx;exact there b o' (ae b o e hx) e1
 ·exact tbls b _ (I.base.tbls b ps e)
 ·obtain⟨m,hn,hl⟩:=I.loc;refine⟨m,ns m hn,fun i x v e1 e2 e3=>?_⟩;obtain⟨u,r,l⟩:=hl i x v e1 e2 e3;refine⟨u,r,?_⟩;rcases l with l|⟨k,c,e,z⟩
  ·exact .inl l
  ·exact .inr ⟨k,c,e,ac x c e _ z⟩
 ·obtain⟨v,z⟩:=I.cell x c e;exact⟨v,ac x c e v z⟩
 ·obtain⟨m,⟨o,_,_,ho,_⟩,_⟩:=I.loc;exact free _ o (fun z=>(hch _ z).2.1 rfl) ho I.free
 ·obtain⟨v,o,ho,hd⟩:=I.cell x c e;exact free c o (fun z=>(hch c z).2.2.1 x c e rfl) ho (I.freeC x c e)
 ·obtain⟨e,n,ne,nf,d⟩:=I.pin p hp;have aa:p.1∉ch:=fun z=>(hch p.1 z).2.2.2 p hp rfl;exact⟨keep p.1 p.2 ne nf aa e n,free p.1 p.2 aa e n,ne,nf,d⟩
theorem Inv.un{t':Nat}(I:Inv X zc σ H s)(u:Un X.fs [] H H' s.heap h')(hok:HOk X.prog X.w H' h'):Inv X zc σ H' { s with heap:=h',toks:=t' }:=by
 obtain⟨m,⟨o,es,ep,ho,r⟩,_⟩:=id I.loc;obtain⟨sl,hL⟩:=u.any ho I.free yv;exact I.step (g':=s.gens) (d':=s.drawn) (ch:=[]) (fun _ z=>nomatch z) (fun b o _ hb _ e n=>u.keep b o e n hb yv) (fun b o _ hb _ e n=>u.slot b o e n hb yv) (fun b o _ e n=>u.free b o e n yv) (fun b o _ e=>u.there b o e yv) u.tups u.frzs u.tbls (fun m' hm=>by
  obtain⟨o',ac,aa,p,r'⟩:=hm;rw[ho]at p;cases p;exact⟨_,ac,aa,hL,r'⟩) hok I.bare
theorem Inv.call{g':Array GenState}{t':Nat}{d':Drawn}{ch:List Addr}(I:Inv X zc σ H s)(u:Un (frs X.stack) ch H H' s.heap h')(hok:HOk X.prog X.w H' h')(hg:AllBare g')
  (hch:∀b∈ch,(b∈X.ex\/X.s₀.heap.objs.size<=b)/\b≠X.env.locals/\(∀x c,X.env.cells.lookup x=some c->c≠b)/\∀p∈X.pn++zc,p.1≠b):
  Inv X zc σ H' { s with heap:=h',gens:=g',drawn:=d',toks:=t' }:=by
 obtain⟨m,⟨o,es,ep,ho,r⟩,_⟩:=id I.loc;obtain⟨sl,hL⟩:=u.any ho I.free fun z=>(hch _ z).2.1 rfl;exact I.step (ch:=ch) hch (fun b o hL hb hc e n=>u.keep b o e n (fun z=>(mem_cons.mp (I.stkSub b z)).elim hL hb) hc) (fun b o _ _ hc e n=>u.any e n hc) (fun b o hc e n=>u.free b o e n hc) (fun b o hc e=>u.there b o e hc) u.tups u.frzs u.tbls (fun m' hm=>by
  obtain⟨o',ae,ac,aa,r'⟩:=hm;rw[ho]at aa;cases aa;exact⟨_,ae,ac,hL,r'⟩) hok hg
theorem Inv.turned{t':Nat}{it:Addr}(I:Inv X zc σ H s)(k:∀b o,b≠it->s.heap.get? b=some o->h'.get? b=some o)(hn:H it=none)(hL:it≠X.env.locals)
  (h1:it∈X.ex\/X.s₀.heap.objs.size<=it) (h2:∀x c,X.env.cells.lookup x=some c->c≠it) (h3:∀p∈X.pn++zc,p.1≠it):Inv X zc σ H { s with heap:=h',toks:=t' }:=by
 have aa:∀b u,H b=some u->b≠it:=fun b u e z=>by rw[z,hn]at e;cases e
 refine I.step (g':=s.gens) (d':=s.drawn) (ch:=[it]) (fun b hb=>?_) (fun b o _ _ hc e _=>k b o (fun z=>hc (by simp[z])) e) (fun b o _ _ hc e _=>⟨o.slots,k b o (fun z=>hc (by simp[z])) e⟩) (fun _ _ _ _ n=>n)
  (fun b o hc e=>⟨o,k b o (fun z=>hc (by simp[z])) e⟩) (fun _ _ e=>e) (fun _ _ _ e=>e) (fun _ _ e=>e) (fun m hm=>?_) (fun b u e=>?_) I.bare
 ·have e:b=it:=by simpa using hb
  subst e;exact⟨h1,hL,h2,h3⟩
 ·obtain⟨o,es,ep,ho,r⟩:=hm;exact⟨o,es,ep,k _ o (dy hL) ho,r⟩
 ·refine(I.hok b u e).stay (fun c v hc q=>k c v ?_ q) (fun _ q=>q) fun _ _ q=>q;rcases hc with z|z
  ·rw[z];exact aa b u e
  ·exact aa c _ z
theorem Inv.tok(I:Inv X zc σ H s)(t:Nat):Inv X zc σ H { s with toks:=t }:=I.un (h':=s.heap) (t':=t) Un.refl I.hok
theorem Inv.kept{t':Nat}(I:Inv X zc σ H s)(k:∀b u,s.heap.get? b=some u->h'.get? b=some u):Inv X zc σ H { s with heap:=h',toks:=t' }:=I.un (Un.kept k) (I.hok.kept k)
theorem Inv.laid{a:Addr}{o:HO}{t':Nat}(I:Inv X zc σ H s)(k:∀b u,s.heap.get? b=some u->h'.get? b=some u)(hp:s.heap.objs.size<=a)(p:ObjOk X.prog X.w (upd H a o) h' a o):
  Inv X zc σ (upd H a o) { s with heap:=h',toks:=t' }:=I.un (Un.laid k hp (I.hok.fresh hp)) (I.hok.laid k hp p)
theorem Inv.write{x e:Addr}{o:HO}{t':Nat}(I:Inv X zc σ H s)(mu:Mut (H x))(he:e=x\/H e=some (.own x))(k:∀b u,b≠e->s.heap.get? b=some u->h'.get? b=some u)(p:∃u,h'.get? e=some u)
  (new:ObjOk X.prog X.w (upd H x o) h' x o):Inv X zc σ (upd H x o) { s with heap:=h',toks:=t' }:=I.un (Un.write mu he k p) (I.hok.write mu he k p new)
theorem Inv.pins_of{aa:List (Addr×Obj)}(I:Inv X zc σ H s)(h:∀p∈aa,s.heap.get? p.1=some p.2/\H p.1=none/\p.1≠X.env.locals/\p.1∉X.fs/\∀v,p.2.data≠.cell v):Inv X aa σ H s:=
 ⟨I.ok,I.os,I.bare,I.base,I.loc,I.cell,I.free,I.freeC,fun p hp=>(mem_append.mp hp).elim (fun z=>I.pin p (fq _ z)) (h p),I.hok,I.len⟩
theorem vV{N:List Str}(hN:N.Nodup){i j:Nat}{x:Str}(a:N[i]?=some x)(b:N[j]?=some x):i=j:=by
 obtain⟨h1,e1⟩:=List.getElem?_eq_some_iff.mp a;obtain⟨h2,e2⟩:=List.getElem?_eq_some_iff.mp b;exact(List.getElem_inj hN).mp (e1.trans e2.symm)
theorem ES{M:Model}{A:cw}{E:bc->bd->Prop}{i:Nat}{x:Str}{v:V}{u:bc}{Q:Unit->bd->Prop}(I:Inv X zc σ H s)(hN:X.N.Nodup)(hi:X.N[i]?=some x)(hx:Loc X.env.scope x)(r:RelV v u)
  (h:∀s',Inv X zc (σ.set i (some v)) H s'->(∃a,fc a s.heap s'.heap/\(a=X.env.locals\/X.env.cells.lookup x=some a))->Q () s') (hf:X.fn x=true\/X.env.scope.names.lookup x=some .local:=by first|exact .inl rfl|exact .inr rfl|assumption):bq M A (storeName X.env x u) Q E s:=by
 obtain⟨m,hn,hl⟩:=id I.loc;have ah:(X.env.scope.kind==.class||(X.env.scope.kind==.module&&X.env.locals != X.env.globals))=false:=by rw[I.ok.kind];rfl
 have aj:i<σ.length:=by rw[I.len];exact(List.getElem?_eq_some_iff.mp hi).1
 have ae:=I.cne;have aa:∀{a:Addr}{h':Heap},(∃o,s.heap.get? a=some o/\H a=none)->fc a s.heap h'->HOk X.prog X.w H h':=fun {a h'} ha hs b ob e=>by
  obtain⟨_,_,ac⟩:=ha;refine(I.hok b ob e).stay (fun c w' hc q=>(hs.2 c ?_).trans q) (fun _ q=>q) fun _ _ q=>q;rintro rfl;rcases hc with rfl|hc
  ·rw[ac]at e;cases e
  ·rw[ac]at hc;cases hc
 rcases hx with hk|hk
 ·refine wpAny_storeName_local hk hn (fun h' am hs=>?_) ah;obtain⟨oL,_,_,al,_⟩:=id hn;refine h _ ⟨I.ok,I.os,I.bare,⟨fun b o e n hb hx=>?_,fun b o e n hb hx=>?_,I.base.free,fun b o e hx=>?_,I.base.tups,I.base.frzs,I.base.tbls⟩,⟨_,am,fun j y v' e1 e2 e3=>?_⟩,fun y c e=>?_,I.free,I.freeC,fun p hp=>?_,aa ⟨oL,al,I.free⟩ hs,by simpa using I.len⟩ ⟨_,hs,.inl rfl⟩
  ·exact(hs.2 b (ie (ef (cv e) I.ok.above))).trans (I.base.keep b o e n hb hx)
  ·obtain⟨sl,e1⟩:=I.base.slot b o e n hb hx;exact⟨sl,(hs.2 b (ie (ef (cv e) I.ok.above))).trans e1⟩
  ·obtain⟨o',e1⟩:=I.base.there b o e hx;exact⟨o',(hs.2 b (ie (ef (cv e) I.ok.above))).trans e1⟩
  ·by_cases hj:j=i
   ·subst hj;rw[hi]at e1;cases e1;rw[kq aj]at e2;cases e2;exact⟨u,r,.inl ⟨hk,yv⟩⟩
   ·rw[lh (dy hj)]at e2;obtain⟨u',r',q⟩:=hl j y v' e1 e2 e3;refine⟨u',r',?_⟩;rcases q with ⟨k,e⟩|⟨k,c,e,z⟩
    ·refine .inl ⟨k,?_⟩;have:y≠x:=fun e=>hj (vV hN e1 (e▸hi));simp[this,e]
    ·exact .inr ⟨k,c,e,z.sameBut hs (ae y c e)⟩
  ·obtain⟨w',z⟩:=I.cell y c e;exact⟨w',z.sameBut hs (ae y c e)⟩
  ·obtain⟨e,n,ne,nf,d⟩:=I.pin p hp;exact⟨(hs.2 p.1 ne).trans e,n,ne,nf,d⟩
 ·have af:X.fn x=true:=by
   rcases hf with z|z
   ·exact z
   ·rw[z]at hk;cases hk
  obtain⟨c,hc⟩:=I.ok.has x (.inl hk);obtain⟨w',z⟩:=I.cell x c hc;refine wpAny_storeName_cell I.ok.kind hk hc z (fun h' ai hs=>?_);obtain⟨oc,ag,ak⟩:=id z;refine h { s with heap:=h' } ⟨I.ok,I.os,I.bare,⟨fun b o e n hb hx=>?_,fun b o e n hb hx=>?_,I.base.free,fun b o e hx=>?_,I.base.tups,I.base.frzs,I.base.tbls⟩,⟨m,hn.sameBut hs (dy (ae x c hc)),fun j y v' e1 e2 e3=>?_⟩,fun y c' e=>?_,I.free,I.freeC,fun p hp=>?_,aa ⟨oc,ag,I.freeC x c hc⟩ hs,by simpa using I.len⟩ ⟨c,hs,.inr hc⟩
  ·exact(hs.2 b (ie (ef (cv e) (I.ok.cab x c af hc)))).trans (I.base.keep b o e n hb hx)
  ·obtain⟨sl,e1⟩:=I.base.slot b o e n hb hx;exact⟨sl,(hs.2 b (ie (ef (cv e) (I.ok.cab x c af hc)))).trans e1⟩
  ·obtain⟨o',e1⟩:=I.base.there b o e hx;exact⟨o',(hs.2 b (ie (ef (cv e) (I.ok.cab x c af hc)))).trans e1⟩
  ·by_cases hj:j=i
   ·subst hj;rw[hi]at e1;cases e1;rw[kq aj]at e2;cases e2;exact⟨u,r,.inr ⟨.inl hk,c,hc,ai⟩⟩
   ·rw[lh (dy hj)]at e2;obtain⟨u',r',q⟩:=hl j y v' e1 e2 e3;refine⟨u',r',?_⟩;rcases q with q|⟨k,c',e,z'⟩
    ·exact .inl q
    ·refine .inr ⟨k,c',e,z'.sameBut hs ?_⟩;rintro rfl;exact hj (vV hN e1 (I.ok.inj _ _ _ e hc▸hi))
  ·by_cases hcc:c'=c
   ·subst hcc;exact⟨_,ai⟩
   ·obtain⟨w2,z2⟩:=I.cell y c' e;exact⟨w2,z2.sameBut hs hcc⟩
  ·obtain⟨e,n,ne,nf,d⟩:=I.pin p hp;refine⟨(hs.2 p.1 ?_).trans e,n,ne,nf,d⟩;intro q;rw[q,ag]at e;have q':oc=p.2:=fe e;exact d w' (by rw[<- q'];exact ak)
theorem oG{M:Model}{A:cw}{E:bc->bd->Prop}{i:Nat}{x:Str}{v:V}{u:bc}{Q:Unit->bd->Prop}(I:Inv X zc σ H s)(hN:X.N.Nodup)(hi:X.N[i]?=some x)(hx:Loc X.env.scope x)(r:RelV v u)
  (h:∀s',Inv X zc (σ.set i (some v)) H s'->Q () s') (hf:X.fn x=true\/X.env.scope.names.lookup x=some .local:=by first|exact .inl rfl|exact .inr rfl|assumption):bq M A (storeName X.env x u) Q E s:=
 ES I hN hi hx r (fun s' I' _=>h s' I') hf
theorem Inv.call'{s':bd}{ch:List Addr}(I:Inv X zc σ H s)(ho:s'.os=s.os)(u:Un (frs X.stack) ch H H' s.heap s'.heap)(hok:HOk X.prog X.w H' s'.heap)(hg:AllBare s'.gens)
  (hch:∀b∈ch,(b∈X.ex\/X.s₀.heap.objs.size<=b)/\b≠X.env.locals/\(∀x c,X.env.cells.lookup x=some c->c≠b)/\∀p∈X.pn++zc,p.1≠b):Inv X zc σ H' s':=by
 obtain⟨h',g',d',t',o'⟩:=s';have e:o'=s.os:=ho;subst e;exact I.call (g':=g') (t':=t') (d':=d') u hok hg hch
end
abbrev XK:=bc->Option Addr->Hp->Prop
abbrev St:=List (Option V)
abbrev VK:=V->Hp->Prop
abbrev TE:=St->Hp->VK->Prop
abbrev TT:=St->Hp->(Bool->Hp->Prop)->Prop
abbrev TA:=St->Hp->(List V->Hp->Prop)->Prop
structure Ends where
 nx:St->Hp->Prop
 rt:VK
 bk:St->Hp->Prop:=fun _ _=>False
 ct:St->Hp->Prop:=fun _ _=>False
abbrev TS:=Ends->St->Hp->Prop
def EP(X:Cx)(zc:List (Addr×Obj))(σ:St)(Q:VK)(u:bc)(s':bd):Prop:=∃v H',Inv X zc σ H' s'/\RelV v u/\Q v H'
def TP(X:Cx)(zc:List (Addr×Obj))(σ:St)(Q:Bool->Hp->Prop)(b:Bool)(s':bd):Prop:=∃H',Inv X zc σ H' s'/\Q b H'
def AP(X:Cx)(zc:List (Addr×Obj))(σ:St)(Q:List V->Hp->Prop)(us:List bc)(s':bd):Prop:=∃vs H',Inv X zc σ H' s'/\Vals vs us/\Q vs H'
def SP(X:Cx)(zc:List (Addr×Obj))(D:Ends)(f:Flow)(s':bd):Prop:=
 match f with
 | .next=>∃ σ' H',Inv X zc σ' H' s'/\D.nx σ' H'
 | .brk=>∃ σ' H',Inv X zc σ' H' s'/\D.bk σ' H'
 | .cont=>∃ σ' H',Inv X zc σ' H' s'/\D.ct σ' H'
 | .ret u=>∃v σ' H',Inv X zc σ' H' s'/\RelV v u/\D.rt v H'
def PE(X:Cx)(e:Expr)(t:TE):Prop:=
 ∀(zc:List (Addr×Obj)) (s:bd) (σ:St) (H:Hp) (Q:VK),Inv X zc σ H s->t σ H Q->bq (model X.prog X.w) X.A (eval e X.env) (EP X zc σ Q) X.xe s
def PT(X:Cx)(e:Expr)(t:TT):Prop:=
 ∀(zc:List (Addr×Obj)) (s:bd) (σ:St) (H:Hp) (Q:Bool->Hp->Prop),Inv X zc σ H s->t σ H Q->bq (model X.prog X.w) X.A (isTrue e X.env (eval e X.env)) (TP X zc σ Q) X.xe s
def PW(X:Cx)(e:Expr)(t:TT):Prop:=
 ∀(whole:Sem bc) (zc:List (Addr×Obj)) (s:bd) (σ:St) (H:Hp) (Q:Bool->Hp->Prop),Inv X zc σ H s->t σ H Q->bq (model X.prog X.w) X.A (isTrue e X.env whole) (TP X zc σ Q) X.xe s
theorem PW.pt{X:Cx}{e:Expr}{t:TT}(h:PW X e t):PT X e t:=h _
def PA(X:Cx)(es:List Expr)(t:TA):Prop:=
 ∀(pos:Pos) (zc:List (Addr×Obj)) (s:bd) (σ:St) (H:Hp) (Q:List V->Hp->Prop),Inv X zc σ H s->t σ H Q->bq (model X.prog X.w) X.A (spliced (js pos (bv es X.env))) (AP X zc σ Q) X.xe s
def PS(X:Cx)(st:Stmt)(t:TS):Prop:=
 ∀(zc:List (Addr×Obj)) (s:bd) (σ:St) (H:Hp) (D:Ends),Inv X zc σ H s->t D σ H->bq (model X.prog X.w) X.A (exec st X.env) (SP X zc D) X.xe s
def PSs(X:Cx)(st:List Stmt)(t:TS):Prop:=
 ∀(zc:List (Addr×Obj)) (s:bd) (σ:St) (H:Hp) (D:Ends),Inv X zc σ H s->t D σ H->bq (model X.prog X.w) X.A (execs st X.env) (SP X zc D) X.xe s
theorem thn{α:Type}{t:Sem α}{Q Q':α->bd->Prop}{M:Model}{A:cw}{E:bc->bd->Prop}{s:bd}(h:bq M A t Q E s)(hQ:∀a s,Q a s->Q' a s):bq M A t Q' E s:=gr h hQ fun _ _ x=>x
end
section
section
variable {X:Cx}
def cB(i:Nat):TE:=fun σ H Q=>∃v,σ[i]?=some (some v)/\Q v H
def tC(v:V):TE:=fun _ H Q=>Q v H
theorem Du{i:Nat}{x:Str}{pos:Pos}(hN:X.N[i]?=some x)(hv:Vis X.env.scope x)(hd:(x==("__debug__":Str))=false:=by decide)(p:(x==("__classdict__":Str))=false:=by decide):PE X (.Name x pos) (cB i):=by
 intro zc s σ H Q I h;obtain⟨v,e,h⟩:=h;obtain⟨m,hn,hl⟩:=I.loc;obtain⟨u,r,l⟩:=hl i x v hN e hv;have fin:EP X zc σ Q u s:=⟨v,H,I,r,h⟩;rcases l with ⟨hk,hm⟩|⟨hk,c,hc,hcell⟩
 ·exact wpAny_Name (wpAny_loadName_local I.ok.kind hk hn hm fin) hd
 ·rcases hk with hk|hk
  ·exact wpAny_Name (wpAny_loadName_cell I.ok.kind hk hc hcell fin) hd
  ·exact wpAny_Name (wpAny_loadName_free I.ok.kind hk hc hcell fin p) hd
theorem ze{i j pos}:PE X (.Constant (.int i) j pos) (tC (.int i)):=fun _ _ _ H _ I h=>wpAny_Constant_int ⟨.int i,H,I.tok _,⟨_,rfl⟩,h⟩
theorem cU{b j pos}:PE X (.Constant (.bool b) j pos) (tC (.bl b)):=fun _ _ _ H _ I h=>Constant_bool ⟨.bl b,H,I,rfl,h⟩
theorem aU{x j pos}:PE X (.Constant (.str x) j pos) (tC (.str x)):=fun _ _ _ H _ I h=>Calls.Constant_str ⟨.str x,H,I.tok _,⟨_,rfl⟩,h⟩
def Gl(X:Cx)(x:Str):Prop:=X.env.kindOf x=some .globalImplicit
theorem iV{E:bc->bd->Prop}{zc:List (Addr×Obj)}{s:bd}{σ:St}{H:Hp}{x:Str}{u:bc}{pos:Pos}{Q:bc->bd->Prop}(I:Inv X zc σ H s)(hg:Gl X x)(hm:X.mg x=some u)(h:Q u s)
  (hd:(x==("__debug__":Str))=false:=by decide):bq (model X.prog X.w) X.A (eval (.Name x pos) X.env) Q E s:=
 Calls.Name_function_global I.ok.kind hg (Calls.loadGlobal_global (by rw[I.ok.glob];exact I.mod.glob.keeps I.bk) hm h) hd
theorem fD{E:bc->bd->Prop}{zc:List (Addr×Obj)}{s:bd}{σ:St}{H:Hp}{x:Str}{u:bc}{pos:Pos}{Q:bc->bd->Prop}(I:Inv X zc σ H s)(hg:Gl X x)(hm:X.mg x=none)(hv:fk x=some u)(h:Q u s)
  (hn:x ≠ "__name__":=by decide) (hd:(x==("__debug__":Str))=false:=by decide):bq (model X.prog X.w) X.A (eval (.Name x pos) X.env) Q E s:=by
 obtain⟨mb,h1,h2⟩:=I.mod.blt;exact Calls.Name_function_global I.ok.kind hg (Calls.loadGlobal_builtin (by rw[I.ok.glob];exact I.mod.glob.keeps I.bk) hm (by rw[I.ok.blt];exact h1.keeps I.bk) ((h2 x hn).trans hv) h) hd
theorem cW{x:Str}{v:V}{u:bc}{pos:Pos}(hg:Gl X x)(hm:X.mg x=some u)(r:RelV v u)(hd:(x==("__debug__":Str))=false:=by decide):PE X (.Name x pos) (tC v):=
 fun _ _ _ H _ I h=>iV I hg hm ⟨v,H,I,r,h⟩ hd
theorem dH{x:Str}{v:V}{u:bc}{pos:Pos}(hg:Gl X x)(hm:X.mg x=none)(hv:fk x=some u)(r:RelV v u)(hn:x ≠ "__name__":=by decide)(hd:(x==("__debug__":Str))=false:=by decide):PE X (.Name x pos) (tC v):=
 fun _ _ _ H _ I h=>fD I hg hm hv ⟨v,H,I,r,h⟩ hn hd
variable {a b:Expr}{ta tb:TE}{pos:Pos}
def tB(t:TE):TT:=fun σ H Q=>t σ H fun x H1=>∃c,x=.bl c/\Q c H1
variable {tA tB':TT}{rest:List Expr}
def tOr(t u:TT):TT:=fun σ H Q=>t σ H fun c H1=>if c=true then Q true H1 else u σ H1 Q
def sQ(t:TT):TT:=fun σ H Q=>t σ H fun c H1=>Q (!c) H1
theorem iH(ha:PT X a tA):PW X (.BoolOp .Or [a] pos) tA:=by
 intro wh zc s σ H Q I h;refine isTrue_or (thn (ha zc s σ H Q I h) fun c s1 e=>?_);cases c with
 |false=>exact isTrue_or_nil e
 |true=>exact e
theorem d9(ha:PT X a tA)(hb:PW X (.BoolOp .Or (b::rest) pos) tB'):PW X (.BoolOp .Or (a::b::rest) pos) (tOr tA tB'):=by
 intro wh zc s σ H Q I h;refine isTrue_or (thn (ha zc s σ H _ I h) fun c s1 ⟨H1,I1,q1⟩=>?_);cases c with
 |true=>exact⟨H1,I1,q1⟩
 |false=>exact hb wh zc s1 σ H1 Q I1 q1
theorem dQ(ha:PT X a tA):PT X (.UnaryOp .Not a pos) (sQ tA):=by
 intro zc s σ H Q I h;exact isTrue_not (ha zc s σ H (fun c H1=>Q (!c) H1) I h)
def sD(ta tb:TE):TE:=fun σ H Q=>ta σ H fun x H1=>∃c,x=.bl c/\if c=true then tb σ H1 Q else Q (.bl false) H1
def wY(ta:TE):TE:=fun σ H Q=>ta σ H fun x H1=>∃c,x=.bl c/\Q (.bl (!c)) H1
theorem gX{op}{t:TE}(h:PE X a t):PE X (.BoolOp op [a] pos) t:=fun zc s σ H Q I hw=>BoolOp_one (h zc s σ H Q I hw)
theorem f9(ha:PE X a ta)(hb:PE X (.BoolOp .And (b::rest) pos) tb):PE X (.BoolOp .And (a::b::rest) pos) (sD ta tb):=by
 intro zc s σ H Q I h;refine BoolOp_and (thn (ha zc s σ H _ I h) fun v s1 ⟨x,H1,I1,r1,q1⟩=>?_);obtain⟨c,rfl,q1⟩:=q1;cases r1;refine jj ?_;cases c with
 |true=>exact hb zc s1 σ H1 Q I1 q1
 |false=>exact⟨.bl false,H1,I1,rfl,q1⟩
theorem rM(ha:PE X a ta):PE X (.UnaryOp .Not a pos) (wY ta):=by
 intro zc s σ H Q I h;refine UnaryOp_ (thn (ha zc s σ H _ I h) fun v s1 ⟨x,H1,I1,r1,q1⟩=>?_);obtain⟨c,rfl,q1⟩:=q1;cases r1;exact not_of (jj ⟨.bl (!c),H1,I1,rfl,q1⟩)
end
end
section
def SqL(K:bn)(H:Hp)(a:Addr)(xs:List V):Prop:=
 Rd H a (.lst xs) \/
  ∃(o:Obj) (its:Array bc) (n:Nat),K.lookup a=some o/\o.cls=.type "list"/\o.dict=none/\o.data=.seq its n/\its.size<=bt/\Vals xs its.toList
def SqT(K:bn)(H:Hp)(a:Addr)(xs:List V):Prop:=
 Rd H a (.tup xs) \/
  ∃(o:Obj) (its:Array bc) (n:Nat),K.lookup a=some o/\o.cls=.type "tuple"/\o.data=.seq its n/\its.size<=bt/\Vals xs its.toList
def Cv:bc->Option V
 | .none=>some .non
 | .bool b=>some (.bl b)
 | .int i _=>some (.int i)
 | .str x _=>some (.str x)
 | .bytes b _=>some (.byt b)
 | .float b _=>some (.flt b)
 | .ref a=>some (.ref a)
 | .type n=>some (.ty n)
 |_=>none
theorem RelV.abs{x:V}{u:bc}(r:RelV x u):Cv u=some x:=by
 cases x with
 |non=>cases r;rfl
 |bl _=>cases r;rfl
 |int _=>obtain⟨t,rfl⟩:=r;rfl
 |str _=>obtain⟨t,rfl⟩:=r;rfl
 |byt _=>obtain⟨t,rfl⟩:=r;rfl
 |flt _=>obtain⟨t,rfl⟩:=r;rfl
 |ref _=>cases r;rfl
 |ty _=>cases r;rfl
theorem RelV.inj{x y:V}{u:bc}(r:RelV x u)(q:RelV y u):x=y:=fe (r.abs.symm.trans q.abs)
theorem Vals.inj:∀{xs ys:List V}{us:List bc},Vals xs us->Vals ys us->xs=ys
 |_,_,_,.nil,.nil=>rfl
 |_,_,_,.cons r t,.cons r' t'=>by rw[r.inj r',Vals.inj t t']
section
variable {X:Cx}{zc:List (Addr×Obj)}{σ:St}{H:Hp}{s:bd}{a:Addr}{xs ys:List V}
theorem SqL.of{K:bn}(h:H a=some (.lst xs)):SqL K H a xs:=.inl (.inl h)
theorem SqT.of{K:bn}(h:H a=some (.tup xs)):SqT K H a xs:=.inl (.inl h)
theorem Inv.list(I:Inv X zc σ H s)(h:SqL X.K H a xs):∃p:List bc,Vals xs p/\PlainL s.heap a p.toArray/\xs.length<=bt:=by
 rcases h with h|⟨o,p,n,hk,hc,hd,hs,hz,r⟩
 ·obtain⟨z,p,n,r,e⟩:=h.ok I.hok;exact⟨p,r,⟨_,n,e,rfl,rfl,rfl⟩,z⟩
 ·refine⟨p.toList,r,⟨o,n,I.kIn a o hk,hc,hd,by simpa using hs⟩,?_⟩;have e:=r.length;simp only[length_toList]at e;omega
theorem Inv.tuple(I:Inv X zc σ H s)(h:SqT X.K H a xs):∃aa:List bc,Vals xs aa/\IsTup s.heap a aa.toArray/\xs.length<=bt:=by
 rcases h with h|⟨o,aa,n,hk,hc,hs,hz,r⟩
 ·obtain⟨z,aa,r,p⟩:=h.ok I.hok;exact⟨aa,r,p,z.1⟩
 ·refine⟨aa.toList,r,⟨o,I.kIn a o hk,hc,n,by simpa using hs⟩,?_⟩;have e:=r.length;simp only[length_toList]at e;omega
theorem Inv.list_inj(I:Inv X zc σ H s)(h:SqL X.K H a xs)(h':SqL X.K H a ys):xs=ys:=by
 obtain⟨p,r,⟨o,n,e,_,_,d⟩,_⟩:=I.list h;obtain⟨its',r',⟨o',n',e',_,_,d'⟩,_⟩:=I.list h';rw[e]at e';cases e';rw[d]at d';injection d' with d1 _
 have:p=its':=by simpa using congrArg Array.toList d1
 subst this;exact r.inj r'
theorem Inv.tuple_inj(I:Inv X zc σ H s)(h:SqT X.K H a xs)(h':SqT X.K H a ys):xs=ys:=by
 obtain⟨p,r,⟨o,e,_,n,d⟩,_⟩:=I.tuple h;obtain⟨its',r',⟨o',e',_,n',d'⟩,_⟩:=I.tuple h';rw[e]at e';cases e';rw[d]at d';injection d' with d1 _
 have:p=its':=by simpa using congrArg Array.toList d1
 subst this;exact r.inj r'
end
abbrev Cx.wish (X:Cx) (E:bc->bd->Prop):Cx:={ X with xe:=E }
abbrev Cx.nox (X:Cx):Cx:=X.wish fun _ _=>False
theorem Cx.Ok.wish{X:Cx}(ok:X.Ok)(E:bc->bd->Prop):(X.wish E).Ok:=
 ⟨ok.mod,ok.kind,ok.glob,ok.blt,ok.above,ok.inj,ok.has,ok.cab,ok.hd,ok.frames,ok.stk,ok.exf,ok.bs,ok.bsz,ok.noex,ok.exfs,ok.funs,ok.frf⟩
theorem Cx.Ok.unwish{X:Cx}{E:bc->bd->Prop}(ok:(X.wish E).Ok):X.Ok:=
 ⟨ok.mod,ok.kind,ok.glob,ok.blt,ok.above,ok.inj,ok.has,ok.cab,ok.hd,ok.frames,ok.stk,ok.exf,ok.bs,ok.bsz,ok.noex,ok.exfs,ok.funs,ok.frf⟩
section
variable {X:Cx}{zc:List (Addr×Obj)}{σ:St}{H:Hp}{s:bd}{E:bc->bd->Prop}
theorem Inv.wish(I:Inv X zc σ H s)(E:bc->bd->Prop):Inv (X.wish E) zc σ H s:=⟨I.ok.wish E,I.os,I.bare,I.base,I.loc,I.cell,I.free,I.freeC,I.pin,I.hok,I.len⟩
theorem Inv.unwish(I:Inv (X.wish E) zc σ H s):Inv X zc σ H s:=⟨I.ok.unwish,I.os,I.bare,I.base,I.loc,I.cell,I.free,I.freeC,I.pin,I.hok,I.len⟩
theorem SP.unwish{D:Ends}{f:Flow}{s':bd}(h:SP (X.wish E) zc D f s'):SP X zc D f s':=by
 cases f with
 |next=>obtain⟨σ',H',I,q⟩:=h;exact⟨σ',H',I.unwish,q⟩
 |brk=>obtain⟨σ',H',I,q⟩:=h;exact⟨σ',H',I.unwish,q⟩
 |cont=>obtain⟨σ',H',I,q⟩:=h;exact⟨σ',H',I.unwish,q⟩
 |ret u=>obtain⟨v,σ',H',I,r,q⟩:=h;exact⟨v,σ',H',I.unwish,r,q⟩
theorem PE.nox{e:Expr}{t:TE}(h:PE X.nox e t):PE X e t:=fun zc s σ H Q I hw=>
 gr (h zc s σ H Q (I.wish _) hw) (fun _ _ ⟨v,H',I',r,q⟩=>⟨v,H',I'.unwish,r,q⟩) fun _ _ z=>dh z
theorem PT.nox{e:Expr}{t:TT}(h:PT X.nox e t):PT X e t:=fun zc s σ H Q I hw=>
 gr (h zc s σ H Q (I.wish _) hw) (fun _ _ ⟨H',I',q⟩=>⟨H',I'.unwish,q⟩) fun _ _ z=>dh z
theorem PSs.nox{st:List Stmt}{t:TS}(h:PSs X.nox st t):PSs X st t:=fun zc s σ H D I hw=>
 gr (h zc s σ H D (I.wish _) hw) (fun _ _ q=>q.unwish) fun _ _ z=>dh z
end
section
variable {X:Cx}{st:Stmt}{rest:List Stmt}{t u:TS}{e:Expr}{te:TE}{pos:Pos}
def pO:TS:=fun D σ H=>D.nx σ H
def dP(t u:TS):TS:=fun D σ H=>t { D with nx:=u D } σ H
theorem bJ:PSs X [] pO:=fun _ _ σ H _ I h=>kh ⟨σ,H,I,h⟩
theorem zf(h1:PS X st t)(h2:PSs X rest u):PSs X (st::rest) (dP t u):=by
 intro zc s σ H D I h;refine wpAny_execs_cons (thn (h1 zc s σ H { D with nx:=u D } I h) fun f s1 q=>?_);cases f with
 |next=>
  obtain⟨σ',H',I',q⟩:=q;exact h2 zc s1 σ' H' D I' q
 |ret v=>exact q
 |brk=>exact q
 |cont=>exact q
theorem zj(h1:PS X st t):PSs X [st] t:=by
 intro zc s σ H D I h;refine wpAny_execs_cons (thn (h1 zc s σ H D I h) fun f s1 q=>?_);cases f with
 |next=>exact kh q
 |ret v=>exact q
 |brk=>exact q
 |cont=>exact q
theorem Inv.quiet{zc:List (Addr×Obj)}{σ:St}{H:Hp}{s:bd}(I:Inv X zc σ H s):interactive X.env=false:=by simp[interactive,I.ok.kind]
def oQ(te:TE):TS:=fun D σ H=>te σ H fun _ H1=>D.nx σ H1
theorem gD(he:PE X e te)(hs:swapsWith e none pos.line X.env=pure false:=by rfl):PS X (.Expr e pos) (oQ te):=by
 intro zc s σ H D I h;exact wpAny_Expr_any (thn (he zc s σ H _ I h) fun v s1 ⟨x,H1,I1,r1,q1⟩=>⟨σ,H1,I1,q1⟩) I.quiet hs
def oE(te:TE):TS:=fun D σ H=>te σ H D.rt
theorem zK(he:PE X e te):PS X (.Return (some e) pos) (oE te):=by
 intro zc s σ H D I h;exact wpAny_Return_some (thn (he zc s σ H _ I h) fun v s1 ⟨x,H1,I1,r1,q1⟩=>⟨x,σ,H1,I1,r1,q1⟩)
def nY(c:TT)(t u:TS):TS:=fun D σ H=>c σ H fun b H1=>if b=true then t D σ H1 else u D σ H1
theorem bI{c:Expr}{a b:List Stmt}{tc:TT}(hc:PT X c tc)(ha:PSs X a t)(hb:PSs X b u):PS X (.If c a b pos) (nY tc t u):=by
 intro zc s σ H D I h;refine wpAny_If (thn (hc zc s σ H _ I h) fun d s1 ⟨H1,I1,q1⟩=>?_);cases d with
 |true=>exact ha zc s1 σ H1 D I1 q1
 |false=>exact hb zc s1 σ H1 D I1 q1
def uA:TS:=fun _ _ _=>False
theorem Cw:PS X st uA:=fun _ _ _ _ _ _ h=>h.elim
end
abbrev TG:=V->St->Hp->(St->Hp->Prop)->Prop
abbrev TGs:=List V->St->Hp->(St->Hp->Prop)->Prop
def PG(X:Cx)(p:Expr)(t:TG):Prop:=
 ∀(zc:List (Addr×Obj)) (s:bd) (σ:St) (H:Hp) (v:V) (u:bc) (Q:St->Hp->Prop),Inv X zc σ H s->RelV v u->t v σ H Q ->
  bq (model X.prog X.w) X.A (assign p X.env u) (fun _ s'=>∃ σ' H',Inv X zc σ' H' s'/\Q σ' H') X.xe s
def PGs(X:Cx)(ts:List Expr)(t:TGs):Prop:=
 ∀(zc:List (Addr×Obj)) (s:bd) (σ:St) (H:Hp) (vs:List V) (us:List bc) (Q:St->Hp->Prop),Inv X zc σ H s->Vals vs us->t vs σ H Q ->
  bq (model X.prog X.w) X.A (assignInOrder ((iu ts X.env).map (·.2)) us) (fun _ s'=>∃ σ' H',Inv X zc σ' H' s'/\Q σ' H') X.xe s
abbrev TSet:=V->V->V->Hp->(Hp->Prop)->Prop
def PSet(X:Cx)(t:TSet):Prop:=
 ∀(zc:List (Addr×Obj)) (s:bd) (σ:St) (H:Hp) (o i v:V) (ov iv u:bc) (Q:Hp->Prop),Inv X zc σ H s->RelV o ov->RelV i iv->RelV v u->t o i v H Q ->
  bq (model X.prog X.w) X.A (setItem ov iv u) (fun _ s'=>∃H',Inv X zc σ H' s'/\Q H') X.xe s
section
variable {X:Cx}{pos:Pos}
def iR(i:Nat):TG:=fun v σ H Q=>Q (σ.set i (some v)) H
theorem zD{i:Nat}{x:Str}(hN:X.N.Nodup)(hi:X.N[i]?=some x)(hx:Loc X.env.scope x)(hf:X.fn x=true\/X.env.scope.names.lookup x=some .local:=by first|exact .inl rfl|exact .inr rfl|assumption):PG X (.Name x pos) (iR i):=by
 intro zc s σ H v u Q I r h;exact wpAny_assign_Name (oG I hN hi hx r (fun s' I'=>⟨_,H,I',h⟩) hf)
def v3:TGs:=fun vs σ H Q=>vs=[]/\Q σ H
def sO(t:TG)(u:TGs):TGs:=fun vs σ H Q=>∃v r,vs=v::r/\t v σ H fun σ' H'=>u r σ' H' Q
theorem iG:PGs X [] v3:=by
 intro zc s σ H vs us Q I r h;obtain⟨e,h⟩:=h;subst e;cases r;exact assignInOrder_nil ⟨σ,H,I,h⟩
theorem bP{e:Expr}{es:List Expr}{t:TG}{u:TGs}(h1:PG X e t)(h2:PGs X es u)
  (hs:(iu (e::es) X.env).map (·.2)=assign e X.env::(iu es X.env).map (·.2):=by rfl):PGs X (e::es) (sO t u):=by
 intro zc s σ H vs us Q I r h;obtain⟨v,vr,e1,h⟩:=h;subst e1;cases r with
 |cons r rr=>
  rw[hs];refine assignInOrder_cons (thn (h1 zc s σ H _ _ _ I r h) fun _ s1 ⟨σ1,H1,I1,q1⟩=>?_);exact h2 zc s1 σ1 H1 _ _ Q I1 rr q1
def nV(K:bn)(n:Nat)(t:TGs):TG:=fun v σ H Q=>∃a xs,v=.ref a/\SqT K H a xs/\xs.length=n/\t xs σ H Q
theorem kE{es:List Expr}{k:Nat}{t:TGs}{n:Nat}(hc:X.calm=true)(h:PGs X es t)
  (hn:(iu es X.env).length=n:=by rfl) (hst:(iu es X.env).findIdx? (·.1)=none:=by rfl):PG X (.Tuple es k pos) (nV X.K n t):=by
 intro zc s σ H v u Q I r hw;obtain⟨a,xs,e1,hq,hl,hw⟩:=hw;subst e1;cases r;obtain⟨p,rv,ht,hz⟩:=I.tuple hq;refine assign_Tuple_tuple (I.ok.hd hc) ht (by simp[hn,<- hl,rv.length]) hst fun h' hx=>?_;have I1:Inv X zc σ H { s with heap:=h' }:=I.kept (t':=s.toks) fun b o e=>hx b o (ie (cv e)) e;exact h zc _ σ H xs _ Q I1 (by simpa using rv) hw
def vR(to ti:TE)(t:TSet):TG:=fun v σ H Q=>to σ H fun o H1=>ti σ H1 fun i H2=>t o i v H2 fun H3=>Q σ H3
theorem xR{o i:Expr}{to ti:TE}{t:TSet}(ho:PE X o to)(hi:PE X i ti)(hs:PSet X t)
  (ha:∀v,assign (.Subscript o i pos) X.env v=(do
   let ov <- holding [v] (eval o X.env)
   let iv <- holding [v,ov] (eval i X.env)
   standAt pos
   holding [v,ov,iv] (setItem ov iv v)
   release [v,ov,iv] []):=by intro _;rfl):PG X (.Subscript o i pos) (vR to ti t):=by
 intro zc s σ H v u Q I r h;rw[ha];refine bb (ic (thn (ho zc s σ H _ I h) fun ov s1 ⟨x,H1,I1,r1,q1⟩=>?_));refine bb (ic (thn (hi zc s1 σ H1 _ I1 q1) fun iv s2 ⟨y,H2,I2,r2,q2⟩=>?_));refine bb (kz (bb (ic (thn (hs zc s2 σ H2 x y v ov iv u _ I2 r1 r2 r q2) fun _ s3 ⟨H3,I3,q3⟩=>?_))));exact wpAny_release ⟨σ,H3,I3,q3⟩
def nM(te:TE)(g:TG):TS:=fun D σ H=>te σ H fun x H1=>g x σ H1 D.nx
theorem qS{tg e:Expr}{te:TE}{g:TG}(he:PE X e te)(hg:PG X tg g)(hs:swapsWithSole [tg] e pos.line X.env=pure false:=by rfl)(hw:swappedStores [tg] e X.env=pure none:=by rfl)
  (h1:(iu [tg] X.env).map (·.2)=[assign tg X.env]:=by rfl):PS X (.Assign [tg] e pos) (nM te g):=by
 intro zc s σ H D I h;refine wpAny_Assign_stores (thn (he zc s σ H _ I h) fun v s1 ⟨x,H1,I1,r1,q1⟩=>?_) hs hw;rw[h1];exact thn (hg zc s1 σ H1 x v _ I1 r1 q1) fun _ s2 q=>q
theorem zB{i:Nat}{x:Str}{e:Expr}{te:TE}{pos':Pos}(hN:X.N.Nodup)(hi:X.N[i]?=some x)(hx:Loc X.env.scope x)(he:PE X e te)(hs:swapsWith e (some (.Name x pos')) pos.line X.env=pure false:=by rfl)(hf:X.fn x=true\/X.env.scope.names.lookup x=some .local:=by first|exact .inl rfl|exact .inr rfl|assumption):
  PS X (.Assign [.Name x pos'] e pos) (nM te (iR i)):=by
 intro zc s σ H D I h;refine wpAny_Assign_Name (thn (he zc s σ H _ I h) fun v s1 ⟨y,H1,I1,r1,q1⟩=>?_) hs;exact oG I1 hN hi hx r1 (fun s2 I2=>⟨_,H1,I2,q1⟩) hf
end
structure It where
 go:Nat->Hp->Prop
 yld:Nat->Hp->V->Hp->Prop
 stop:Nat->Hp->Prop
def FpOk(X:Cx)(zc:List (Addr×Obj))(H:Hp)(b:Addr):Prop:=
 H b=none/\b≠X.env.locals/\b∉X.fs/\(b∈X.ex\/X.s₀.heap.objs.size<=b)/\(∀x c,X.env.cells.lookup x=some c->c≠b)/\∀p∈X.pn++zc,p.1≠b
theorem Inv.fpOk{X:Cx}{zc:List (Addr×Obj)}{σ:St}{H H':Hp}{s:bd}{b:Addr}(I:Inv X zc σ H s)(hb:s.heap.objs.size<=b)(hn:H' b=none):FpOk X zc H' b:=by
 refine⟨hn,ne_of_gt (ef I.lt hb),I.nofs hb,.inr (gg I.sz hb),fun x c e z=>?_,fun p hp z=>?_⟩
 ·obtain⟨v,q⟩:=I.cell x c e;exact absurd (ef q.lt (by rw[z];exact hb)) (iy _)
 ·exact absurd (ef (cv (I.pin p hp).1) (by rw[z];exact hb)) (iy _)
structure Turn(P:bw)(w:df)(K:bn)(tg:Expr)(J:It)(fp:List Addr)(it:Addr)(tn:Nat->Heap->Prop):Prop where
 mem:it∈fp
 obj:∀i h,tn i h->∀b∈fp,∃o,h.get? b=some o/\∀v,o.data≠.cell v
 keep:∀i h h',tn i h->(∀b∈fp,∀o,h.get? b=some o->h'.get? b=some o)->tn i h'
 item:∀(X:Cx),X.prog=P->X.w=w->X.K=K->X.calm=true->∀(i:Nat) (zc:List (Addr×Obj)) (s:bd) (σ:St) (H:Hp) (E:bc->bd->Prop),Inv X zc σ H s->(∀b∈fp,FpOk X zc H b)->tn i s.heap->J.go i H ->
  bq (model P w) X.A (pyNext (.ref it)) (fun r s1=>∃u,r=some u /\
   bq (model P w) X.A (letOwnedTupleGo tg (.ref it) u) (fun _ s2=>∃x H',Inv X zc σ H' s2/\RelV x u/\J.yld i H x H'/\tn (i+1) s2.heap/\∀b∈fp,H' b=none) E s1) E s
 done:∀(X:Cx),X.prog=P->X.w=w->X.K=K->X.calm=true->∀(i:Nat) (zc:List (Addr×Obj)) (s:bd) (σ:St) (H:Hp) (E:bc->bd->Prop),Inv X zc σ H s->(∀b∈fp,FpOk X zc H b)->tn i s.heap->J.stop i H ->
  bq (model P w) X.A (pyNext (.ref it)) (fun r s1=>r=none/\Inv X zc σ H s1) E s
 self:∀(A:cw) (i:Nat) (s:bd) (Q:bc->bd->Prop) (E:bc->bd->Prop),tn i s.heap->Q (.ref it) s->bq (model P w) A (pyIter (.ref it)) Q E s
abbrev TI:=St->Hp->(It->Hp->Prop)->Prop
def PIE(X:Cx)(zc:List (Addr×Obj))(σ:St)(tg:Expr)(R:It->Hp->Prop)(p:bc)(s2:bd):Prop:=
 ∃(it:Addr) (fp:List Addr) (tn:Nat->Heap->Prop) (J:It) (H':Hp),p=.ref it/\Inv X zc σ H' s2/\Turn X.prog X.w X.K tg J fp it tn/\tn 0 s2.heap/\(∀b∈fp,FpOk X zc H' b)/\R J H'
def PI(X:Cx)(tg iter:Expr)(wi:TI):Prop:=
 ∀(zc:List (Addr×Obj)) (s:bd) (σ:St) (H:Hp) (R:It->Hp->Prop),Inv X zc σ H s->wi σ H R ->
  bq (model X.prog X.w) X.A (eval iter X.env) (fun v s1=>bq (model X.prog X.w) X.A (pyIter v) (PIE X zc σ tg R) X.xe s1) X.xe s
theorem i0{M:Model}{A:cw}{E:bc->bd->Prop}{s:bd}{tg:Expr}{it:Addr}{u:bc}{o:Obj}{n:String}{vs:Array bc}{Q:Unit->bd->Prop}(ho:s.heap.get? it=some o)(hc:o.cls=.type n)(hd:o.data=.fields vs)
    (hn:["enumerate","zip","dict_itemiterator","dict_reverseitemiterator","odict_iterator","itertools.zip_longest","itertools.pairwise"].contains n=false) (hQ:Q () s):bq M A (letOwnedTupleGo tg (.ref it) u) Q E s:=by
  unfold letOwnedTupleGo;cases tg<;>first
    |exact bo hQ
    | (cases u<;>first
        |exact bo hQ
        | (refine bb (wpAny_load ho ?_)
           rw[hc,hd];show bq M A (if (["enumerate","zip","dict_itemiterator","dict_reverseitemiterator","odict_iterator","itertools.zip_longest","itertools.pairwise"].contains n&&vs[0]?==some (ix _))=true then _ else _) Q E s;rw[cf (by intro h;rw[hn,Bool.false_and]at h;cases h)];exact bo hQ))
def Itl(K:bn)(a:Addr):It:=
 ⟨fun i H=>∃xs x,SqL K H a xs/\xs[i]?=some x,fun i H x H'=>H'=H/\∀xs,SqL K H a xs->xs[i]?=some x,fun i H=>∃xs,SqL K H a xs/\xs.length<=i⟩
def Itt(K:bn)(a:Addr):It:=
 ⟨fun i H=>∃xs x,SqT K H a xs/\xs[i]?=some x,fun i H x H'=>H'=H/\∀xs,SqT K H a xs->xs[i]?=some x,fun i H=>∃xs,SqT K H a xs/\xs.length<=i⟩
def Itr(lo:Int)(n:Nat):It:=⟨fun i _=>i<n,fun i H x H'=>H'=H/\x=.int (lo+i),fun i _=>n<=i⟩
theorem u0{P:bw}{w:df}{K:bn}{tg:Expr}(a it:Addr):Turn P w K tg (Itl K a) [it] it (fun i h=>h.IsListIter it a i) where
 mem:=by simp
 obj:=fun i h st b hb=>by
  have e:b=it:=by simpa using hb
  subst e;obtain⟨o,e,c,d⟩:=st;exact⟨o,e,fun v z=>by rw[d]at z;cases z⟩
 keep:=fun i h h' st k=>st.at fun o e=>k it yv o e
 item:=by
  intro X hP hw hK hc i zc s σ H E I hf st hg;subst hP hw hK;obtain⟨xs,x,hq,hx⟩:=hg;obtain⟨ac,rv,p,hz⟩:=I.list hq;obtain⟨u,hu,ru⟩:=rv.get hx;obtain⟨f0,f1,f2,f3,f4,f5⟩:=hf it yv;refine wpAny_pyNext_list_item st p.isList (x:=u) (by simpa using hu) fun h' aa sb=>?_;have I1:Inv X zc σ H { s with heap:=h' }:=I.turned (t':=s.toks) (fun b o hb e=>(sb.2 b hb).trans e) f0 f1 f3 f4 f5;obtain⟨o,e,c,d⟩:=id aa;exact⟨u,rfl,i0 (s:={ s with heap:=h' }) e c d dz ⟨x,H,I1,ru,⟨rfl,fun ys hy=>by rw[I.list_inj hy hq];exact hx⟩,aa,fun b hb=>(hf b hb).1⟩⟩
 done:=by
  intro X hP hw hK hc i zc s σ H E I hf st hg;subst hP hw hK;obtain⟨xs,hq,hx⟩:=hg;obtain⟨ac,rv,p,hz⟩:=I.list hq;obtain⟨f0,f1,f2,f3,f4,f5⟩:=hf it yv;have hl:=rv.length;exact wpAny_pyNext_list_end (I.ok.hd hc) st p.isList (by simp;omega) fun h' eb=>⟨rfl,I.turned (t':=s.toks) (fun b o hb e=>eb b o hb e) f0 f1 f3 f4 f5⟩
 self:=fun _ _ _ _ _ st h=>wpAny_pyIter_listiter st h
theorem pR{P:bw}{w:df}{K:bn}{tg:Expr}(a it:Addr):Turn P w K tg (Itt K a) [it] it (fun i h=>h.IsTupleIter it a i) where
 mem:=by simp
 obj:=fun i h st b hb=>by
  have e:b=it:=by simpa using hb
  subst e;obtain⟨o,e,c,d⟩:=st;exact⟨o,e,fun v z=>by rw[d]at z;cases z⟩
 keep:=fun i h h' st k=>st.at fun o e=>k it yv o e
 item:=by
  intro X hP hw hK hc i zc s σ H E I hf st hg;subst hP hw hK;obtain⟨xs,x,hq,hx⟩:=hg;obtain⟨aa,rv,p,hz⟩:=I.tuple hq;obtain⟨u,hu,ru⟩:=rv.get hx;obtain⟨f0,f1,f2,f3,f4,f5⟩:=hf it yv;refine wpAny_pyNext_tuple_item st (show s.heap.IsTuple a aa.toArray from p) (x:=u) (by simpa using hu) fun h' ac sb=>?_;have I1:Inv X zc σ H { s with heap:=h' }:=I.turned (t':=s.toks) (fun b o hb e=>(sb.2 b hb).trans e) f0 f1 f3 f4 f5;obtain⟨o,e,c,d⟩:=id ac;exact⟨u,rfl,i0 (s:={ s with heap:=h' }) e c d dz ⟨x,H,I1,ru,⟨rfl,fun ys hy=>by rw[I.tuple_inj hy hq];exact hx⟩,ac,fun b hb=>(hf b hb).1⟩⟩
 done:=by
  intro X hP hw hK hc i zc s σ H E I hf st hg;subst hP hw hK;obtain⟨xs,hq,hx⟩:=hg;obtain⟨aa,rv,p,hz⟩:=I.tuple hq;obtain⟨f0,f1,f2,f3,f4,f5⟩:=hf it yv;have hl:=rv.length;exact wpAny_pyNext_tuple_end (I.ok.hd hc) st (show s.heap.IsTuple a aa.toArray from p) (by simp;omega) fun h' eb=>⟨rfl,I.turned (t':=s.toks) (fun b o hb e=>eb b o hb e) f0 f1 f3 f4 f5⟩
 self:=fun _ _ _ _ _ st h=>wpAny_pyIter_tupleiter st h
theorem BG{P:bw}{w:df}{K:bn}{tg:Expr}(it:Addr)(lo:Int)(n:Nat):Turn P w K tg (Itr lo n) [it] it (fun i h=>IsRangeIter h it (lo+(i:Nat)*1) ((n:Int)-(i:Nat)) 1) where
 mem:=by simp
 obj:=fun i h st b hb=>by
  have e:b=it:=by simpa using hb
  subst e;exact⟨_,st,fun v z=>by
   have z':Data.fields _=Data.cell v:=z;cases z'⟩
 keep:=fun i h h' st k=>k it yv _ st
 item:=by
  intro X hP hw hK hc i zc s σ H E I hf st hg;subst hP hw hK;obtain⟨f0,f1,f2,f3,f4,f5⟩:=hf it yv;have W:=Walks.range (prog:=X.prog) (w:=X.w) (I.ok.hd hc) it lo 1 n;refine W.item i s _ _ hg st fun v h' tk hv p kk=>?_;obtain⟨t,rfl⟩:=hv;have I1:Inv X zc σ H { s with heap:=h',toks:=tk }:=I.turned (fun b o hb e=>kk b o (by simpa using hb) e) f0 f1 f3 f4 f5;refine⟨_,rfl,i0 (s:={ s with heap:=h',toks:=tk }) (n:="range_iterator") p rfl rfl dz ⟨.int (lo+i),H,I1,⟨t,?_⟩,⟨rfl,rfl⟩,p,fun b hb=>(hf b hb).1⟩⟩;rw[Int.mul_one]
 done:=by
  intro X hP hw hK hc i zc s σ H E I hf st hg;subst hP hw hK;obtain⟨f0,f1,f2,f3,f4,f5⟩:=hf it yv;exact wpAny_pyNext_range_end (I.ok.hd hc) st (by have:n<=i:=hg;omega) fun h' eb=>⟨rfl,I.turned (t':=s.toks) (fun b o hb e=>eb b o hb e) f0 f1 f3 f4 f5⟩
 self:=fun _ _ _ _ _ st h=>wpAny_pyIter_rangeiter st h
end
section
section
variable {X:Cx}{tg:Expr}
def rB(K:bn)(tl:TE):TI:=fun σ H R=>tl σ H fun x H1=>∃a,x=.ref a/\(∃xs,SqL K H1 a xs)/\R (Itl K a) H1
def pQ(K:bn)(tl:TE):TI:=fun σ H R=>tl σ H fun x H1=>∃a,x=.ref a/\(∃xs,SqT K H1 a xs)/\R (Itt K a) H1
theorem Eo{l:Expr}{tl:TE}(hl:PE X l tl):PI X tg l (rB X.K tl):=by
 intro zc s σ H R I h;refine thn (hl zc s σ H _ I h) fun v s1 ⟨x,H1,I1,r1,q1⟩=>?_;obtain⟨a,e,⟨xs,hq⟩,q⟩:=q1;subst e;cases r1;obtain⟨z,rv,p,hz⟩:=I1.list hq;refine wpAny_pyIter_list p.isList ?_;refine⟨s1.heap.objs.size,[s1.heap.objs.size],_,_,H1,rfl,I1.kept (t':=s1.toks) fun b o e=>bg _ e,u0 a _,⟨_,bu _ rfl,rfl,rfl⟩,fun b hb=>?_,q⟩;have e:b=s1.heap.objs.size:=by simpa using hb
 subst e;exact I1.fpOk (cq _) (I1.hok.fresh (cq _))
theorem EI{l:Expr}{tl:TE}(hl:PE X l tl):PI X tg l (pQ X.K tl):=by
 intro zc s σ H R I h;refine thn (hl zc s σ H _ I h) fun v s1 ⟨x,H1,I1,r1,q1⟩=>?_;obtain⟨a,e,⟨xs,hq⟩,q⟩:=q1;subst e;cases r1;obtain⟨z,rv,p,hz⟩:=I1.tuple hq;refine wpAny_pyIter_tuple (show s1.heap.IsTuple a z.toArray from p) ?_;refine⟨s1.heap.objs.size,[s1.heap.objs.size],_,_,H1,rfl,I1.kept (t':=s1.toks) fun b o e=>bg _ e,pR a _,⟨_,bu _ rfl,rfl,rfl⟩,fun b hb=>?_,q⟩;have e:b=s1.heap.objs.size:=by simpa using hb
 subst e;exact I1.fpOk (cq _) (I1.hok.fresh (cq _))
def lY(wi:TI)(g:TG)(tb:TS):TS:=fun D σ H=>wi σ H fun J H1=>∃W:Nat->Nat->St->Hp->Prop,(∃m,W 0 m σ H1)/\∀i m σ H,W i m σ H ->
 (J.stop i H/\D.nx σ H)\/(J.go i H/\∃N:St->Hp->Prop,(∀ σ' H',N σ' H'->∃m',m'<m/\W (i+1) m' σ' H')/\∀x H',J.yld i H x H'->g x σ H' fun σ2 H2=>tb { D with nx:=N,ct:=N,bk:=D.nx } σ2 H2)
def iK(fp:List Addr)(h:Heap):List (Addr×Obj):=fp.filterMap fun b=>(h.get? b).map fun o=>(b,o)
theorem iL{fp:List Addr}{h:Heap}{b:Addr}{o:Obj}(hb:b∈fp)(e:h.get? b=some o):(b,o)∈iK fp h:=List.mem_filterMap.mpr ⟨b,hb,by rw[e];rfl⟩
theorem Ab{fp:List Addr}{h:Heap}{p:Addr×Obj}(hp:p∈iK fp h):p.1∈fp/\h.get? p.1=some p.2:=by
 obtain⟨b,hb,e⟩:=List.mem_filterMap.mp hp;cases q:h.get? b with
 |none=>rw[q]at e;cases e
 |some o=>
  rw[q]at e;have e':(b,o)=p:=fe e;subst e';exact⟨hb,q⟩
theorem Inv.pinned{zc:List (Addr×Obj)}{σ:St}{H:Hp}{s:bd}{fp:List Addr}(I:Inv X zc σ H s)(hf:∀b∈fp,FpOk X zc H b)(ho:∀b∈fp,∃o,s.heap.get? b=some o/\∀v,o.data≠.cell v):Inv X (zc++iK fp s.heap) σ H s:=
 I.pins_of fun p hp=>(mem_append.mp hp).elim (fun z=>I.pin p (cb _ z)) fun z=>by
  obtain⟨hb,e⟩:=Ab z;obtain⟨f0,f1,f2,_⟩:=hf p.1 hb;obtain⟨o,e',d⟩:=ho p.1 hb;rw[e]at e';cases e';exact⟨e,f0,f1,f2,d⟩
theorem Inv.unpinned{zc pl:List (Addr×Obj)}{σ:St}{H:Hp}{s:bd}(I:Inv X (zc++pl) σ H s):Inv X zc σ H s:=I.pins_of fun p hp=>I.pin p (cb _ (fq _ hp))
theorem cV{iter:Expr}{aa:List Stmt}{wi:TI}{g:TG}{tb:TS}{pos:Pos}(hp:PassesOwn (model X.prog X.w) X.A X.env X.xe)(hc:X.calm=true)(hi:PI X tg iter wi)(hg:PG X tg g)(hb:PSs X aa tb)
  (hs:∀x,foldedSetIterable iter X.env x=pure x:=by intro _;rfl):PS X (.For tg iter aa [] pos) (lY wi g tb):=by
 intro zc s σ H D I h;refine wpAny_For (thn (hi zc s σ H _ I h) fun v s1 h1=>thn h1 fun aj s2 h2=>?_) hs;obtain⟨it,fp,tn,J,H2,e,I2,T,ah,f2,W,⟨m0,w0⟩,ae⟩:=h2;subst e
 have z:∀{H':Hp},(∀b∈fp,H' b=none)->∀b∈fp,FpOk X zc H' b:=fun hn b hb=>⟨hn b hb,(f2 b hb).2⟩;refine codeAny_forLoop_any (fun n s'=>∃i σ' H',Inv X zc σ' H' s'/\tn i s'.heap/\(∀b∈fp,H' b=none)/\W i n σ' H') ?_ m0 ⟨0,σ,H2,I2,ah,fun b hb=>(f2 b hb).1,w0⟩;rintro n s3 ⟨i,σ3,H3,I3,af,ag,w3⟩;rcases ae i n σ3 H3 w3 with ⟨stop,qn⟩|⟨go,N,hN,step⟩
 ·refine gm hp (thn (T.done X rfl rfl rfl hc i zc s3 σ3 H3 X.xe I3 (z ag) af stop) fun r s4 ⟨hr,I4⟩=>?_);subst hr;exact kh ⟨σ3,H3,I4,qn⟩
 ·refine gm hp (thn (T.item X rfl rfl rfl hc i zc s3 σ3 H3 X.xe I3 (z ag) af go) fun r s4 ⟨u,hr,h4⟩=>?_);subst hr;refine gm hp (thn h4 fun _ s5 ⟨x,H5,I5,r5,y5,ac,ai⟩=>?_);have I5':=I5.pinned (z ai) (T.obj _ _ ac);refine gm hp (thn (hg _ s5 σ3 H5 x u _ I5' r5 (step x H5 y5)) fun _ s6 ⟨σ6,H6,I6,q6⟩=>?_);refine gm hp (thn (hb _ s6 σ6 H6 _ I6 q6) fun f s7 q7=>?_);have p:∀{σ7:St}{H7:Hp},Inv X (zc++iK fp s5.heap) σ7 H7 s7->N σ7 H7->∃m,m<n/\∃i σ' H',Inv X zc σ' H' s7/\tn i s7.heap/\(∀b∈fp,H' b=none)/\W i m σ' H':=fun {σ7 H7} I7 n7=>by
   obtain⟨m',hm,w7⟩:=hN σ7 H7 n7;refine⟨m',hm,i+1,σ7,H7,I7.unpinned,T.keep _ _ _ ac fun b hb o e=>(I7.pin (b,o) (cb _ (cb _ (iL hb e)))).1,fun b hb=>?_,w7⟩;obtain⟨o,e,d⟩:=T.obj _ _ ac b hb;exact(I7.pin (b,o) (cb _ (cb _ (iL hb e)))).2.1
  cases f with
  |next=>obtain⟨σ7,H7,I7,n7⟩:=q7;exact p I7 n7
  |cont=>obtain⟨σ7,H7,I7,n7⟩:=q7;exact p I7 n7
  |brk=>obtain⟨σ7,H7,I7,q7⟩:=q7;exact⟨σ7,H7,I7.unpinned,q7⟩
  |ret v=>obtain⟨x7,σ7,H7,I7,r7,q7⟩:=q7;exact⟨x7,σ7,H7,I7.unpinned,r7,q7⟩
end
theorem Dz{K:bn}{a:Addr}{xs:List V}{g:TG}{tb:TS}{D:Ends}{σ:St}{H:Hp}(Pv:Nat->St->Hp->Prop)(h0:Pv 0 σ H)(hl:∀i σ H,i<=xs.length->Pv i σ H->SqL K H a xs)
  (hs:∀i x σ H,xs[i]?=some x->Pv i σ H->g x σ H fun σ2 H2=>tb { D with nx:=Pv (i+1),ct:=Pv (i+1),bk:=D.nx } σ2 H2) (hd:∀ σ H,Pv xs.length σ H->D.nx σ H):
  ∃W:Nat->Nat->St->Hp->Prop,(∃m,W 0 m σ H)/\∀i m σ H,W i m σ H ->
   ((Itl K a).stop i H/\D.nx σ H)\/((Itl K a).go i H/\∃N:St->Hp->Prop,(∀ σ' H',N σ' H'->∃m',m'<m/\W (i+1) m' σ' H')/\∀x H',(Itl K a).yld i H x H'->g x σ H' fun σ2 H2=>tb { D with nx:=N,ct:=N,bk:=D.nx } σ2 H2):=by
 refine⟨fun i m σ H=>m=xs.length-i/\i<=xs.length/\Pv i σ H,⟨xs.length,yv,zero_le _,h0⟩,?_⟩;rintro i m σ H ⟨rfl,hi,p⟩;have q:=hl i σ H hi p;by_cases hlt:i<xs.length
 ·refine .inr ⟨⟨xs,xs[i],q,by simp[hlt]⟩,Pv (i+1),fun σ' H' p'=>⟨xs.length-(i+1),yw,rfl,hlt,p'⟩,fun x H' y=>?_⟩;obtain⟨e,y⟩:=y;subst e;exact hs i x σ _ (y xs q) p
 ·have e:i=xs.length:=yw
  subst e;exact .inl ⟨⟨xs,q,cq _⟩,hd σ H p⟩
end
section
abbrev R2:=V->V->Hp->VK->Prop
def OpR(X:Cx)(f:bc->bc->Sem bc)(r:R2):Prop:=
 ∀(zc:List (Addr×Obj)) (s:bd) (σ:St) (H:Hp) (x y:V) (v u:bc) (Q:VK),Inv X zc σ H s->RelV x v->RelV y u->r x y H Q ->
  bq (model X.prog X.w) X.A (f v u) (EP X zc σ Q) X.xe s
def UnR(X:Cx)(f:bc->Sem bc)(r:V->Hp->VK->Prop):Prop:=
 ∀(zc:List (Addr×Obj)) (s:bd) (σ:St) (H:Hp) (x:V) (v:bc) (Q:VK),Inv X zc σ H s->RelV x v->r x H Q ->
  bq (model X.prog X.w) X.A (f v) (EP X zc σ Q) X.xe s
def CallR(X:Cx)(f:bc)(r:List V->Hp->VK->Prop):Prop:=
 ∀(zc:List (Addr×Obj)) (s:bd) (σ:St) (H:Hp) (xs:List V) (us:List bc) (Q:VK),Inv X zc σ H s->Vals xs us->r xs H Q ->
  bq (model X.prog X.w) X.A (call f us) (EP X zc σ Q) X.xe s
def TruR(X:Cx)(r:V->Hp->(Bool->Hp->Prop)->Prop):Prop:=
 ∀(zc:List (Addr×Obj)) (s:bd) (σ:St) (H:Hp) (x:V) (v:bc) (Q:Bool->Hp->Prop),Inv X zc σ H s->RelV x v->r x H Q ->
  bq (model X.prog X.w) X.A (truthy v) (TP X zc σ Q) X.xe s
def tOp(r:R2)(ta tb:TE):TE:=fun σ H Q=>ta σ H fun x H1=>tb σ H1 fun y H2=>r x y H2 Q
def tUn(r:V->Hp->VK->Prop)(ta:TE):TE:=fun σ H Q=>ta σ H fun x H1=>r x H1 Q
def rI(C:Int->Int->Prop)(g:Int->Int->V):R2:=fun x y H Q=>∃i j,x=.int i/\y=.int j/\C i j/\Q (g i j) H
def rI0(g:Int->Int->V):R2:=fun x y H Q=>∃i j,x=.int i/\y=.int j/\Q (g i j) H
def rU(g:Int->V):V->Hp->VK->Prop:=fun x H Q=>∃i,x=.int i/\Q (g i) H
section
variable {X:Cx}{a b c:Expr}{ta tb tc:TE}{pos:Pos}
theorem qL(ha:PE X a ta)(hb:PE X b tb){zc:List (Addr×Obj)}{s:bd}{σ:St}{H:Hp}{R:V->V->Hp->Prop}(I:Inv X zc σ H s)
  (h:ta σ H fun x H1=>tb σ H1 fun y H2=>R x y H2) {Q:bc->bd->Prop}{f:bc->bc->Sem bc}
  (hf:∀v u s2 x y H2,Inv X zc σ H2 s2->RelV x v->RelV y u->R x y H2->bq (model X.prog X.w) X.A (f v u) Q X.xe s2):
  bq (model X.prog X.w) X.A (eval a X.env) (fun v s₁=>bq (model X.prog X.w) X.A (eval b X.env) (fun u s₂=>bq (model X.prog X.w) X.A (f v u) Q X.xe s₂) X.xe s₁) X.xe s:=by
 refine thn (ha zc s σ H _ I h) fun v s1 ⟨x,H1,I1,r1,q1⟩=>?_;refine thn (hb zc s1 σ H1 _ I1 q1) fun u s2 ⟨y,H2,I2,r2,q2⟩=>?_;exact hf v u s2 x y H2 I2 r1 r2 q2
theorem zy{op:Operator}{r:R2}(ho:OpR X (ip op) r)(ha:PE X a ta)(hb:PE X b tb):PE X (.BinOp a op b pos) (tOp r ta tb):=by
 intro zc s σ H Q I h;exact wpAny_BinOp (qL ha hb I h fun v u s2 x y H2 I2 rx ry q=>ho zc s2 σ H2 x y v u Q I2 rx ry q)
theorem nI{op:UnaryOp}{r:V->Hp->VK->Prop}(ho:UnR X (unaryOp op) r)(ha:PE X a ta):PE X (.UnaryOp op a pos) (tUn r ta):=by
 intro zc s σ H Q I h;exact UnaryOp_ (thn (ha zc s σ H _ I h) fun v s1 ⟨x,H1,I1,r1,q1⟩=>ho zc s1 σ H1 x v Q I1 r1 q1)
theorem opI{f:bc->bc->Sem bc}{C:Int->Int->Prop}{g:Int->Int->Int}
  (rule:∀(i j:Int) (t u:Tok) (s:bd) (Q:bc->bd->Prop) (E:bc->bd->Prop),C i j->Q (.int (g i j) s.toks) { s with toks:=s.toks+1 }->bq (model X.prog X.w) X.A (f (.int i t) (.int j u)) Q E s):
  OpR X f (rI C fun i j=>.int (g i j)):=by
 intro zc s σ H x y v u Q I rx ry h;obtain⟨i,j,rfl,rfl,hc,q⟩:=h;obtain⟨t,rfl⟩:=rx;obtain⟨t',rfl⟩:=ry;exact rule i j t t' s _ _ hc ⟨.int (g i j),H,I.tok _,⟨_,rfl⟩,q⟩
theorem wN{f:bc->bc->Sem bc}{g:Int->Int->Int}
  (rule:∀(i j:Int) (t u:Tok) (s:bd) (Q:bc->bd->Prop) (E:bc->bd->Prop),Q (.int (g i j) s.toks) { s with toks:=s.toks+1 }->bq (model X.prog X.w) X.A (f (.int i t) (.int j u)) Q E s):
  OpR X f (rI0 fun i j=>.int (g i j)):=by
 intro zc s σ H x y v u Q I rx ry h;obtain⟨i,j,rfl,rfl,q⟩:=h;obtain⟨t,rfl⟩:=rx;obtain⟨t',rfl⟩:=ry;exact rule i j t t' s _ _ ⟨.int (g i j),H,I.tok _,⟨_,rfl⟩,q⟩
theorem o8{f:bc->bc->Sem bc}{g:Int->Int->Bool}
  (rule:∀(i j:Int) (t u:Tok) (s:bd) (Q:bc->bd->Prop) (E:bc->bd->Prop),Q (.bool (g i j)) s->bq (model X.prog X.w) X.A (f (.int i t) (.int j u)) Q E s):
  OpR X f (rI0 fun i j=>.bl (g i j)):=by
 intro zc s σ H x y v u Q I rx ry h;obtain⟨i,j,rfl,rfl,q⟩:=h;obtain⟨t,rfl⟩:=rx;obtain⟨t',rfl⟩:=ry;exact rule i j t t' s _ _ ⟨.bl (g i j),H,I,rfl,q⟩
def CDivN(i j:Int):Prop:=j≠0/\j.natAbs<1073741824
def CPow(i j:Int):Prop:=0<=j/\j<=1000000/\i.natAbs<2 ^ 64
theorem CA:OpR X (ip .Add) (rI0 fun i j=>.int (i+j)):=wN fun _ _ _ _ _ _ _ q=>add_int q
theorem cO:OpR X (ip .Sub) (rI0 fun i j=>.int (i-j)):=wN fun _ _ _ _ _ _ _ q=>sub_int q
theorem Ci:OpR X (ip .FloorDiv) (rI CDivN fun i j=>.int (i.fdiv j)):=opI fun _ _ _ _ _ _ _ hc q=>floordiv_int hc.1 q (.inl (PyProof.noPylong_small hc.2))
theorem fA:OpR X (ip .Mod) (rI (fun _ j=>0<j) fun i j=>.int (i % j)):=opI fun i j _ _ _ _ _ hc q=>by
 have h1:(0:Int)<j:=hc;exact mod_int' yw (by rw[Int.fmod_eq_emod_of_nonneg i yw];exact q)
theorem iN:OpR X (ip .Pow) (rI CPow fun i j=>.int (i ^ j.toNat)):=opI fun _ _ _ _ _ _ _ hc q=>pow_int_small hc.1 hc.2.1 hc.2.2 q
theorem unI{f:bc->Sem bc}{g:Int->Int}
  (rule:∀(i:Int) (t:Tok) (s:bd) (Q:bc->bd->Prop) (E:bc->bd->Prop),Q (.int (g i) s.toks) { s with toks:=s.toks+1 }->bq (model X.prog X.w) X.A (f (.int i t)) Q E s):
  UnR X f (rU fun i=>.int (g i)):=by
 intro zc s σ H x v Q I rx h;obtain⟨i,rfl,q⟩:=h;obtain⟨t,rfl⟩:=rx;exact rule i t s _ _ ⟨.int (g i),H,I.tok _,⟨_,rfl⟩,q⟩
theorem oO:UnR X (unaryOp .USub) (rU fun i=>.int (-i)):=unI fun _ _ _ _ _ q=>neg_int q
end
section
variable {X:Cx}{a b c:Expr}{ta tb tc:TE}{pos:Pos}
theorem FW{zc:List (Addr×Obj)}{σ:St}{H:Hp}{s:bd}{Q:VK}{k k':Bool}(I:Inv X zc σ H s)(q:Q (.bl k) H)(e:k=k'):EP X zc σ Q (.bool k') s:=by
 subst e;exact⟨.bl k,H,I,rfl,q⟩
theorem pN:OpR X (km .Lt) (rI0 fun i j=>.bl (decide (i<j))):=o8 fun _ _ _ _ _ _ _ q=>lt_int q
theorem vU:OpR X (km .LtE) (rI0 fun i j=>.bl (decide (i<=j))):=o8 fun _ _ _ _ _ _ _ q=>le_int q
theorem yS:OpR X (km .Gt) (rI0 fun i j=>.bl (decide (j<i))):=o8 fun _ _ _ _ _ _ _ q=>gt_int q
theorem FZ:OpR X (km .GtE) (rI0 fun i j=>.bl (decide (j<=i))):=o8 fun _ _ _ _ _ _ _ q=>ge_int q
theorem OpR.or{f:bc->bc->Sem bc}{r r':R2}(h:OpR X f r)(h':OpR X f r'):OpR X f (fun x y H Q=>r x y H Q\/r' x y H Q):=by
 intro zc s σ H x y v u Q I rx ry q;rcases q with q|q
 ·exact h zc s σ H x y v u Q I rx ry q
 ·exact h' zc s σ H x y v u Q I rx ry q
theorem nomark(b:Expr){op:CmpOp}(h:op≠.In:=by decide)(h2:op≠.NotIn:=by decide):behindInMarks op b=false:=by
 have e1:(op==CmpOp.In)=false:=by cases op<;>first|rfl|exact absurd rfl h
 have e2:(op==CmpOp.NotIn)=false:=by cases op<;>first|rfl|exact absurd rfl h2
 cases b<;>simp[behindInMarks,e1,e2]
theorem mH{op:CmpOp}{r:R2}(ho:OpR X (km op) r)(ha:PE X a ta)(hb:PE X b tb)(hm:behindInMarks op b=false):PE X (.Compare a [op] [b] pos) (tOp r ta tb):=by
 intro zc s σ H Q I h;exact wpAny_Compare1 (qL ha hb I h fun v u s2 x y H2 I2 rx ry q=>ho zc s2 σ H2 x y v u Q I2 rx ry q) hm
def r9(t:TE):TT:=fun σ H Q=>t σ H fun x H'=>∃k,x=.bl k/\Q k H'
theorem bH{op:CmpOp}{r:R2}(ho:OpR X (km op) r)(ha:PE X a ta)(hb:PE X b tb)(hm:behindInMarks op b=false):PT X (.Compare a [op] [b] pos) (r9 (tOp r ta tb)):=by
 intro zc s σ H Q I h;refine wpAny_isTrue_Compare1 (thn (ha zc s σ H _ I h) fun v s1 ⟨x,H1,I1,r1,q1⟩=>thn (hb zc s1 σ H1 _ I1 q1) fun u s2 ⟨y,H2,I2,r2,q2⟩=>
  thn (ho zc s2 σ H2 x y v u _ I2 r1 r2 q2) fun c s3 ⟨z,H3,I3,r3,k,e,q3⟩=>?_) hm
 subst e;cases r3;exact jj ⟨H3,I3,q3⟩
def wV(r r':R2)(ta tb tc:TE):TE:=fun σ H Q=>ta σ H fun x H1=>tb σ H1 fun y H2=>r x y H2 fun z H3=>∃k,z=.bl k /\
 (if k=true then tc σ H3 fun w' H4=>r' y w' H4 Q else Q (.bl false) H3)
theorem Av{op p:CmpOp}{r r':R2}(ho:OpR X (km op) r)(aa:OpR X (km p) r')(ha:PE X a ta)(hb:PE X b tb)(hc:PE X c tc)
  (hm:lastMarks [op,p] [b,c]=false:=by with_unfolding_all rfl):PE X (.Compare a [op,p] [b,c] pos) (wV r r' ta tb tc):=by
 intro zc s σ H Q I h;refine Compare_chain (thn (ha zc s σ H _ I h) fun v s1 ⟨x,H1,I1,r1,q1⟩=>chain_link (thn (hb zc s1 σ H1 _ I1 q1) fun u s2 ⟨y,H2,I2,r2,q2⟩=>
  thn (ho zc s2 σ H2 x y v u _ I2 r1 r2 q2) fun d s3 ⟨z,H3,I3,r3,k,e,q3⟩=>?_)) hm
 subst e;cases r3;refine jj ?_;cases k with
 |false=>exact ite_ff ⟨.bl false,H3,I3,rfl,q3⟩
 |true=>exact ite_tt (chain_last (thn (hc zc s3 σ H3 _ I3 q3) fun w' s4 ⟨z',H4,I4,r4,q4⟩=>aa zc s4 σ H4 y z' u w' Q I4 r2 r4 q4))
def TruV(K:bn)(x:V)(H:Hp)(k:Bool):Prop:=
 match x with
 | .non=>k=false
 | .bl b=>k=b
 | .int i=>k=(i != 0)
 | .str y=>y.length<=bt/\k=((y.length:Int) != 0)
 | .byt y=>y.size<=bt/\k=((y.size:Int) != 0)
 | .ref p=>(∃xs,SqL K H p xs/\k=!xs.isEmpty)\/(∃xs,SqT K H p xs/\k=!xs.isEmpty)\/∃kvs,H p=some (.dK kvs)/\k=!kvs.isEmpty
 |_=>False
theorem Bg{κ:Type}{p:List (κ×V)}{vs:List (κ×bc)}(r:KV p vs):(!vs.isEmpty)=!p.isEmpty:=by
 cases r<;>rfl
theorem wJ{xs:List V}{p:List bc}(r:Vals xs p):(!p.toArray.isEmpty)=!xs.isEmpty:=by
 cases r<;>simp
theorem line63:(bt:Nat)<2 ^ 63:=by rw[jv];decide
theorem CQ:TruR X (fun x H Q=>∃k,TruV X.K x H k/\Q k H):=by
 intro zc s σ H x v Q I rx h;obtain⟨k,e,q⟩:=h;have hl:=line63;have hs:bt=16777216:=jv;cases x with
 |non=>
  cases rx;have e':k=false:=e;subst e';exact truthy_none ⟨H,I,q⟩
 |bl b=>
  cases rx;have e':k=b:=e;subst e';exact jj ⟨H,I,q⟩
 |int i=>
  obtain⟨t,rfl⟩:=rx;have e':k=(i != 0):=e;subst e';exact PySem.P.truthy_int ⟨H,I,q⟩
 |str y=>
  obtain⟨t,rfl⟩:=rx;obtain⟨hy,e'⟩:y.length<=bt/\k=((y.length:Int) != 0):=e;subst e';exact PySem.P.truthy_str yw ⟨H,I.tok _,q⟩
 |byt y=>
  obtain⟨t,rfl⟩:=rx;obtain⟨hy,e'⟩:y.size<=bt/\k=((y.size:Int) != 0):=e;subst e';exact W.truthy_bytes yw ⟨H,I.tok _,q⟩
 |ref p=>
  cases rx;have e':(∃xs,SqL X.K H p xs/\k=!xs.isEmpty)\/(∃xs,SqT X.K H p xs/\k=!xs.isEmpty)\/∃kvs,H p=some (.dK kvs)/\k=!kvs.isEmpty:=e;rcases e' with ⟨xs,hx,e'⟩|⟨xs,hx,e'⟩|⟨kvs,hx,e'⟩
  ·subst e';obtain⟨aa,r,pl,hz⟩:=I.list hx;have z:=r.length;exact wpAny_truthy_list pl.isList (by simp only[cm];omega) ⟨H,I.tok _,by rw[wJ r];exact q⟩
  ·subst e';obtain⟨aa,r,pl,hz⟩:=I.tuple hx;have z:=r.length;exact truthy_tuple pl (by simp only[cm];omega) ⟨H,I.tok _,by rw[wJ r];exact q⟩
  ·subst e';obtain⟨hz,hS,vs,r,m⟩:kvs.length<=bt/\(p==sysModules)=false/\∃vs,KV kvs vs/\s.heap.DictOf (pF X.prog X.w) p vs:=I.hok p _ hx;have z:kvs.length=vs.length:=Paired.length r;exact wpAny_truthy_dict hS m yw ⟨H,I.tok _,by rw[Bg r];exact q⟩
 |_=>exact(show False from e).elim
theorem dZ(ha:PE X a ta)(he:∀whole,isTrue a X.env whole=(do let v <- whole;standAt a.pos;holding [v] (truthy v))):
  PT X a (fun σ H Q=>ta σ H fun x H'=>∃k,TruV X.K x H' k/\Q k H'):=by
 intro zc s σ H Q I h;exact isTrue_plain (thn (ha zc s σ H _ I h) fun v s1 ⟨x,H1,I1,r1,q1⟩=>CQ zc s1 σ H1 x v Q I1 r1 q1) (he _)
theorem Af:OpR X (ip .Add) (fun x y H Q=>∃i j,x=.str i/\y=.str j/\i.length+j.length<=bt/\Q (.str (i++j)) H):=by
 intro zc s σ H x y v u Q I rx ry h;obtain⟨i,j,rfl,rfl,hz,q⟩:=h;obtain⟨t,rfl⟩:=rx;obtain⟨t',rfl⟩:=ry;exact add_str (fun t' tk=>⟨.str (i++j),H,I.tok _,⟨_,rfl⟩,q⟩) hz
theorem vals1{x:V}{us:List bc}(r:Vals [x] us):∃u,us=[u]/\RelV x u:=by
 cases r with
 |cons r1 r2=>cases r2;exact⟨_,rfl,r1⟩
theorem vals2{x y:V}{us:List bc}(r:Vals [x,y] us):∃u w',us=[u,w']/\RelV x u/\RelV y w':=by
 cases r with
 |cons r1 r2=>
  cases r2 with
  |cons r3 r4=>cases r4;exact⟨_,_,rfl,r1,r3⟩
theorem DU(hc:X.calm=true):CallR X (.builtin "max") (fun xs H Q=>∃i j,xs=[.int i,.int j]/\Q (.int (if j>i then j else i)) H):=by
 intro zc s σ H xs us Q I r h;obtain⟨i,j,rfl,q⟩:=h;obtain⟨u,w',rfl,⟨t,rfl⟩,⟨t',rfl⟩⟩:=vals2 r;refine max_two_ints (I.ok.hd hc) fun h' tk k=>⟨_,H,I.kept k,?_,q⟩;by_cases hj:j>i
 ·rw[dw hj,dw hj];exact⟨_,rfl⟩
 ·rw[cf hj,cf hj];exact⟨_,rfl⟩
theorem E3(hc:X.calm=true):CallR X (.builtin "min") (fun xs H Q=>∃i j,xs=[.int i,.int j]/\Q (.int (if j<i then j else i)) H):=by
 intro zc s σ H xs us Q I r h;obtain⟨i,j,rfl,q⟩:=h;obtain⟨u,w',rfl,⟨t,rfl⟩,⟨t',rfl⟩⟩:=vals2 r;refine min_two_ints (I.ok.hd hc) fun h' tk k=>⟨_,H,I.kept k,?_,q⟩;by_cases hj:j<i
 ·rw[dw hj,dw hj];exact⟨_,rfl⟩
 ·rw[cf hj,cf hj];exact⟨_,rfl⟩
theorem Bv:CallR X (.type "int") (fun xs H Q=>(∃i,xs=[.int i]/\Q (.int i) H)\/∃k,xs=[.bl k]/\Q (.int (if k then 1 else 0)) H):=by
 intro zc s σ H xs us Q I r h;rcases h with ⟨i,rfl,q⟩|⟨k,rfl,q⟩
 ·obtain⟨u,rfl,t,rfl⟩:=vals1 r;exact call_int_int ⟨.int i,H,I,⟨_,rfl⟩,q⟩
 ·obtain⟨u,rfl,r1⟩:=vals1 r;cases r1;exact call_int_bool ⟨.int (if k then 1 else 0),H,I.tok _,⟨_,rfl⟩,q⟩
end
end
section
structure ObjM(h:Heap)(x dx C:Addr)(mA:Str->Option bc):Prop where
 obj:h.get? x=some (W.instObj C dx)
 ns:h.Ns1 dx mA
 ne:dx≠x
theorem yG{h:Heap}{dx:Addr}{mA:Str->Option bc}(n:h.Ns1 dx mA):∃od,h.get? dx=some od/\∀name,W.lookIn name od=some (mA name):=by
 obtain⟨o,es,ep,ho,hd,hk,_,hm⟩:=n;refine⟨o,ho,fun name=>?_⟩;have e:=hm name;unfold nsFind findBy at e;rw[<- Array.find?_toList]at e;unfold W.lookIn;rw[hd];dsimp only;split
 ·rename_i y q;rw[q]at e;exact congrArg some e
 ·rename_i q;rw[q]at e;have a:es.toList.any (·.refKey)=false:=by
   rw[List.any_eq_false];intro y hy;obtain⟨z,t,p⟩:=hk y (Array.mem_toList_iff.mp hy);simp[DictEntry.refKey,p]
  have a':¬ es.toList.any (·.refKey)=true:=by rw[a];exact gc
  rw[cf a'];exact congrArg some e
theorem ObjM.look{h:Heap}{x dx C:Addr}{mA:Str->Option bc}(I:ObjM h x dx C mA):∃od,W.InstAt h x (W.instObj C dx) C (some od)/\∀name,W.lookIn name od=some (mA name):=
 let ⟨od,ho,hl⟩:=yG I.ns
 ⟨od,⟨I.obj,rfl,rfl,ho⟩,hl⟩
def bU(f:Str)(v:V):List (Str×V)->List (Str×V)
 | []=>[(f,v)]
 | (g,x)::r=>if g=f then (g,v)::r else (g,x)::bU f v r
theorem sG(f g:Str)(v:V):∀fs:List (Str×V),(bU f v fs).lookup g=if g=f then some v else fs.lookup g
 | []=>by
  show jw g [(f,v)]=_;by_cases h:g=f
  ·have hb:(g==f)=true:=beq_iff_eq.mpr h;simp only[jw,hb,dw h]
  ·have hb:(g==f)=false:=beq_eq_false_iff_ne.mpr h;simp only[jw,hb,cf h]
 | (k,x)::r=>by
  have ih:=sG f g v r;rw[show bU f v ((k,x)::r)=(if k=f then (k,v)::r else (k,x)::bU f v r)from rfl];by_cases hk:k=f
  ·rw[dw hk];by_cases h:g=k
   ·have hb:(g==k)=true:=beq_iff_eq.mpr h;simp only[jw,hb,dw (h.trans hk)]
   ·have hb:(g==k)=false:=beq_eq_false_iff_ne.mpr h;simp only[jw,hb,cf (fun e:g=f=>h (e.trans hk.symm))]
  ·rw[cf hk];by_cases h:g=k
   ·have hb:(g==k)=true:=beq_iff_eq.mpr h;simp only[jw,hb,cf (fun e:g=f=>hk (h.symm.trans e))]
   ·have hb:(g==k)=false:=beq_eq_false_iff_ne.mpr h;simp only[jw,hb];exact ih
theorem p9(f:Str)(v:V):∀fs:List (Str×V),f∈(bU f v fs).map (·.1)/\∀g,g∈fs.map (·.1)->g∈(bU f v fs).map (·.1)
 | []=>⟨by simp[bU],fun g h=>by simp at h⟩
 | (k,x)::r=>by
  obtain⟨i1,i2⟩:=p9 f v r;rw[show bU f v ((k,x)::r)=(if k=f then (k,v)::r else (k,x)::bU f v r)from rfl];by_cases hk:k=f
  ·rw[dw hk];subst hk;exact⟨yv,fun g h=>by simpa using h⟩
  ·rw[cf hk];refine⟨?_,fun g h=>?_⟩
   ·rw[im];exact ck _ i1
   ·rw[im]at h ⊢;rcases mem_cons.mp h with e|e
    ·exact mem_cons.mpr (.inl e)
    ·exact ck _ (i2 g e)
theorem Cz{v:V}{u:bc}(r:RelV v u):W.handedIn u=true:=by
 cases v with
 |non=>cases (show u=cu from r);rfl
 |bl b=>cases (show u=Value.bool b from r);rfl
 |int i=>obtain⟨t,e⟩:=(show ∃t,u=Value.int i t from r);cases e;rfl
 |str x=>obtain⟨t,e⟩:=(show ∃t,u=Value.str x t from r);cases e;rfl
 |byt b=>obtain⟨t,e⟩:=(show ∃t,u=Value.bytes b t from r);cases e;rfl
 |flt b=>obtain⟨t,e⟩:=(show ∃t,u=Value.float b t from r);cases e;rfl
 |ref a=>cases (show u=cg a from r);rfl
 |ty n=>cases (show u=ls n from r);rfl
section
variable {P:bw}{w:df}{H H':Hp}{h h':Heap}{a C dx:Addr}{fs fs':List (Str×V)}
theorem Dx(hok:HOk P w H h)(e:H a=some (.ins C dx fs)):∃mA,ObjM h a dx C mA/\(∀f,RelO (fs.lookup f) (mA f))/\PySem.Within mA (fs.map (·.1))/\fs.length<=1000/\H dx=some (.own a):=by
 obtain⟨d,z,ne,ob,mA,n,r,q⟩:=(show ObjOk P w H h a (.ins C dx fs)from hok a _ e);exact⟨mA,⟨ob,n,ne⟩,r,q,z,d⟩
end
structure Cls(K:bn)(C:Addr):Prop where
 pg:W.plainGet K C Str.empty=true
 hd:W.hasDictIn K C=true
 po:W.plainOver K C=true
 sa:lc K (.ref C) "__setattr__" = some (some (.builtin "object.__setattr__"))
theorem Cls.get{K:bn}{C:Addr}(c:Cls K C)(f:Str):W.plainGet K C f=true:=c.pg
def NoAttr(K:bn)(C:Addr)(f:Str):Prop:=lc K (.ref C) f=some none
section
variable {X:Cx}{zc:List (Addr×Obj)}{σ:St}{H:Hp}{s:bd}{a C dx:Addr}{fs:List (Str×V)}{f:Str}{v:V}{A:cw}{E:bc->bd->Prop}
theorem FK{prog:bw}{w:df}{env:Env}{e:Expr}{f:Str}{pos:Pos}{s:bd}{Q:bc->bd->Prop}(hb:lg e f env (eval e env)=eval e env)
  (h:bq (model prog w) A (eval e env) (fun o s₁=>bq (model prog w) A (getAttr o f true) Q E s₁) E s):bq (model prog w) A (eval (.Attribute e f pos) env) Q E s:=
 Attribute_any_ h (by rw[arm_eval_Attribute,hb])
end
section
variable {X:Cx}{zc:List (Addr×Obj)}{σ:St}{H:Hp}{s:bd}{A:cw}{E:bc->bd->Prop}{Q:bc->bd->Prop}{c:bc}{b:Bool}
inductive TyOf (K:bn) (H:Hp):V->bc->Prop where
 |non:TyOf K H .non (.type "NoneType")
 |bl (x:Bool):TyOf K H (.bl x) (.type "bool")
 |int (i:Int):TyOf K H (.int i) (.type "int")
 |str (x:Str):TyOf K H (.str x) (.type "str")
 |flt (x:UInt64):TyOf K H (.flt x) (.type "float")
 |lst {a:Addr}{xs:List V} (e:H a=some (.lst xs)):TyOf K H (.ref a) (.type "list")
 |frz {a:Addr}{o:Obj}{xs:List V} (e:H a=some (.frz o (.lst xs))):TyOf K H (.ref a) (.type "list")
 |tup {a:Addr}{xs:List V} (e:H a=some (.tup xs)):TyOf K H (.ref a) (.type "tuple")
 |dK {a:Addr}{kvs:List (Key×V)} (e:Rd H a (.dK kvs)):TyOf K H (.ref a) (.type "dict")
 |dT {a:Addr}{kvs:List (List Key×V)} (e:Rd H a (.dT kvs)):TyOf K H (.ref a) (.type "dict")
 |ins {a C dx:Addr}{fs:List (Str×V)} (e:H a=some (.ins C dx fs)) (cl:Cls K C) (ha:lc K (.ref C) "__class__" = some (some (.builtin "object.__class__")))
   (hn:W.specialIn K (.builtin "object.__class__") "__get__" = some (some (.builtin "getset_descriptor.__get__"))) (htk:W.takesIn K (.builtin "object.__class__")=some true)
   (hm:W.mroIn K C (.type "object")=some true):TyOf K H (.ref a) (.ref C)
theorem DL{x:V}{u t:bc}(I:Inv X zc σ H s)(rx:RelV x u)(ty:TyOf X.K H x t)(e:W.kitOne X.K t c=some b)(h:∀tk,Q (.bool b) { s with toks:=tk }):
  bq (model X.prog X.w) A (call (.builtin "isinstance") [u,c]) Q E s:=by
 cases ty with
 |non=>cases (show u=cu from rx);exact jt W.kitx_none I.kIn lu e (fun z=>nomatch z) h
 |bl y=>cases (show u=Value.bool y from rx);exact jt W.kitx_bool I.kIn lu e (fun z=>nomatch z) h
 |int i=>obtain⟨t,q⟩:=(show ∃t,u=Value.int i t from rx);cases q;exact jt W.kitx_int I.kIn lu e (fun z=>nomatch z) h
 |str y=>obtain⟨t,q⟩:=(show ∃t,u=Value.str y t from rx);cases q;exact jt W.kitx_str I.kIn lu e (fun z=>nomatch z) h
 |flt y=>obtain⟨t,q⟩:=(show ∃t,u=Value.float y t from rx);cases q;exact jt W.kitx_float I.kIn lu e (fun z=>nomatch z) h
 | @lst a xs ea=>
  cases (show u=cg a from rx);obtain⟨_,_,n,_,h1⟩:=(show ObjOk X.prog X.w H s.heap a (.lst xs)from I.hok a _ ea);exact jt W.kitx_list I.kIn ⟨_,h1,rfl⟩ e (fun z=>nomatch z) h
 | @frz a ob xs ea=>
  cases (show u=cg a from rx);obtain⟨_,_,_,n,_,h1⟩:=(show ObjOk X.prog X.w H s.heap a (.frz ob (.lst xs))from I.hok a _ ea);exact jt W.kitx_list I.kIn ⟨_,h1,rfl⟩ e (fun z=>nomatch z) h
 | @tup a xs ea=>
  cases (show u=cg a from rx);obtain⟨_,_,_,p⟩:=(show ObjOk X.prog X.w H s.heap a (.tup xs)from I.hok a _ ea);obtain⟨o,h1,h2,_⟩:=p;exact jt W.kitx_tuple I.kIn ⟨o,h1,h2⟩ e (fun z=>nomatch z) h
 | @dK a kvs ea=>
  cases (show u=cg a from rx);obtain⟨_,_,vs,_,p⟩:=(show ObjOk X.prog X.w H s.heap a (.dK kvs)from ea.ok I.hok);obtain⟨o,es,ep,h1,h2,_⟩:=p;exact jt W.kitx_dict I.kIn ⟨o,h1,h2.1⟩ e (fun z=>nomatch z) h
 | @dT a kvs ea=>
  cases (show u=cg a from rx);obtain⟨_,_,xs,_,o,es,ep,h1,h2,_⟩:=(show ObjOk X.prog X.w H s.heap a (.dT kvs)from ea.ok I.hok);exact jt W.kitx_dict I.kIn ⟨o,h1,h2.1⟩ e (fun z=>nomatch z) h
 | @ins a C dx fs ea cl ha hn htk hm=>
  cases (show u=cg a from rx);obtain⟨mA,O,_⟩:=Dx I.hok ea;obtain⟨od,J,_⟩:=O.look;exact jt (W.kitx_own (cl.get _) cl.hd ha hn htk hm) I.kIn J e (fun z=>nomatch z) h
end
end
section
structure Room(k:Nat)(A:cw):Prop where
 hd:A.handled=none
 dp:A.depth+3*k+5<recursionLimit
 un:A.units+16*k+200<cLine
theorem Room.mono{j k:Nat}{A:cw}(r:Room k A)(h:j<=k):Room j A:=⟨r.hd,by have:=r.dp;omega,by have:=r.un;omega⟩
theorem Room.deeper{k:Nat}{A:cw}(r:Room (k+1) A)(env:Env):Room k (A.deeper env):=
 ⟨r.hd,by have:=r.dp;show A.depth+1+3*k+5<_;omega,by have:=r.un;show A.units+3+16*k+200<_;omega⟩
theorem BO{A:cw}{C:Addr}{us:List bc}{kw:List (Str×bc)}:(A.under (.builtin "type.__call__" ⟨.ref C::us,kw⟩)).depth=A.depth+1:=by
 first|rfl|simp[Around.under,Code.weight,Code.isCreation,Code.isGuard,Code.isCaller,Code.frames,Code.isFrame,guardIds]
theorem AN{A:cw}{C:Addr}{us:List bc}{kw:List (Str×bc)}:(A.under (.builtin "type.__call__" ⟨.ref C::us,kw⟩)).units=A.units+1:=by
 first|rfl|simp[Around.under,Code.cUnits,Code.frames,Code.isFrame]
theorem Room.make{k:Nat}{A:cw}(r:Room (k+1) A)(C:Addr)(us:List bc)(kw:List (Str×bc)):Room k (A.under (.builtin "type.__call__" ⟨.ref C::us,kw⟩)):=
 ⟨r.hd,by have:=r.dp;rw[BO];omega,by have:=r.un;rw[AN];omega⟩
theorem Room.depth{k:Nat}{A:cw}(r:Room k A):A.depth<recursionLimit:=by have:=r.dp;omega
theorem Room.units{k:Nat}{A:cw}(r:Room k A):A.units+64<cLine:=by have:=r.un;omega
def iF:TA:=fun _ H Q=>Q [] H
def iS(ta:TE)(tr:TA):TA:=fun σ H Q=>ta σ H fun x H1=>tr σ H1 fun xs H2=>Q (x::xs) H2
section
variable {X:Cx}{e:Expr}{es:List Expr}{te:TE}{t:TA}{pos:Pos}
theorem zd:PA X [] iF:=fun _ _ _ _ H Q I h=>Calls.spliced_nil ⟨[],H,I,.nil,h⟩
theorem za(ha:PE X e te)(hr:PA X es t)(hs:bv (e::es) X.env=(false,eval e X.env)::bv es X.env:=by rfl):PA X (e::es) (iS te t):=by
 intro pos zc s σ H Q I h;rw[hs];show bq _ _ (spliced ((false,eval e X.env)::js pos (bv es X.env))) _ _ s;refine Calls.spliced_cons (thn (ha zc s σ H _ I h) fun u s1 ⟨x,H1,I1,r1,q1⟩=>?_);exact thn (hr pos zc s1 σ H1 _ I1 q1) fun us s2 ⟨xs,H2,I2,r2,q2⟩=>⟨x::xs,H2,I2,.cons r1 r2,q2⟩
def tE(t:TA):TE:=fun σ H Q=>t σ H fun xs H1=>xs.length<=bt/\∀p,H1 p=none->Q (.ref p) (upd H1 p (.tup xs))
def iI(t:TA):TE:=fun σ H Q=>t σ H fun xs H1=>xs.length<=bt/\∀p,H1 p=none->Q (.ref p) (upd H1 p (.lst xs))
theorem eZ{x1}(h:PA X es t):PE X (.Tuple es x1 pos) (tE t):=by
 intro zc s σ H Q I hq;refine wpAny_Tuple_spliced (thn (h pos zc s σ H _ I hq) fun us s1 ⟨xs,H1,I1,r,z,q⟩=>⟨by rw[<- r.length];exact z,?_⟩);have hf:H1 s1.heap.objs.size=none:=I1.hok.fresh (cq _);refine⟨.ref s1.heap.objs.size,upd H1 s1.heap.objs.size (.tup xs),I1.laid (t':=s1.toks) (fun b u e=>bg _ e) (cq _) ?_,rfl,q _ hf⟩;exact⟨⟨z,_,bu _ rfl,rfl⟩,us,r,⟨_,bu _ rfl,rfl,_,rfl⟩⟩
theorem bA(h:PA X es t):PE X (.List es pos) (iI t):=by
 intro zc s σ H Q I hq;refine wpAny_List_spliced (thn (h pos zc s σ H _ I hq) fun us s1 ⟨xs,H1,I1,r,z,q⟩=>⟨by rw[<- r.length];exact z,?_⟩);have hf:H1 s1.heap.objs.size=none:=I1.hok.fresh (cq _);refine⟨.ref s1.heap.objs.size,upd H1 s1.heap.objs.size (.lst xs),I1.laid (t':=s1.toks) (fun b u e=>bg _ e) (cq _) ?_,rfl,q _ hf⟩;exact⟨z,us,0,r,bu _ rfl⟩
end
abbrev Sp:=List V->Hp->VK->XK->Prop
abbrev CXT:=List Env->Hp->bd->XK->bc->bd->Prop
structure Env0(P:bw)(w:df)(K:bn)(mg:Str->Option bc)(base:Heap)(A:cw)(outer:List Env)(s:bd)(H:Hp):Prop where
 frames:A.frames=some outer
 mod:Mod K mg base
 bs:∀b o,base.get? b=some o->s.heap.get? b=some o/\H b=none
 bsz:base.objs.size<=s.heap.objs.size
 funs:s.heap.FunFrames base outer
 frf:Frf (frs outer) H
 hok:HOk P w H s.heap
 bare:AllBare s.gens
def CE(outer:List Env)(P:bw)(w:df)(H:Hp)(s:bd)(Q:VK)(u:bc)(s':bd):Prop:=
 ∃v H',s'.os=s.os/\AllBare s'.gens/\Un (frs outer) [] H H' s.heap s'.heap/\HOk P w H' s'.heap/\RelV v u/\Q v H'
def CR(CX:CXT)(outer:List Env)(P:bw)(w:df)(H:Hp)(s:bd)(Q:VK)(E:XK)(r:Result)(s':bd):Prop:=
 match r with
 | .ok (.ret u)=>CE outer P w H s Q u s'
 | .ok _=>False
 | .error e=>CX outer H s E e s'
structure FnOk(P:bw)(w:df)(K:bn)(mg:Str->Option bc)(base:Heap)(CX:CXT)(k:Nat)(f:Addr)(fd:iq)(ps:List Str)(sp:Sp):Prop where
 len:∀vs H Q E,sp vs H Q E->vs.length=ps.length
 run:∀(A:cw) (outer:List Env) (s:bd) (H:Hp) (args:Args) (us:List bc) (vs:List V) (Q:VK) (E:XK),Room k A->Env0 P w K mg base A outer s H->BindsTo s fd args (ps.zip us)->Vals vs us->sp vs H Q E ->
  ku (model P w) A (.call (.ref f) args) (CR CX outer P w H s Q E) s
theorem Env0.make{P:bw}{w:df}{K:bn}{mg:Str->Option bc}{base:Heap}{A:cw}{outer:List Env}{s:bd}{H:Hp}(e:Env0 P w K mg base A outer s H)(C:Addr)(us:List bc)(kw:List (Str×bc)):
  Env0 P w K mg base (A.under (.builtin "type.__call__" ⟨.ref C::us,kw⟩)) outer s H:=⟨by first|exact e.frames|(simpa[Around.under,Code.envs,Code.isFrame,pushEnvs]using e.frames),e.mod,e.bs,e.bsz,e.funs,e.frf,e.hok,e.bare⟩
section
variable {X:Cx}{zc:List (Addr×Obj)}{σ:St}{H:Hp}{s s':bd}
theorem Inv.env0(I:Inv X zc σ H s):Env0 X.prog X.w X.K X.mg X.base X.A X.stack s H:=
 ⟨I.ok.frames,I.ok.mod,I.bs,gg I.ok.bsz I.sz,I.stack,I.stkFree,I.hok,I.bare⟩
theorem Inv.after{Q:VK}{u:bc}(I:Inv X zc σ H s)(h:CE X.stack X.prog X.w H s Q u s'):EP X zc σ Q u s':=by
 obtain⟨v,H',os,bare,un,hok,r,q⟩:=h;obtain⟨hh,g,d,t,p⟩:=s';obtain rfl:p=s.os:=os;exact⟨v,H',I.call (h':=hh) (g':=g) (d':=d) (t':=t) (ch:=[]) un hok bare (fun b z=>absurd z yv),r,q⟩
end
def fO(sp:Sp)(dvs:List V)(E:XK)(t:TA):TE:=fun σ H Q=>t σ H fun vs H1=>sp (vs++dvs) H1 Q E
def Binds(K:bn)(fd:iq)(ps:List Str)(ds:List bc):Prop:=
 ∀(s:bd) (us:List bc),K.In s.heap->(us++ds).length=ps.length->BindsTo s fd ⟨us,[]⟩ (ps.zip (us++ds))
theorem Binds.all{K:bn}{fd:iq}{ps:List Str}(h:∀us:List bc,us.length=ps.length->bindArgs fd ⟨us,[]⟩=pure (ps.zip us)):Binds K fd ps []:=fun s us _ hl=>by
 rw[gu]at hl ⊢;exact .of_eq (h us hl)
def Passes(CX:CXT)(X:Cx)(E:XK):Prop:=∀(zc:List (Addr×Obj)) (σ:St) (H:Hp) (s:bd) (e:bc) (s':bd),Inv X zc σ H s->CX X.stack H s E e s'->X.xe e s'
section
variable {X:Cx}{CX:CXT}{k:Nat}{f C:Addr}{fd:iq}{ps:List Str}{sp:Sp}{dvs:List V}{ds:List bc}{E:XK}{x m:Str}{p pos apos:Pos}{e o:Expr}{es:List Expr}{ta:TE}{t:TA}
theorem DY{zc:List (Addr×Obj)}{σ:St}{H:Hp}{s:bd}{Q:VK}{us:List bc}{vs:List V}(F:FnOk X.prog X.w X.K X.mg X.base CX k f fd ps sp)(hr:Room k X.A)(hb:Binds X.K fd ps ds)(hd:Vals dvs ds)(hx:Passes CX X E)
  (I:Inv X zc σ H s) (r:Vals vs us) (h:sp (vs++dvs) H Q E):bq (model X.prog X.w) X.A (call (.ref f) us) (EP X zc σ Q) X.xe s:=by
 have r2:Vals (vs++dvs) (us++ds):=r.append hd;have hl:(us++ds).length=ps.length:=by rw[<- r2.length];exact F.len _ _ _ _ h
 refine wpAny_call (kv (F.run X.A X.stack s H ⟨us,[]⟩ (us++ds) (vs++dvs) Q E hr I.env0 (hb s us I.kIn hl) r2 h) fun r s' hq=>?_);cases r with
 |error e=>exact hx zc σ H s e s' I hq
 |ok fl=>
  cases fl with
  |ret u=>exact I.after hq
  |next=>exact dh hq
  |brk=>exact dh hq
  |cont=>exact dh hq
theorem rA(F:FnOk X.prog X.w X.K X.mg X.base CX k f fd ps sp)(hr:Room k X.A)(hg:Gl X x)(hm:X.mg x=some (.ref f))(hk:ki X.K (.ref f)=true)(hb:Binds X.K fd ps ds)(hd:Vals dvs ds)(hx:Passes CX X E)
  (ha:PA X (e::es) t) (hdb:(x==("__debug__":Str))=false:=by decide) (he:bv (e::es) X.env=(false,eval e X.env)::bv es X.env:=by rfl) (hpl:(js pos (bv es X.env)).any (·.1)=false:=by rfl):
  PE X (.Call (.Name x p) (e::es) [] pos) (fO sp dvs E t):=by
 intro zc s σ H Q I h;refine io (iV I hg hm ?_ hdb);refine W.callWith_K (h₀:=X.base) I.ok.mod.kin hk (thn (ha pos zc s σ H _ I h) fun us s1 ⟨vs,H1,I1,r,q⟩=>⟨I1.kIn,?_⟩) he hpl;exact DY F hr hb hd hx I1 r q
end
structure FnScope(N P:List Str)(sc:Scope):Prop where
 kind:sc.kind=.function
 co:sc.isCoroutine=false
 gen:sc.isGenerator=false
 nd:N.Nodup
 pre:N.take P.length=P
 par:∀x∈P,sc.names.lookup x=some .local\/sc.names.lookup x=some .cell
 nofree:∀y∈sc.names,y.2≠.free
theorem AG{p:Str->Option jk}{x:Str}:∀{binds:List (Str×bc)}{m:Str->Option bc},(∀v,(x,v)∉binds)->bindL p binds m x=m x
 | [],_,_=>rfl
 | (n,v)::r,m,h=>by
  unfold bindL;rw[AG fun w hw=>h w (ck _ hw)];split
  ·have:x≠n:=by rintro rfl;exact h v dm
   simp[this]
  ·rfl
theorem yH{p:Str->Option jk}{x:Str}:∀{binds:List (Str×bc)}{m:Str->Option bc},(∀v,(x,v)∉binds)->bindC p binds m x=m x
 | [],_,_=>rfl
 | (n,v)::r,m,h=>by
  unfold bindC;rw[yH fun w hw=>h w (ck _ hw)];split
  ·rfl
  ·have:x≠n:=by rintro rfl;exact h v dm
   simp[this]
theorem yN{z:Str->Option jk}{x:Str}{v:bc}:∀{P:List Str}{vs:List bc}{i:Nat}{m:Str->Option bc},P.Nodup->P[i]?=some x->vs[i]?=some v->z x=some .local ->
  bindL z (P.zip vs) m x=some v
 | [],_,_,_,_,h,_,_=>by simp at h
 |_::_,[],_,_,_,_,h,_=>by simp at h
 |p::P,w::vs,0,m,nd,h1,h2,hk=>by
  simp at h1 h2;subst h1;subst h2;show bindL z ((p,w)::P.zip vs) m p=_;unfold bindL;rw[AG fun v hv=>(nodup_cons.mp nd).1 (of_mem_zip hv).1,dw hk];simp
 |p::P,w::vs,i+1,m,nd,h1,h2,hk=>by
  show bindL z ((p,w)::P.zip vs) m x=_;unfold bindL;exact yN (i:=i) (nodup_cons.mp nd).2 (by simpa using h1) (by simpa using h2) hk
theorem AC{z:Str->Option jk}{x:Str}{v:bc}:∀{P:List Str}{vs:List bc}{i:Nat}{m:Str->Option bc},P.Nodup->P[i]?=some x->vs[i]?=some v->z x≠some .local ->
  bindC z (P.zip vs) m x=some v
 | [],_,_,_,_,h,_,_=>by simp at h
 |_::_,[],_,_,_,_,h,_=>by simp at h
 |p::P,w::vs,0,m,nd,h1,h2,hk=>by
  simp at h1 h2;subst h1;subst h2;show bindC z ((p,w)::P.zip vs) m p=_;unfold bindC;rw[yH fun v hv=>(nodup_cons.mp nd).1 (of_mem_zip hv).1,cf hk];simp
 |p::P,w::vs,i+1,m,nd,h1,h2,hk=>by
  show bindC z ((p,w)::P.zip vs) m x=_;unfold bindC;exact AC (i:=i) (nodup_cons.mp nd).2 (by simpa using h1) (by simpa using h2) hk
def start(N:List Str)(vs:List V):St:=vs.map some++bh (N.length-vs.length) none
def bG(CX:CXT)(P:bw)(w:df)(K:bn)(mg:Str->Option bc)(base:Heap)(N:List Str)(qual:Str)(scope:Scope)(f:Addr)(cd:bc)(A:cw)(outer:List Env)(s:bd)(H:Hp)(E:XK):Cx where
 prog:=P
 w:=w
 K:=K
 mg:=mg
 base:=base
 A:=A.deeper (gh qual scope s.heap.objs.size f cd)
 N:=N
 s₀:=s
 H₀:=H
 env:=gh qual scope s.heap.objs.size f cd
 outer:=outer
 stack:=gh qual scope s.heap.objs.size f cd::outer
 ex:=[]
 calm:=true
 fn:=fun _=>true
 pn:=[]
 xe:=fun e s'=>bq (model P w) (A.deeper (gh qual scope s.heap.objs.size f cd)) (leaving (gh qual scope s.heap.objs.size f cd) e) (fun _ s''=>CX outer H s E e s'') (fun e' s''=>CX outer H s E e' s'') s'
theorem uU{sc:Scope}{n:Nat}{x:Str}(h:sc.names.lookup x=some .cell):∃c,(cellsFrom n sc.names []).lookup x=some c:=by
 have q:=kx sc.names n [] (.inl h);exact isSome_iff_exists.mp q
theorem qI{CX:CXT}{P:bw}{w:df}{K:bn}{mg:Str->Option bc}{base:Heap}{N ps:List Str}{qual:Str}{scope:Scope}{f:Addr}{cd:bc}{A:cw}{outer:List Env}{s s1:bd}{H:Hp}{E:XK}{us:List bc}{vs:List V}
  (S:FnScope N ps scope) (hd:A.handled=none) (e0:Env0 P w K mg base A outer s H) (hl:vs.length=ps.length) (r:Vals vs us)
  (x:InCallC s s.heap.objs.size (bindL (gh qual scope s.heap.objs.size f cd).kindOf (ps.zip us) fun _=>none) (cellsFrom (s.heap.objs.size+1) scope.names []) (bindC (gh qual scope s.heap.objs.size f cd).kindOf (ps.zip us) fun _=>none) s1):
  Inv (bG CX P w K mg base N qual scope f cd A outer s H E) [] (start N vs) H s1:=by
 have ae:ps.length<=N.length:=by have:=congrArg List.length S.pre;rw[jl]at this;omega
 obtain⟨h1,tk,rfl,hk⟩:=x.done;have aa:∀b:Addr,b∉(bG CX P w K mg base N qual scope f cd A outer s H E).ex:=fun b z=>absurd (show b∈([]:List Addr)from z) yv;refine⟨⟨e0.mod,S.kind,rfl,rfl,cq _,fun y z c h1 h2=>?_,fun y hy=>?_,fun y c _ h=>?_,fun _=>hd,Around.frames_deeper e0.frames,.inr ⟨rfl,rfl⟩,fun b z=>absurd z (aa b),e0.bs,e0.bsz,fun b _ _=>aa b,fun b z=>absurd z (aa b),e0.funs,e0.frf⟩,
  rfl,e0.bare,Un.kept hk,⟨_,x.toInCall.ns,fun i y v h1 h2 h3=>?_⟩,fun y c h=>⟨_,x.cell y c h⟩,e0.hok.fresh (cq _),fun y c h=>?_,fun p hp=>absurd (show p∈([]:List (Addr×Obj))from hp) yv,e0.hok.kept hk,?_⟩
 ·exact name_of_addr x.apart (PySem.mem_of_lookup h1) (PySem.mem_of_lookup h2)
 ·have hy:scope.names.lookup y=some .cell\/scope.names.lookup y=some .free:=hy;rcases hy with hy|hy
  ·exact uU hy
  ·exact absurd rfl (S.nofree _ (PySem.mem_of_lookup hy))
 ·exact ji (x.above y c (PySem.mem_of_lookup h))
 ·have hi:i<vs.length:=by
   unfold start at h2;by_cases hi:i<vs.length
   ·exact hi
   ·rw[List.getElem?_append_right (by simpa using hi)]at h2;rw[List.getElem?_replicate]at h2;split at h2<;>cases h2
  have ha:vs[i]?=some v:=by
   unfold start at h2;rw[cr (by simpa using hi),gf]at h2;cases e:vs[i]? with
   |none=>rw[e]at h2;cases h2
   |some a=>rw[e]at h2;cases h2;rfl
  obtain⟨u,hu,rv⟩:=r.get ha;have hp:ps[i]?=some y:=by
   rw[<- S.pre,List.getElem?_take_of_lt yw];exact h1
  have ac:ps.Nodup:=by rw[<- S.pre];exact S.nd.sublist (List.take_sublist _ _)
  refine⟨u,rv,?_⟩;rcases S.par y (cn hp)with k|k
  ·exact .inl ⟨k,yN ac hp hu k⟩
  ·obtain⟨c,e⟩:=uU (n:=s.heap.objs.size+1) k;refine .inr ⟨.inl k,c,e,?_⟩;have q:=x.cell y c e;rw[AC ac hp hu (by show scope.names.lookup y≠_;rw[k];decide)]at q;exact q
 ·exact e0.hok.fresh (ji (x.above y c (PySem.mem_of_lookup h)))
 ·unfold start;show _=N.length;rw[bx,cp,List.length_replicate];omega
theorem yU{CX:CXT}{P:bw}{w:df}{K:bn}{mg:Str->Option bc}{base:Heap}{k:Nat}{f:Addr}{name qual:Str}{z:Arguments}{aa:List Stmt}{scope:Scope}{dV kV ae pm p ct oc:bc}{an od:Option Addr}
  {osl:Array (Option bc)}{N ps:List Str}{sp:Sp} (lk:K.lookup f=some ⟨oc,od,.func (ly name qual z aa scope dV kV ae pm an p ct),osl⟩) (hcd:W.codeIn K p qual=true) (S:FnScope N ps scope)
  (len:∀vs H Q E,sp vs H Q E->vs.length=ps.length)
  (hbody:∀(A:cw) (outer:List Env) (s:bd) (H:Hp) (vs:List V) (Q:VK) (E:XK),Room k (A.deeper (gh qual scope s.heap.objs.size f p))->sp vs H Q E ->
   ∃t,PSs (bG CX P w K mg base N qual scope f p A outer s H E) aa t/\t { nx:=fun _ H'=>Q .non H',rt:=Q } (start N vs) H):
  FnOk P w K mg base CX (k+1) f (ly name qual z aa scope dV kV ae pm an p ct) ps sp:=by
 refine⟨len,fun A outer s H args us vs Q E hr e0 hb r af=>?_⟩;have hl:=len _ _ _ _ af;have KX:K.In s.heap:=e0.mod.kin.keeps fun b o e=>(e0.bs b o e).1;have ag:s.heap.NoLimit:=e0.mod.nolimit.keeps fun b o e=>(e0.bs b o e).1;have ac:∀y∈ps.zip us,scope.names.lookup y.1=some .local\/(scope.names.lookup y.1=some .cell/\((cellsFrom (s.heap.objs.size+1) scope.names []).lookup y.1).isSome=true):=fun⟨n,v⟩ hy=>by
  rcases S.par n (of_mem_zip hy).1 with q|q
  ·exact .inl q
  ·exact .inr ⟨q,kx _ _ _ (.inl q)⟩
 refine codeAny_call_function hr.depth (KX _ _ lk) rfl S.co S.gen rfl (W.codeRec_of KX hcd) (hb _ _ _ _ ?_);refine wpAny_newFunctionEnv_cells S.kind ac fun env he s1 x=>?_;subst he;refine⟨ag.keeps x.toInCall.keep,codeAny_func ?_⟩;obtain⟨t,ht,hq⟩:=hbody A outer s H vs Q E (hr.deeper _) af;have I:Inv (bG CX P w K mg base N qual scope f p A outer s H E) [] (start N vs) H s1:=qI S hr.hd e0 hl r x;refine gr (ht [] s1 (start N vs) H _ I hq) (fun fl s' hs=>?_) fun e s' hs=>hs;have fin:∀{σ':St}{H':Hp}{v:V}{u:bc},Inv (bG CX P w K mg base N qual scope f p A outer s H E) [] σ' H' s'->RelV v u->Q v H'->CE outer P w H s Q u s':=
  fun {σ' H' v u} J rv q=>⟨v,H',J.os,J.bare,J.base,J.hok,rv,q⟩
 cases fl with
 |ret u=>
  obtain⟨v,σ',H',J,rv,q⟩:=hs;exact fin J rv q
 |next=>
  obtain⟨σ',H',J,q⟩:=hs;exact fin (v:=V.non) (u:=cu) J rfl q
 |brk=>
  obtain⟨_,_,_,q⟩:=hs;exact dh q
 |cont=>
  obtain⟨_,_,_,q⟩:=hs;exact dh q
end
section
section
variable {X:Cx}{x:Str}{p pos:Pos}{e:Expr}{es:List Expr}{t:TA}{id T:String}{r:List V->Hp->VK->Prop}
def tCB(r:List V->Hp->VK->Prop)(t:TA):TE:=fun σ H Q=>t σ H fun vs H1=>r vs H1 Q
theorem zq(hc:CallR X (.builtin id) r)(hg:Gl X x)(hm:X.mg x=none)(hv:fk x=some (.builtin id))(ha:PA X (e::es) t)(hn:x ≠ "__name__":=by decide)(z:(x==("__debug__":Str))=false:=by decide)
  (he:bv (e::es) X.env=(false,eval e X.env)::bv es X.env:=by rfl) (hpl:(js pos (bv es X.env)).any (·.1)=false:=by rfl):PE X (.Call (.Name x p) (e::es) [] pos) (tCB r t):=by
 intro zc s σ H Q I h;refine io (fD I hg hm hv ?_ hn z);exact PyProof.Rows.callWith_builtin1 (thn (ha pos zc s σ H _ I h) fun us s1 ⟨vs,H1,I1,r1,q1⟩=>hc zc s1 σ H1 vs us Q I1 r1 q1) he hpl
theorem p7(hc:CallR X (.type T) r)(hg:Gl X x)(hm:X.mg x=none)(hv:fk x=some (.type T))(ha:PA X (e::es) t)(hn:x ≠ "__name__":=by decide)(z:(x==("__debug__":Str))=false:=by decide)
  (he:bv (e::es) X.env=(false,eval e X.env)::bv es X.env:=by rfl) (hpl:(js pos (bv es X.env)).any (·.1)=false:=by rfl):PE X (.Call (.Name x p) (e::es) [] pos) (tCB r t):=by
 intro zc s σ H Q I h;refine io (fD I hg hm hv ?_ hn z);exact fz (thn (ha pos zc s σ H _ I h) fun us s1 ⟨vs,H1,I1,r1,q1⟩=>hc zc s1 σ H1 vs us Q I1 r1 q1) he hpl
end
end
end L2
namespace HT
open PySem PyProof.Rows
def lexLt:List Int->List Int->Bool
 | [],[]=>false
 | [],_::_=>true
 |_::_,[]=>false
 |x::xs,y::ys=>if x=y then lexLt xs ys else decide (x<y)
section
variable {prog:bw}{w:df}{A:cw}{E:bc->bd->Prop}{s:bd}
theorem cat_tup{t b:Addr}{vs ws:List bc}{Q:bc->bd->Prop}(ht:IsTup s.heap t vs.toArray)(hb:IsTup s.heap b ws.toArray)(hv:vs≠[])
  (h1:ws=[]->Q (.ref t) s) (h2:ws≠[]->Q (.ref s.heap.objs.size) { s with heap:=s.heap.push { cls:=.type "tuple",data:=.seq (vs++ws).toArray } })
  (hsz:vs.length+ws.length<=bt):bq (model prog w) A (ip .Add (.ref t) (.ref b)) Q E s:=by
 obtain⟨⟨cls,dd,data,sl⟩,ho,hc,n,hd⟩:=id ht;obtain⟨⟨ag,aa,af,ac⟩,p,ae,n2,z⟩:=id hb;simp only at hc hd ae z;subst hc hd ae z;have e:vs.toArray++ws.toArray=(vs++ws).toArray:=by simp
 by_cases hw:ws=[]
 ·exact concat_meets ⟨_,ho,rfl⟩ ⟨_,p,rfl⟩ noFill_tuple_add seq_tuple_add PySem.F.slot_tuple_add PySem.F.entry_tuple_add (PySem.F.args_tuple_add_2 _ _)
   (tuple_addW1 t b vs.toArray ws.toArray n n2 dd aa sl ac (by simpa using hv) (by simp[hw])) ⟨ho,p,h1 hw⟩
 ·refine concat_meets ⟨_,ho,rfl⟩ ⟨_,p,rfl⟩ noFill_tuple_add seq_tuple_add PySem.F.slot_tuple_add PySem.F.entry_tuple_add (PySem.F.args_tuple_add_2 _ _)
   (tuple_addW2 t b vs.toArray ws.toArray n n2 dd aa sl ac (by simpa using hv) (by simpa using hw) (by rw[cm,cm];exact hsz)) ⟨ho,p,?_⟩
  rw[e];exact h2 hw
def sIx(n d:Nat):Option Int->Nat
 |none=>d
 |some v=>if v<0 then (v+(n:Int)).toNat else min v.toNat n
theorem sIx_nat(n d k:Nat):sIx n d (some (k:Int))=min k n:=by
 show (if (k:Int)<0 then ((k:Int)+(n:Int)).toNat else min (k:Int).toNat n)=min k n;rw[cf yw,Int.toNat_natCast]
theorem BD(n d:Nat)(hd:d<=n)(o:Option Int):sIx n d o<=n:=by
 cases o with
 |none=>exact hd
 |some v=>
  show (if v<0 then (v+(n:Int)).toNat else min v.toNat n)<=n;by_cases hv:v<0
  ·rw[dw hv];omega
  ·rw[cf hv];exact Nat.min_le_right _ _
theorem wH(v:Int)(n d:Nat):(if v<0 then max (v+(n:Int)) 0 else min v (n:Int))=((sIx n d (some v):Nat):Int):=by
 show (if v<0 then max (v+(n:Int)) 0 else min v (n:Int))=(((if v<0 then (v+(n:Int)).toNat else min v.toNat n):Nat):Int);by_cases hv:v<0
 ·simp only[dw hv];omega
 ·simp only[cf hv];omega
theorem DV(lo hi:Option Int)(n:Nat):Builtin.Slice.sliceAdjust lo hi 1 (n:Int)=(((sIx n 0 lo:Nat):Int),((sIx n n hi:Nat):Int)):=by
 have h1:¬((1:Int)<0):=yw
 unfold Builtin.Slice.sliceAdjust;simp only[h1,if_false];refine Prod.ext ?_ ?_
 ·cases lo with
  |none=>rfl
  |some v=>exact wH v n 0
 ·cases hi with
  |none=>rfl
  |some v=>exact wH v n n
theorem Be(i j:Nat):Builtin.Slice.slicePlaces (i:Int) (j:Int) 1=j-i:=by
 unfold Builtin.Slice.slicePlaces;have h1:(1:Int)>0:=yw
 simp only[h1,if_true,Int.ediv_one];split<;>omega
theorem wM{v:bc}{o:Option Int}{Q:Option Int->bd->Prop}(p:IsPart v o)(h:Q o s):bq (model prog w) A (Builtin.Slice.slicePartIndex v) Q E s:=by
 cases p with
 |none=>exact slicePart_none h
 |int i t=>exact slicePart_int h
theorem Bh{sl:Addr}{vl vu:bc}{lo hi:Option Int}{n:Nat}{Q:Int×Int×Nat->bd->Prop}(hs:s.heap.IsSliceOf sl vl vu .none)(pl:IsPart vl lo)(pu:IsPart vu hi)
  (h:Q (((sIx n 0 lo:Nat):Int),1,sIx n n hi-sIx n 0 lo) s):bq (model prog w) A (Builtin.Slice.sliceApplied (.ref sl) (pure (n:Int))) Q E s:=by
 obtain⟨os,p,aa,z⟩:=id hs;unfold Builtin.Slice.sliceApplied Builtin.Slice.sliceFields;refine bb (bb (cy p z (x:=vl) rfl (bb (cy p z (x:=vu) rfl (bb (cy p z (x:=.none) rfl (bo ?_)))))));refine bb (slicePart_none ?_);show bq _ _ (if ((1:Int)==0)=true then _ else _) _ _ s;rw[cf dz];refine bb (wM pl (bb (wM pu (bb (bo ?_)))));show bq _ _ (match Builtin.Slice.sliceAdjust lo hi 1 (n:Int)with|(lo,hi)=>pure (lo,(1:Int),Builtin.Slice.slicePlaces lo hi 1)) _ _ s;rw[DV lo hi n];show bq _ _ (pure (((sIx n 0 lo:Nat):Int),(1:Int),Builtin.Slice.slicePlaces ((sIx n 0 lo:Nat):Int) ((sIx n n hi:Nat):Int) 1)) _ _ s;rw[Be];exact bo h
theorem B8(xs:Array bc)(i k:Nat):((fy k).filterMap fun(m:Nat)=>xs[((i:Int)+(m:Int)*1).toNat]?).toArray=((xs.toList.drop i).take k).toArray:=by
 have e:(fun(m:Nat)=>xs[((i:Int)+(m:Int)*1).toNat]?)=fun m=>xs[i+m]?:=by
  funext m;have:((i:Int)+(m:Int)*1).toNat=i+m:=yw
  rw[this]
 rw[e];have:=pick_run xs i k;rw[List.filterMap_map]at this;have e2:((fun x=>xs[x]?)∘fun x=>i+x)=fun m=>xs[i+m]?:=rfl;rw[e2]at this;rw[this]
theorem getItem_tuple_cut{t sl:Addr}{p:Array bc}{vl vu:bc}{lo hi:Option Int}{Q:bc->bd->Prop}(ht:IsTup s.heap t p)(hs:s.heap.IsSliceOf sl vl vu .none)(pl:IsPart vl lo)(pu:IsPart vu hi)
  (hw:¬(sIx p.size 0 lo=0/\sIx p.size p.size hi=p.size))
  (h:Q (.ref s.heap.objs.size) { s with heap:=s.heap.push { cls:=.type "tuple",data:=.seq ((p.toList.drop (sIx p.size 0 lo)).take (sIx p.size p.size hi-sIx p.size 0 lo)).toArray } })
  (hsz:p.size<=bt):bq (model prog w) A (getItem (.ref t) (.ref sl)) Q E s:=by
 have z:sizeOk (.seq ((p.toList.drop (sIx p.size 0 lo)).take (sIx p.size p.size hi-sIx p.size 0 lo)).toArray):=by
  show ((p.toList.drop (sIx p.size 0 lo)).take (sIx p.size p.size hi-sIx p.size 0 lo)).toArray.size<=bt;rw[cm,jl,length_drop,length_toList];omega
 have hj:sIx p.size p.size hi<=p.size:=BD _ _ (cq _) hi;obtain⟨os,aa,ac,ag⟩:=id hs;have ae:s.TypeIs (.ref sl) "slice":=⟨os,aa,ac⟩;unfold getItem
 try with_reducible refine ic ?_
 first|refine bb (bo ?_)|skip
 refine bb (wpAny_sequenceKey ht.typeIs dz ?_);refine bb (fr (name:=jx "__getitem__") ht.typeIs PyProof.Rows.slot_tuple_getitem
  (gw PyProof.Rows.slot_tuple_getitem ht.typeIs entry_tuple_getitem ?_ (args_tuple_getitem _ _)))
 show bq _ _ (Builtin.Tuple.tupleItemsOf (.ref t) >>= _) _ _ s;refine bb (tupleItemsOf_ ht ?_);refine bb (wpAny_typeOf ae ?_);rw[dw dz];refine bb (Bh hs pl pu ?_);have af:¬((((sIx p.size 0 lo:Nat):Int)==0&&(1:Int)==1&&(sIx p.size p.size hi-sIx p.size 0 lo)==p.size)=true):=by
  intro q;rw[gx,gx]at q;have q1:((sIx p.size 0 lo:Nat):Int)=0:=eq_of_beq q.1.1;have q2:sIx p.size p.size hi-sIx p.size 0 lo=p.size:=eq_of_beq q.2;exact hw ⟨yw,yw⟩
 show bq _ _ (if (((sIx p.size 0 lo:Nat):Int)==0&&(1:Int)==1&&(sIx p.size p.size hi-sIx p.size 0 lo)==p.size)=true then _ else _) _ _ s;rw[cf af,B8]
 first
  |exact bb (m:=Builtin.Tuple.tupleExact _) (fg (bo ⟨_,rfl,bo h⟩) z)
  |exact bb (m:=Builtin.Tuple.tupleExact _) (fg (bb (bo (bo ⟨_,rfl,bo h⟩))) z)
  |exact bb (bb (m:=Builtin.Tuple.tupleExact _) (fg (bo (bo ⟨_,rfl,bo h⟩)) z))
  |exact bb (bb (m:=Builtin.Tuple.tupleExact _) (fg (bo ⟨_,rfl,bo h⟩) z))
end
end HT
namespace L2
open PySem PySem.Spec PyProof.Rows
section
abbrev TO:=St->Hp->(Option Int->Hp->Prop)->Prop
def PO(X:Cx)(e:Option Expr)(t:TO):Prop:=
 ∀(zc:List (Addr×Obj)) (s:bd) (σ:St) (H:Hp) (Q:Option Int->Hp->Prop),Inv X zc σ H s->t σ H Q ->
  bq (model X.prog X.w) X.A (evalPart e X.env) (fun u s'=>∃o H',Inv X zc σ H' s'/\IsPart u o/\Q o H') X.xe s
def AE:TO:=fun _ H Q=>Q none H
def i7(t:TE):TO:=fun σ H Q=>t σ H fun x H1=>∃i,x=.int i/\Q (some i) H1
section
variable {X:Cx}{e:Expr}{te:TE}{lo hi:Option Expr}{tl th:TO}{pos p2:Pos}
theorem jV:PO X none AE:=by
 intro zc s σ H Q I h;rw[evalPart_none];exact bo ⟨none,H,I,.none,h⟩
theorem gB(h:PE X e te):PO X (some e) (i7 te):=by
 intro zc s σ H Q I hw;rw[evalPart_some];refine thn (h zc s σ H _ I hw) fun u s1 ⟨x,H1,I1,r1,q1⟩=>?_;obtain⟨i,rfl,q⟩:=q1;obtain⟨t,rfl⟩:=r1;exact⟨some i,H1,I1,.int i t,q⟩
def SlR(X:Cx)(r:V->Option Int->Option Int->Hp->VK->Prop):Prop:=
 ∀(zc:List (Addr×Obj)) (s:bd) (σ:St) (H:Hp) (x:V) (v vl vu:bc) (lo hi:Option Int) (sl:Addr) (Q:VK),Inv X zc σ H s->RelV x v->s.heap.IsSliceOf sl vl vu .none->IsPart vl lo->IsPart vu hi->r x lo hi H Q ->
  ∃T id,typeLookup (.type T) "__getitem__" = pure (some (.builtin id))/\s.TypeIs v T/\bq (model X.prog X.w) X.A (getItem v (.ref sl)) (EP X zc σ Q) X.xe s
theorem SlR.or{r r':V->Option Int->Option Int->Hp->VK->Prop}(h:SlR X r)(h':SlR X r'):SlR X (fun x lo hi H Q=>r x lo hi H Q\/r' x lo hi H Q):=by
 intro zc s σ H x v vl vu lo hi sl Q I rx hs pl pu q;rcases q with q|q
 ·exact h zc s σ H x v vl vu lo hi sl Q I rx hs pl pu q
 ·exact h' zc s σ H x v vl vu lo hi sl Q I rx hs pl pu q
def tSl(r:V->Option Int->Option Int->Hp->VK->Prop)(te:TE)(tl th:TO):TE:=fun σ H Q=>te σ H fun x H1=>tl σ H1 fun l H2=>th σ H2 fun u H3=>r x l u H3 Q
theorem iT{r:V->Option Int->Option Int->Hp->VK->Prop}(hr:SlR X r)(he:PE X e te)(hl:PO X lo tl)(hu:PO X hi th):PE X (.Subscript e (.Slice lo hi none p2) pos) (tSl r te tl th):=by
 intro zc s σ H Q I h;refine Subscript_ (thn (he zc s σ H _ I h) fun v s1 ⟨x,H1,I1,r1,q1⟩=>?_);refine wpAny_Slice (thn (hl zc s1 σ H1 _ I1 q1) fun vl s2 ⟨l,H2,I2,pl,q2⟩=>thn (hu zc s2 σ H2 _ I2 q2) fun vu s3 ⟨u,H3,I3,pu,q3⟩=>?_);rw[evalPart_none];refine bo ?_;have I4:Inv X zc σ H3 { s3 with heap:=s3.heap.push { cls:=.type "slice",data:=.fields #[vl,vu,.none] } }:=I3.kept (t':=s3.toks) fun b ob q=>bg _ q;obtain⟨T,id,hT,ht,hg⟩:=hr zc { s3 with heap:=s3.heap.push { cls:=.type "slice",data:=.fields #[vl,vu,.none] } } σ H3 x v vl vu l u s3.heap.objs.size Q I4 r1 (Heap.IsSliceOf.new ..) pl pu q3;show bq (model X.prog X.w) X.A (subscriptTail e (.Slice lo hi none p2) v (.ref s3.heap.objs.size)) (EP X zc σ Q) X.xe { s3 with heap:=s3.heap.push { cls:=.type "slice",data:=.fields #[vl,vu,.none] } };exact tail_any (ops:=[.ref s3.heap.objs.size,v]) ht hT hg (by with_unfolding_all rfl)
def cC(xs:List V)(lo hi:Option Int):List V:=(xs.drop (HT.sIx xs.length 0 lo)).take (HT.sIx xs.length xs.length hi-HT.sIx xs.length 0 lo)
theorem rO(xs:List V)(lo hi:Option Int):(cC xs lo hi).length<=xs.length:=by
 unfold cC;rw[jl,length_drop];omega
def qJ(K:bn):V->Option Int->Option Int->Hp->VK->Prop:=fun x lo hi H Q=>∃a xs,x=.ref a/\SqT K H a xs /\
 ¬(HT.sIx xs.length 0 lo=0/\HT.sIx xs.length xs.length hi=xs.length)/\∀p,H p=none->Q (.ref p) (upd H p (.tup (cC xs lo hi)))
theorem FH:SlR X (qJ X.K):=by
 intro zc s σ H x v vl vu lo hi sl Q I rx hs pl pu h;obtain⟨a,xs,rfl,hx,hw,q⟩:=h;cases rx;obtain⟨z,r,ht,hz⟩:=I.tuple hx;have p:z.toArray.size=xs.length:=by rw[cm];exact r.length.symm
 refine⟨"tuple",_,PyProof.Rows.slot_tuple_getitem.lookup,ht.typeIs,?_⟩;refine HT.getItem_tuple_cut ht hs pl pu (by rw[p];exact hw) ?_ (by rw[p];exact hz);rw[p];refine⟨.ref s.heap.objs.size,_,I.laid (t':=s.toks) (o:=.tup (cC xs lo hi)) (fun b ob q=>bg _ q) (cq _) ?_,rfl,q _ (I.hok.fresh (cq _))⟩;exact⟨⟨gg (rO xs lo hi) hz,_,bu _ rfl,rfl⟩,_,(r.drop (HT.sIx xs.length 0 lo)).take (HT.sIx xs.length xs.length hi-HT.sIx xs.length 0 lo),IsTup.new _ _⟩
def rG(K:bn):R2:=fun x y H Q=>∃a b xs ys,x=.ref a/\y=.ref b/\SqT K H a xs/\SqT K H b ys/\xs≠[]/\xs.length+ys.length<=bt /\
 (ys=[]->Q (.ref a) H)/\(ys≠[]->∀p,H p=none->Q (.ref p) (upd H p (.tup (xs++ys))))
theorem Vals.nil_iff{xs:List V}{us:List bc}(r:Vals xs us):us=[]↔xs=[]:=by
 cases r with
 |nil=>simp
 |cons _ _=>simp
theorem DF:OpR X (ip .Add) (rG X.K):=by
 intro zc s σ H x y v u Q I rx ry h;obtain⟨a,b,xs,ys,rfl,rfl,ha,hb,hx,hz,q1,q2⟩:=h;cases rx;cases ry;obtain⟨aa,r1,p1,_⟩:=I.tuple ha;obtain⟨p,r2,p2,_⟩:=I.tuple hb;refine HT.cat_tup p1 p2 (fun z=>hx (r1.nil_iff.mp z)) (fun z=>⟨.ref a,H,I,rfl,q1 (r2.nil_iff.mp z)⟩) (fun z=>?_) (by rw[<- r1.length,<- r2.length];exact hz);refine⟨.ref s.heap.objs.size,_,I.laid (t':=s.toks) (o:=.tup (xs++ys)) (fun b ob q=>bg _ q) (cq _) ?_,rfl,q2 (fun w=>z (r2.nil_iff.mpr w)) _ (I.hok.fresh (cq _))⟩;exact⟨⟨by rw[bx];exact hz,_,bu _ rfl,rfl⟩,_,r1.append r2,IsTup.new _ _⟩
end
end
section
def ixN(n:Nat)(i:Int):Option Nat:=if 0<=i then (if i<n then some i.toNat else none)else if -(n:Int)<=i then some (i+n).toNat else none
def atI{α:Type}(xs:List α)(i:Int):Option α:=(ixN xs.length i).bind fun j=>xs[j]?
theorem tZ{n:Nat}{i:Int}{j:Nat}(h:ixN n i=some j):seqIndex? i n=some j/\j<n/\-(n:Int)<=i/\i<n:=by
 unfold ixN at h;by_cases h0:0<=i
 ·rw[dw h0]at h;by_cases h1:i<n
  ·rw[dw h1]at h;have e:i.toNat=j:=fe h;exact⟨by rw[seqIndex_of h0 h1,e],yw,yw,h1⟩
  ·rw[cf h1]at h;cases h
 ·rw[cf h0]at h;by_cases h1:-(n:Int)<=i
  ·rw[dw h1]at h;have e:(i+n).toNat=j:=fe h;exact⟨by rw[seqIndex_neg yw h1,e],yw,h1,yw⟩
  ·rw[cf h1]at h;cases h
theorem rL{α:Type}{xs:List α}{i:Int}{v:α}(h:atI xs i=some v):∃j,seqIndex? i xs.length=some j/\xs[j]?=some v/\j<xs.length/\-(xs.length:Int)<=i/\i<xs.length:=by
 unfold atI at h;cases e:ixN xs.length i with
 |none=>rw[e]at h;cases h
 |some j=>
  rw[e]at h;obtain⟨h1,h2,h3,h4⟩:=tZ e;exact⟨j,h1,h,h2,h3,h4⟩
theorem dR{α:Type}{xs:List α}{j:Nat}{v:α}(h:xs[j]?=some v):atI xs (j:Int)=some v:=by
 have hj:j<xs.length:=(List.getElem?_eq_some_iff.mp h).1;have e:ixN xs.length (j:Int)=some j:=by
  unfold ixN;rw[dw yw,dw yw];simp
 unfold atI;rw[e];exact h
theorem FM{α:Type}(xs:List α)(v:α):atI (xs++[v]) (-1)=some v:=by
 have hl:(xs++[v]).length=xs.length+1:=by simp
 have e:ixN (xs++[v]).length (-1)=some xs.length:=by
  unfold ixN;rw[hl,cf dz,dw yw];congr 1;omega
 unfold atI;rw[e];show (xs++[v])[xs.length]?=some v;simp
def PlainIx(b:Expr):Prop:=∀o i,subscripted b false o i=operate [o,i] (getItem o i)
def IxR(X:Cx)(r:R2):Prop:=
 ∀(value slice:Expr) (zc:List (Addr×Obj)) (s:bd) (σ:St) (H:Hp) (x y:V) (v u:bc) (Q:VK),Inv X zc σ H s->RelV x v->RelV y u->r x y H Q ->
  subscripted slice false v u=operate [v,u] (getItem v u)->bq (model X.prog X.w) X.A (subscriptTail value slice v u) (EP X zc σ Q) X.xe s
def MtR(X:Cx)(id:String)(r:V->List V->Hp->VK->Prop):Prop:=
 ∀(zc:List (Addr×Obj)) (s:bd) (σ:St) (H:Hp) (x:V) (xs:List V) (v:bc) (us:List bc) (Q:VK),Inv X zc σ H s->RelV x v->Vals xs us->r x xs H Q ->
  bq (model X.prog X.w) X.A (call (.builtin id) (v::us)) (EP X zc σ Q) X.xe s
section
variable {X:Cx}{a b:Expr}{ta tb:TE}{pos:Pos}
theorem IxR.or{r r':R2}(h:IxR X r)(h':IxR X r'):IxR X (fun x y H Q=>r x y H Q\/r' x y H Q):=by
 intro value p zc s σ H x y v u Q I rx ry q hs;rcases q with q|q
 ·exact h value p zc s σ H x y v u Q I rx ry q hs
 ·exact h' value p zc s σ H x y v u Q I rx ry q hs
theorem aO{r:R2}(hr:IxR X r)(ha:PE X a ta)(hb:PE X b tb)(hs:PlainIx b):PE X (.Subscript a b pos) (tOp r ta tb):=by
 intro zc s σ H Q I h;exact Subscript_ (qL ha hb I h fun v u s2 x y H2 I2 rx ry q=>hr a b zc s2 σ H2 x y v u Q I2 rx ry q (hs _ _))
def rY(K:bn):R2:=fun x y H Q=>∃p xs i v,x=.ref p/\y=.int i/\SqL K H p xs/\atI xs i=some v/\Q v H
def qY(K:bn):R2:=fun x y H Q=>∃p xs i v,x=.ref p/\y=.int i/\SqT K H p xs/\atI xs i=some v/\Q v H
def qQ:R2:=fun x y H Q=>∃z i c,x=.str z/\y=.int i/\z.length<=bt/\atI z.cps.toList i=some c/\Q (.str ⟨#[c]⟩) H
theorem u7:IxR X (rY X.K):=by
 intro value ae zc s σ H x y v u Q I rx ry h hs;obtain⟨p,xs,i,z,rfl,rfl,hq,he,q⟩:=h;cases rx;obtain⟨t,rfl⟩:=ry;obtain⟨aa,r,pl,hz⟩:=I.list hq;obtain⟨j,h1,h2,h3,h4,h5⟩:=rL he;obtain⟨w,ew,ac⟩:=r.get h2;have hl:=r.length;have hn:=line63;have fin:EP X zc σ Q w s:=⟨z,H,I,ac,q⟩;by_cases h0:0<=i
 ·have hj:i.toNat=j:=by
   rw[seqIndex_of h0 h5]at h1;exact fe h1
  exact item_listR pl.isList h0 yw (by rw[hj];simpa using ew) fin hs
 ·have hj:(i+(aa.toArray.size:Int)).toNat=j:=by
   rw[seqIndex_neg yw h4]at h1;rw[cm,<- hl];exact fe h1
  exact subscriptTail_builtinR (x:=w) pl.isList.typeIs slot_list_getitem.lookup
   (wpAny_getItem_list_neg (Q:=fun r s'=>r=w/\EP X zc σ Q r s') pl.isList yw (by rw[cm]<;>omega) yw (by rw[hj];simpa using ew) ⟨rfl,fin⟩) hs
theorem EQ:IxR X (qY X.K):=by
 intro value ac zc s σ H x y v u Q I rx ry h hs;obtain⟨p,xs,i,z,rfl,rfl,hq,he,q⟩:=h;cases rx;obtain⟨t,rfl⟩:=ry;obtain⟨ae,r,pl,hz⟩:=I.tuple hq;obtain⟨j,h1,h2,h3,h4,h5⟩:=rL he;obtain⟨w,ew,aa⟩:=r.get h2;have hl:=r.length;have hn:=line63;have fin:EP X zc σ Q w s:=⟨z,H,I,aa,q⟩;exact subscriptTail_builtinR (x:=w) pl.typeIs slot_tuple_getitem.lookup
  (getItem_tuple (j:=j) (Q:=fun r s'=>r=w/\EP X zc σ Q r s') pl yw yw (by rw[cm,<- hl];exact h1) (by simpa using ew) ⟨rfl,fin⟩) hs
theorem DP:IxR X qQ:=by
 intro value p zc s σ H x y v u Q I rx ry h hs;obtain⟨z,i,c,rfl,rfl,hz,he,q⟩:=h;obtain⟨t,rfl⟩:=rx;obtain⟨t',rfl⟩:=ry;obtain⟨j,h1,h2,h3,h4,h5⟩:=rL he;have hl:z.cps.toList.length=z.length:=by simp[Str.length]
 rw[hl]at h1 h4 h5;have hn:=line63;exact tail_any (typeIs_str s z t) slot_str_getitem.lookup (getItem_str (c:=c) (by
  have e1:decide (i < -(2 ^ 63:Int))=false:=gl yw;have e2:decide (i≥2 ^ 63)=false:=gl yw;rw[e1,e2,Bool.or_false]) (by rw[h1];simpa using h2) ⟨.str ⟨#[c]⟩,H,I.tok _,⟨_,rfl⟩,q⟩) hs
def rIx(K:bn):R2:=fun x y H Q=>rY K x y H Q\/qY K x y H Q\/qQ x y H Q
theorem aP:IxR X (rIx X.K):=u7.or (EQ.or DP)
theorem E9(p:List bc)(n j:Nat)(u:bc):jo (·.setIfInBounds j u) { cls:=.type "list",data:=.seq p.toArray n } = { cls:=.type "list",data:=.seq (p.set j u).toArray n }:=by
 simp[jo]
theorem Inv.lst{zc:List (Addr×Obj)}{σ:St}{H:Hp}{s:bd}{p:Addr}{xs:List V}(I:Inv X zc σ H s)(h:H p=some (.lst xs)):
  ∃(aa:List bc) (n:Nat),Vals xs aa/\s.heap.get? p=some { cls:=.type "list",data:=.seq aa.toArray n }/\xs.length<=bt:=by
 obtain⟨z,aa,n,r,e⟩:=I.hok p _ h;exact⟨aa,n,r,e,z⟩
theorem Inv.lstUpd{zc:List (Addr×Obj)}{σ:St}{H:Hp}{s:bd}{p:Addr}{xs ys:List V}{z its':List bc}{n n':Nat}{f:Obj->Obj}(I:Inv X zc σ H s)(h:H p=some (.lst xs))
  (ho:s.heap.get? p=some { cls:=.type "list",data:=.seq z.toArray n }) (hf:f { cls:=.type "list",data:=.seq z.toArray n } = { cls:=.type "list",data:=.seq its'.toArray n' }) (r:Vals ys its') (hz:ys.length<=bt) (t:Nat):
  Inv X zc σ (upd H p (.lst ys)) { s with heap:=s.heap.update p f,toks:=t }:=by
 have e:(s.heap.update p f).get? p=some { cls:=.type "list",data:=.seq its'.toArray n' }:=by
  rw[ft f ho (by rw[hf]<;>rfl),hf]
 refine I.write (x:=p) (e:=p) (by rw[h];trivial) (.inl rfl) (fun b u hb q=>(fu _ _ (dy hb)).trans q) ⟨_,e⟩ ?_;exact⟨hz,its',n',r,e⟩
def tD:V->V->V->Hp->(Hp->Prop)->Prop:=fun o i v H Q=>∃p xs k j,o=.ref p/\i=.int k/\H p=some (.lst xs)/\ixN xs.length k=some j/\Q (upd H p (.lst (xs.set j v)))
theorem wI:PSet X tD:=by
 intro zc s σ H o i v ov iv u Q I ro ri rv h;obtain⟨p,xs,k,j,rfl,rfl,hp,hj,q⟩:=h;cases ro;obtain⟨t,rfl⟩:=ri;obtain⟨z,n,r,ho,hz⟩:=I.lst hp;obtain⟨h1,h2,h3,h4⟩:=tZ hj;have hl:=r.length;have hn:=line63;have I':Inv X zc σ (upd H p (.lst (xs.set j v))) { s with heap:=s.heap.update p (jo (·.setIfInBounds j u)) } :=
  I.lstUpd hp ho (E9 z n j u) (r.set rv j) (by rw[length_set];exact hz) s.toks
 by_cases h0:0<=k
 ·have hk:k.toNat=j:=by
   rw[seqIndex_of h0 h4]at h1;exact fe h1
  exact W.ki_setAt ho h0 yw (by rw[cm,<- hl];exact h4) (by rw[hk];exact⟨_,I',q⟩)
 ·have hk:(k+(z.toArray.size:Int)).toNat=j:=by
   rw[seqIndex_neg yw h3]at h1;rw[cm,<- hl];exact fe h1
  exact W.ki_setBack ho yw (by rw[cm,<- hl];exact h3) yw (by rw[hk];exact⟨_,I',q⟩)
theorem Bb(lo hi:Option Int)(n:Nat):(lw lo hi none n).1=((HT.sIx n 0 lo:Nat):Int)/\(lw lo hi none n).2.1=((HT.sIx n n hi:Nat):Int)/\(lw lo hi none n).2.2=1:=by
 refine⟨?_,?_,rfl⟩
 ·cases lo with
  |none=>simp[lw,HT.sIx]
  |some i=>
   simp only[lw,HT.sIx,Option.getD_none,show (1:Int)>0 by decide,if_true];by_cases h:i<0
   ·simp only[h,if_true]<;>omega
   ·simp only[h,if_false]<;>omega
 ·cases hi with
  |none=>simp[lw,HT.sIx]
  |some i=>
   simp only[lw,HT.sIx,Option.getD_none,show (1:Int)>0 by decide,if_true];by_cases h:i<0
   ·simp only[h,if_true]<;>omega
   ·simp only[h,if_false]<;>omega
theorem Bl(p:List bc)(lo hi:Option Int):slicePick p.toArray lo hi none=((p.drop (HT.sIx p.length 0 lo)).take (HT.sIx p.length p.length hi-HT.sIx p.length 0 lo)).toArray:=by
 obtain⟨h1,h2,h3⟩:=Bb lo hi p.toArray.size;unfold slicePick;rw[h1,h2,h3];simp only[sliceRange_one,pick_run,cm]<;>rfl
def kQ(K:bn):V->Option Int->Option Int->Hp->VK->Prop:=fun x lo hi H Q=>∃a xs,x=.ref a/\SqL K H a xs/\∀p,H p=none->Q (.ref p) (upd H p (.lst (cC xs lo hi)))
theorem sW:SlR X (kQ X.K):=by
 intro zc s σ H x v vl vu lo hi sl Q I rx hs pl pu h;obtain⟨a,xs,rfl,hx,q⟩:=h;cases rx;obtain⟨z,r,ht,hz⟩:=I.list hx;have p:=r.length;refine⟨"list",_,slot_list_getitem.lookup,ht.isList.typeIs,?_⟩;refine wpAny_getItem_list_slice ht.isList hs pl pu .none yv ?_ (by rw[cm]<;>omega);rw[Bl,<- p];refine⟨.ref s.heap.objs.size,_,I.laid (t':=s.toks) (o:=.lst (cC xs lo hi)) (fun b ob q=>bg _ q) (cq _) ?_,rfl,q _ (I.hok.fresh (cq _))⟩;exact⟨gg (rO xs lo hi) hz,_,0,(r.drop (HT.sIx xs.length 0 lo)).take (HT.sIx xs.length xs.length hi-HT.sIx xs.length 0 lo),bu _ rfl⟩
theorem wQ:CallR X (.builtin "len") (fun xs H Q=>∃p ys,xs=[.ref p]/\(SqL X.K H p ys\/SqT X.K H p ys)/\Q (.int ys.length) H):=by
 intro zc s σ H xs us Q I r h;obtain⟨p,ys,rfl,hq,q⟩:=h;obtain⟨u,rfl,rx⟩:=vals1 r;cases rx;have hn:=line63;rcases hq with hq|hq
 ·obtain⟨aa,r',pl,hz⟩:=I.list hq;have z:=r'.length;exact Calls.call_len_list pl.isList (by simp only[cm]<;>omega) ⟨.int ys.length,H,I.tok _,⟨s.toks+1,by rw[cm,z]⟩,q⟩
 ·obtain⟨aa,r',pl,hz⟩:=I.tuple hq;have z:=r'.length;exact len_tuple pl (by simp only[cm]<;>omega) ⟨.int ys.length,H,I.tok _,⟨s.toks+1,by rw[cm,z]⟩,q⟩
theorem Bq:CallR X (.builtin "len") (fun xs H Q=>∃z,xs=[.str z]/\z.length<=bt/\Q (.int z.length) H):=by
 intro zc s σ H xs us Q I r h;obtain⟨z,rfl,hz,q⟩:=h;obtain⟨u,rfl,t,rfl⟩:=vals1 r;have hn:=line63;exact len_str yw ⟨.int z.length,H,I.tok _,⟨_,rfl⟩,q⟩
theorem CallR.or{f:bc}{r r':List V->Hp->VK->Prop}(h:CallR X f r)(h':CallR X f r'):CallR X f (fun xs H Q=>r xs H Q\/r' xs H Q):=by
 intro zc s σ H xs us Q I rs q;rcases q with q|q
 ·exact h zc s σ H xs us Q I rs q
 ·exact h' zc s σ H xs us Q I rs q
theorem vT:CallR X (.type "tuple") (fun xs H Q=>∃p ys,xs=[.ref p]/\((SqL X.K H p ys/\∀l,H l=none->Q (.ref l) (upd H l (.tup ys)))\/(SqT X.K H p ys/\Q (.ref p) H))):=by
 intro zc s σ H xs us Q I r h;obtain⟨p,ys,rfl,h⟩:=h;obtain⟨u,rfl,rx⟩:=vals1 r;cases rx;rcases h with ⟨hq,q⟩|⟨hq,q⟩
 ·obtain⟨z,r',pl,hz⟩:=I.list hq;have aa:=r'.length;refine call_tuple_list pl.isList (fun h' kp=>?_) (by simp only[cm]<;>omega);have I1:Inv X zc σ H { s with heap:=h' }:=I.kept (t':=s.toks) kp;have I2:Inv X zc σ (upd H h'.objs.size (.tup ys)) { s with heap:=h'.push { cls:=.type "tuple",data:=.seq z.toArray } } :=
   I1.laid (t':=s.toks) (fun b o e=>bg _ e) (cq _) (show ObjOk X.prog X.w _ _ _ (.tup ys)from⟨⟨hz,_,bu _ rfl,rfl⟩,z,r',IsTup.new _ _⟩)
  exact⟨.ref h'.objs.size,_,I2,rfl,q _ (I1.hok.fresh (cq _))⟩
 ·obtain⟨z,r',pl,hz⟩:=I.tuple hq;exact call_tuple_same pl ⟨.ref p,H,I,rfl,q⟩
def tyV(K:bn)(T:String)(x:V)(H:Hp):Prop:=match x with
 | .str _=>T = "str"
 | .int _=>T = "int"
 | .ref p=>(T = "list"/\∃xs,SqL K H p xs)\/(T = "tuple"/\∃o,K.lookup p=some o/\o.cls=.type "tuple"/\o.dict=none) \/
   (T = "dict"/\((∃kvs,H p=some (.dK kvs))\/∃kvs,H p=some (.dT kvs)))\/(T = "set"/\∃S n,H p=some (.set S n))
 |_=>False
theorem uR{zc:List (Addr×Obj)}{σ:St}{H:Hp}{s:bd}{T:String}{x:V}{v:bc}(I:Inv X zc σ H s)(r:RelV x v)(ty:tyV X.K T x H):
  s.TypeIs v T/\∀a,v=.ref a->∃ob,s.heap.get? a=some ob/\ob.dict=none:=by
 cases x with
 |str z=>
  obtain⟨t,rfl⟩:=r;cases (show T = "str" from ty);exact⟨typeIs_str s z t,fun _ e=>nomatch e⟩
 |int i=>
  obtain⟨t,rfl⟩:=r;cases (show T = "int" from ty);exact⟨typeIs_int s i t,fun _ e=>nomatch e⟩
 |ref p=>
  cases r;rcases ty with ⟨rfl,xs,hq⟩|⟨rfl,o,hk,hc,hd⟩|⟨rfl,hk⟩|⟨rfl,S,n,hk⟩
  ·obtain⟨aa,_,pl,_⟩:=I.list hq;refine⟨pl.isList.typeIs,fun a e=>?_⟩;cases e;obtain⟨o,n,e,c,hd,_⟩:=pl;exact⟨o,e,hd⟩
  ·refine⟨⟨o,I.kIn p o hk,hc⟩,fun a e=>?_⟩;cases e;exact⟨o,I.kIn _ o hk,hd⟩
  ·have z:∃o,s.heap.get? p=some o/\o.ExactDict:=by
    rcases hk with ⟨kvs,hk⟩|⟨kvs,hk⟩
    ·obtain⟨_,_,_,_,o,_,_,e,ex,_⟩:=I.hok p _ hk;exact⟨o,e,ex⟩
    ·obtain⟨_,_,_,_,o,_,_,e,ex,_⟩:=I.hok p _ hk;exact⟨o,e,ex⟩
   obtain⟨o,e,ex⟩:=z;refine⟨⟨o,e,ex.1⟩,fun a e2=>?_⟩;cases e2;exact⟨o,e,ex.2.1⟩
  ·obtain⟨o,_,_,_,e,ex,_⟩:=I.hok p _ hk;refine⟨⟨o,e,ex.1⟩,fun a e2=>?_⟩;cases e2;exact⟨o,e,ex.2.1⟩
 |_=>exact dh ty
def wL(K:bn)(T:String)(r:V->List V->Hp->VK->Prop)(to:TE):TE:=fun σ H Q=>to σ H fun x H1=>tyV K T x H1/\r x [] H1 Q
def tBM(K:bn)(T:String)(r:V->List V->Hp->VK->Prop)(to:TE)(t:TA):TE:=fun σ H Q=>to σ H fun x H1=>tyV K T x H1/\t σ H1 fun xs H2=>r x xs H2 Q
variable {o e:Expr}{es:List Expr}{to:TE}{t:TA}{name:Str}{apos cpos:Pos}{T id:String}{r:V->List V->Hp->VK->Prop}
theorem A6(pa:PlainAttrs T)(slot:Slot T name id)(p:typeOf (.builtin id)=pure (.type "method_descriptor"))(hm:MtR X id r)(ho:PE X o to)
  (hbase:lg o name X.env (eval o X.env)=eval o X.env:=by rfl) (hline:(apos.endLine==cpos.line)=true:=by rfl):PE X (.Call (.Attribute o name apos) [] [] cpos) (wL X.K T r to):=by
 intro zc s σ H Q I h;refine wpAny_Call_method0_late hbase hline (thn (ho zc s σ H _ I h) fun v s1 ⟨x,H1,I1,r1,ty,q1⟩=>?_);obtain⟨h1,h2⟩:=uR I1 r1 ty;exact⟨T,id,pa,slot,p,h1,h2,Calls.callWith_builtin rfl (PySem.evalArgs_none (hm zc s1 σ H1 x [] v [] Q I1 r1 .nil q1))⟩
theorem iA(pa:PlainAttrs T)(slot:Slot T name id)(p:typeOf (.builtin id)=pure (.type "method_descriptor"))(hm:MtR X id r)(ho:PE X o to)(ha:PA X (e::es) t)
  (hbase:lg o name X.env (eval o X.env)=eval o X.env:=by rfl)
  (hfew:((js cpos (bv (e::es) X.env)).all (fun x=>!x.1)&&(backToKw cpos (keywordEach [] X.env)).all (fun x=>x.1.isSome)
   && decide ((e::es).length+([]:List Keyword).length+(if ([]:List Keyword).isEmpty then 0 else 1)<30))=true:=by rfl)
  (hline:(apos.endLine==cpos.line)=true:=by rfl) (hs:bv (e::es) X.env=(false,eval e X.env)::bv es X.env:=by rfl) (hplain:(js cpos (bv es X.env)).any (·.1)=false:=by rfl):
  PE X (.Call (.Attribute o name apos) (e::es) [] cpos) (tBM X.K T r to t):=by
 intro zc s σ H Q I h;refine wpAny_Call_method_late hbase hfew hline rfl (thn (ho zc s σ H _ I h) fun v s1 ⟨x,H1,I1,r1,ty,q1⟩=>?_);obtain⟨h1,h2⟩:=uR I1 r1 ty;refine⟨T,id,pa,slot,p,h1,h2,?_⟩;have hA:=ha cpos zc s1 σ H1 _ I1 q1;rw[hs]at hA ⊢;refine Calls.callWith_builtin (by show (false||(js cpos (bv es X.env)).any (·.1))=false;rw[hplain]<;>rfl) (Calls.evalArgs_plain ?_);exact thn hA fun us s2 ⟨vs,H2,I2,r2,q2⟩=>hm zc s2 σ H2 x vs v us Q I2 r1 r2 q2
end
end
section
def MtM(X:Cx)(id:String)(r:V->List V->Hp->VK->Prop):Prop:=
 ∀(zc:List (Addr×Obj)) (s:bd) (σ:St) (H:Hp) (x:V) (xs:List V) (v:bc) (us:List bc) (Q:VK),Inv X zc σ H s->RelV x v->Vals xs us->r x xs H Q ->
  bq (model X.prog X.w) X.A (call (.builtin id) (v::us)) (EP X zc σ Q) X.xe s
theorem Vals.one:∀{x:V}{us:List bc},Vals [x] us->∃u,us=[u]/\RelV x u
 |_,_,.cons r .nil=>⟨_,rfl,r⟩
theorem Vals.zero:∀{us:List bc},Vals [] us->us=[]
 |_,.nil=>rfl
theorem Vals.reverse{xs:List V}{us:List bc}(h:Vals xs us):Vals xs.reverse us.reverse:=by
 induction h with
 |nil=>exact .nil
 |cons r t ih=>rw[ky,ky];exact Vals.append ih (.cons r .nil)
theorem Vals.rep{xs:List V}{us:List bc}(h:Vals xs us):∀k:Nat,Vals (bh k xs).flatten (bh k us).flatten
 | 0=>.nil
 |k+1=>by
  rw[ju,ju,flatten_cons,flatten_cons];exact Vals.append h (Vals.rep h k)
theorem wT(p:List bc):∀(k:Nat) (acc:List bc),
  List.foldl (fun x1 x2=>x1++x2) acc.toArray (bh k p.toArray)=(acc++(bh k p).flatten).toArray
 | 0,acc=>by simp
 |k+1,acc=>by
  have e:acc.toArray++p.toArray=(acc++p).toArray:=by simp
  have e2:(acc++p)++(bh k p).flatten=acc++(bh (k+1) p).flatten:=by
   rw[ju,flatten_cons,append_assoc]
  rw[<- e2,<- wT p k (acc++p),<- e,ju,foldl_cons]
section
variable {X:Cx}{zc:List (Addr×Obj)}{σ:St}{H:Hp}{s:bd}{l b:Addr}{xs ys zs:List V}
theorem Inv.lset{p its':List bc}{n:Nat}{f:Array bc->Array bc}{t':Nat}(I:Inv X zc σ H s)(hH:H l=some (.lst xs))
  (e:s.heap.get? l=some { cls:=.type "list",data:=.seq p.toArray n }) (hf:f p.toArray=its'.toArray) (hv:Vals ys its') (hz:ys.length<=bt):
  Inv X zc σ (upd H l (.lst ys)) { s with heap:=s.heap.update l (jo f),toks:=t' }:=by
 have q:=PySem.IsL.update e f;rw[hf]at q;refine I.write (x:=l) (e:=l) (by rw[hH];exact trivial) (.inl rfl) (fun b' u hb hu=>(fu s.heap (jo f) (dy hb)).trans hu) ⟨_,q⟩ ?_;exact⟨hz,its',_,hv,q⟩
theorem Inv.lnew{p:List bc}{t':Nat}(I:Inv X zc σ H s)(hv:Vals ys p)(hz:ys.length<=bt):
  Inv X zc σ (upd H s.heap.objs.size (.lst ys)) { s with heap:=s.heap.push { cls:=.type "list",data:=.seq p.toArray },toks:=t' } :=
 I.laid (fun _ _ q=>bg _ q) (cq _) ⟨hz,p,0,hv,bu _ rfl⟩
theorem Inv.fresh(I:Inv X zc σ H s):H s.heap.objs.size=none:=I.hok.fresh (cq _)
theorem Inv.lstM(I:Inv X zc σ H s)(hH:H l=some (.lst xs)):xs.length<=bt/\∃(p:List bc) (n:Nat),Vals xs p/\xs.length=p.length/\s.heap.get? l=some { cls:=.type "list",data:=.seq p.toArray n }:=by
 obtain⟨z,p,n,r,e⟩:=I.hok l _ hH;exact⟨z,p,n,r,r.length,e⟩
theorem tS{n:Nat}(h:n<=bt):Builtin.List.listTooLong n=false:=by
 unfold Builtin.List.listTooLong;exact gl yw
end
section
variable {X:Cx}
def xP:V->List V->Hp->VK->Prop:=fun x vs H Q=>∃l xs y,x=.ref l/\vs=[y]/\H l=some (.lst xs)/\xs.length<bt/\Q .non (upd H l (.lst (xs++[y])))
theorem pX:MtM X "list.append" xP:=by
 intro zc s σ H x vs v us Q I rx rv h;obtain⟨l,xs,y,rfl,rfl,hH,hz,q⟩:=h;cases rx;obtain⟨u,rfl,ru⟩:=rv.one;obtain⟨z,p,n,r,hl,e⟩:=I.lstM hH;refine call_meets F.slot_list_append ⟨_,e,rfl⟩ F.entry_list_append (F.args_list_append_2 _ _) (PySem.list_append l p.toArray n u (by rw[cm];omega)) ⟨e,?_⟩;refine⟨.non,_,I.lset (its':=p++[u]) hH e yv (r.append (.cons ru .nil)) ?_,rfl,q⟩;rw[bx,fj];omega
def uJ:V->List V->Hp->VK->Prop:=fun x vs H Q=>∃l b xs zs,x=.ref l/\vs=[.ref b]/\H l=some (.lst xs)/\H b=some (.lst zs)/\xs.length+zs.length<=bt/\Q .non (upd H l (.lst (xs++zs)))
theorem tG:MtM X "list.extend" uJ:=by
 intro zc s σ H x vs v us Q I rx rv h;obtain⟨l,b,xs,zs,rfl,rfl,hH,hB,hz,q⟩:=h;cases rx;obtain⟨u,rfl,ru⟩:=rv.one;cases ru;obtain⟨z,aa,n,r,hl,e⟩:=I.lstM hH;obtain⟨z2,p,n2,r2,af,e2⟩:=I.lstM hB;have ae:aa.toArray.size+p.toArray.size<=bt:=by rw[cm,cm];omega
 have ac:¬(!aa.toArray.isEmpty&&Builtin.List.listTooLong (aa.toArray.size+p.toArray.size))=true:=by
  rw[tS ae,Bool.and_false];exact gc
 refine call_meets F.slot_list_extend ⟨_,e,rfl⟩ F.entry_list_extend (F.args_list_extend_2 _ _)
  (AutoSeq1.list_extend_list_list_0 l aa.toArray n b p.toArray n2 ac (by rw[cm];omega) yw) ⟨e,e2,?_⟩
 refine⟨.non,_,I.lset (its':=aa++p) hH e yv (r.append r2) ?_,rfl,q⟩;rw[bx];omega
def AD:V->List V->Hp->VK->Prop:=fun x vs H Q=>∃l xs,x=.ref l/\vs=[]/\H l=some (.lst xs)/\Q .non (upd H l (.lst xs.reverse))
theorem Ce:MtM X "list.reverse" AD:=by
 intro zc s σ H x vs v us Q I rx rv h;obtain⟨l,xs,rfl,rfl,hH,q⟩:=h;cases rx;have aa:=rv.zero;subst aa;obtain⟨z,p,n,r,hl,e⟩:=I.lstM hH;refine call_meets F.slot_list_reverse ⟨_,e,rfl⟩ F.entry_list_reverse (F.args_list_reverse_1 _) (AutoSeq1.list_reverse_list_0 l p.toArray n (by rw[cm];omega)) ⟨e,?_⟩;refine⟨.non,_,I.lset (its':=p.reverse) hH e yv r.reverse ?_,rfl,q⟩;rw[length_reverse];omega
def i3:R2:=fun x y H Q=>∃l b xs zs,x=.ref l/\y=.ref b/\H l=some (.lst xs)/\H b=some (.lst zs)/\xs.length+zs.length<=bt/\∀p,H p=none->Q (.ref p) (upd H p (.lst (xs++zs)))
theorem pM:OpR X (ip .Add) i3:=by
 intro zc s σ H x y v u Q I rx ry h;obtain⟨l,b,xs,zs,rfl,rfl,hH,hB,hz,q⟩:=h;cases rx;cases ry;obtain⟨z,aa,n,r,hl,e⟩:=I.lstM hH;obtain⟨z2,p,n2,r2,ac,e2⟩:=I.lstM hB;refine PySem.P.add_list e e2 ?_ (by rw[cm,cm];omega);have ea:aa.toArray++p.toArray=(aa++p).toArray:=by simp
 rw[ea];exact⟨.ref _,_,I.lnew (t':=s.toks) (r.append r2) (by rw[bx];omega),rfl,q _ I.fresh⟩
def vP:R2:=fun x y H Q=>∃l k xs,x=.ref l/\y=.int k/\H l=some (.lst xs)/\-(2 ^ 63)<=k/\k<2 ^ 63/\xs.length*k.toNat<=bt /\
 ∀p,H p=none->Q (.ref p) (upd H p (.lst (bh k.toNat xs).flatten))
theorem BI{α:Type}(xs:List α)(k:Nat):(bh k xs).flatten.length=k*xs.length:=by
 induction k with
 |zero=>simp
 |succ k ih=>rw[ju,flatten_cons,bx,ih,Nat.succ_mul,Nat.add_comm]
theorem Ev:OpR X (ip .Mult) vP:=by
 intro zc s σ H x y v u Q I rx ry h;obtain⟨l,k,xs,rfl,rfl,hH,h1,h2,hz,q⟩:=h;cases rx;obtain⟨t,rfl⟩:=ry;obtain⟨z,p,n,r,hl,e⟩:=I.lstM hH;have ac:p.toArray.size*k.toNat<=bt:=by rw[cm,<- hl];exact hz
 have af:¬ p.toArray.size*k.toNat>(2 ^ 63-1)/8:=by
  have:(bt:Nat)<=(2 ^ 63-1)/8:=by decide
  omega
 have ag:¬(!Builtin.List.listFitsIndex k)=true:=by
  rw[fitsIndex_both h1 h2];exact gc
 have aa:¬ Builtin.List.listTooLong (p.toArray.size*k.toNat)=true:=by
  rw[tS ac];exact gc
 have ae:List.foldl (fun x1 x2=>x1++x2) #[] (bh (if p.toArray.isEmpty=true then 0 else k.toNat) p.toArray)=(bh k.toNat p).flatten.toArray:=by
  have f0:∀m:Nat,List.foldl (fun x1 x2=>x1++x2) #[] (bh m p.toArray)=(bh m p).flatten.toArray:=fun m=>by
   have:=wT p m [];rw[nil_append]at this;exact this
  rw[f0];cases p with
  |nil=>simp
  |cons a r'=>rw[cf yv]
 refine wpAny_binaryOp_repeat_ref (T:="list") (U:="int") dz ⟨_,e,rfl⟩ (fun s'=>typeIs_int s' k t) noFill_list_mul F.fills_int_mul F.slot_int_rmul repeat_list F.slot_int_index.lookup
  (call_meets F.slot_int_rmul (typeIs_int s k t) F.entry_int_rmul (F.args_int_rmul_2 _ _) (int___rmul___int_list k t l p.toArray n)
   ⟨e,rfl,⟨_,e,rfl⟩,call_meets F.slot_list_mul ⟨_,e,rfl⟩ F.entry_list_mul (F.args_list_mul_2 _ _) (AutoListH.list___mul___list_int_3 l p.toArray n k t ag af aa) ⟨e,?_⟩⟩)
 rw[ae];exact⟨.ref _,_,I.lnew (t':=s.toks) (r.rep k.toNat) (by rw[BI,mul_comm];exact hz),rfl,q _ I.fresh⟩
end
end
section
structure M1(X:Cx)(o:Expr)(m:Str)(apos:Pos)(e:Expr)(cpos:Pos):Prop where
 base:lg o m X.env (eval o X.env)=eval o X.env
 few:((js cpos (bv [e] X.env)).all (fun x=>!x.1)&&(backToKw cpos (keywordEach [] X.env)).all (fun x=>x.1.isSome)
  && decide (([e]:List Expr).length+([]:List Keyword).length+(if ([]:List Keyword).isEmpty then 0 else 1)<30))=true
 line:(apos.endLine==cpos.line)=true
 trees:js cpos (bv [e] X.env)=[(false,eval e X.env)]
structure M2(X:Cx)(o:Expr)(m:Str)(apos:Pos)(e f:Expr)(cpos:Pos):Prop where
 base:lg o m X.env (eval o X.env)=eval o X.env
 few:((js cpos (bv [e,f] X.env)).all (fun x=>!x.1)&&(backToKw cpos (keywordEach [] X.env)).all (fun x=>x.1.isSome)
  && decide (([e,f]:List Expr).length+([]:List Keyword).length+(if ([]:List Keyword).isEmpty then 0 else 1)<30))=true
 line:(apos.endLine==cpos.line)=true
 trees:js cpos (bv [e,f] X.env)=[(false,eval e X.env),(false,eval f X.env)]
def obO(a:Addr)(ob:Obj):HO:=.ext fun h=>h.get? a=some ob
end
end L2
namespace Att
open PySem PySem.W PySem.Calls PyProof.Rows
theorem FR{P:Params}{h:Heap}:∀(ns:List Int) (vs:List bc),WellAll P h vs (ns.map WData.int)->IntsAre vs ns:=by
 intro ns;induction ns with
 |nil=>
  intro vs w;rw[map_nil]at w;cases w;exact .nil
 |cons n ns ih=>
  intro vs w;rw[im]at w;cases w with
  |cons a b=>
   cases a;exact .cons _ _ (ih _ b)
theorem BK{l:OpenLaw}{n:Nat}(hn:l.most=some n){P:Params}{h:Heap}{args:List WData}{p:List bc}
  (hpre:l.row.toRowW.claim.pre args=true) (hwl:WellAll P h p args):
  ∃a vs ns,p=[cg a]/\args=[WData.list (ns.map WData.int)]/\h.get? a=some { cls:=.type "list",data:=.seq vs.toArray }/\IntsAre vs ns/\ns.length<=n:=by
 have aa:WShape.hasAll [] args [.list .int]=true:=(pre_splitW hpre).1;have hc:l.pre.holds [] { args:=args } = true:=(pre_splitW hpre).2;obtain⟨d,r,rfl,h1,h2⟩:=hasAllW_cons aa;obtain rfl:=hasAllW_nil h2;obtain⟨xs,rfl,h3⟩:=hasW_list h1;obtain⟨ns,rfl⟩:=items_int h3;have z:ns.length<=n:=by
  unfold OpenLaw.pre at hc;have h4:(WTm.not (.lt (.lit (.int (n:Int))) (.len (.arg 0)))).holds [] { args:=[.list (ns.map .int)] } = true:=by
   have h4:=(holds_andW hc).1;rw[hn]at h4;exact h4
  have h5:=condW_of h4 (w_not (w_lt w_lit (w_len_list (w_arg rfl))));rw[cp]at h5;refine Nat.le_of_not_lt fun q=>?_;have q':(n:Int)<((ns.length:Nat):Int):=yw
  first
   | (rw[decide_eq_true q']at h5;exact absurd h5 dz)
   | (simp at h5;omega)
 cases hwl with
 |cons w1 w2=>
  cases w2;cases w1 with
  |list ho hall=>exact⟨_,_,ns,rfl,rfl,ho,FR ns _ hall,z⟩
theorem CG(l:OpenLaw)(args:List WData):l.row.toRowW.claim.post args (.bool true) args=true:=
 postW_of (r:=l.row.toRowW) (X:=(true==true))
  (show WShape.has [] (.bool true) .bool=true by first|rfl|decide|simp[WShape.has,WShape.arms,WShape.armsAll])
  (show (WTm.eq .res (.lit (.bool true))).value [] { args:=args,res:=some (.bool true),after:=args } = some (.bool (true==true))from w_eq_bool (w_res rfl) w_lit) rfl
theorem attach_call{l:OpenLaw}{n:Nat}{q:bw}{p:List Str}{XP:(Str->Option bc)->Heap->Prop}{YP:df->Heap->Prop}{d:DefRec}
  (hn:l.most=some n) (hdf:d.params.defaults=[])
  (call:∀(w:df) (s₀ s₁:bd) (mg mb:Str->Option bc) (fa:Addr) (o:Obj) (pm cd z:bc) (a:Addr) (vs:List bc) (ns:List Int),
   Ground q p [] XP w s₀ mg mb s₁.heap->YP w s₁.heap ->
   s₁.heap.get? fa=some o->o.data=.func (docDef d.name d.params d.body d.scope pm cd z)->s₁.heap.CodeRec cd d.name->mg d.name=some (.ref fa) ->
   s₁.heap.get? a=some { cls:=.type "list",data:=.seq vs.toArray }->IntsAre vs ns->ns.length<=n->s₁.gens = #[] ->
   ku (model l.prog w) callerA (.call (.ref fa) ⟨[.ref a],[]⟩) (fun r s'=>r=.ok (.ret (.bool true))/\OldK s₁.heap s'.heap/\s'.os=s₁.os/\AllBare s'.gens) s₁):
  WalkO q p XP YP l.row.toRowW d [] (fun f vs=>PySem.call f vs):=by
 intro w s₀ s₁ mg mb G Y fa o pm cd z dV kV ho hd ai hD ag hg args ak as ac aj al ah am;obtain rfl:dV=.none:=Dflts.none hD hdf;obtain rfl:kV=.none:=Dflts.noKw hD;obtain⟨a,vs,ns,rfl,rfl,af,aa,ae⟩:=BK hn ac ah;refine enter_call (kv (call w s₀ s₁ mg mb fa o pm cd z a vs ns G Y ho (fd_plain hd) ai ag af aa ae hg) fun r s' hq=>?_);obtain⟨rfl,h2,h3,h4⟩:=hq;exact⟨.inl ⟨.bool true,.bool true,[],rfl,fun _=>rfl,.bool true,CG l _,fun _=>⟨List.Pairwise.nil,fun _ hm=>(nomatch hm)⟩⟩,h2,h3,h4⟩
end Att
namespace L2
open PySem PySem.Spec PyProof.Rows
section
theorem yL:∀{vs:List bc}{ns:List Int},IntsAre vs ns->Vals (ns.map V.int) vs
 |_,_,.nil=>.nil
 |_,_,.cons n t h=>.cons ⟨t,rfl⟩ (yL h)
def Only(H:Hp):Prop:=∀b,H b=none\/(∃o xs,H b=some (.frz o (.lst xs)))\/∃q∈tabsG,q.1.2=b/\H b=some (.tbl q.2)
def cF(b:Addr):Option HO:=(tabsG.find? fun q=>q.1.2==b).map fun q=>.tbl q.2
theorem iW{b:Addr}{u:HO}(e:cF b=some u):∃q∈tabsG,q.1.2=b/\u=.tbl q.2:=by
 unfold cF at e;cases h:tabsG.find? fun q=>q.1.2==b with
 |none=>rw[h]at e;cases e
 |some q=>
  rw[h]at e;cases e;exact⟨q,List.mem_of_find?_eq_some h,by simpa using List.find?_some h,rfl⟩
theorem Bk{l:List ((Addr×Addr)×Array bc)}(nd:(l.map fun q=>q.1.2).Nodup){q:(Addr×Addr)×Array bc}(h:q∈l):l.find? (fun r=>r.1.2==q.1.2)=some q:=by
 induction l with
 |nil=>cases h
 |cons p l ih=>
  rw[im,nodup_cons]at nd;rcases mem_cons.mp h with e|e
  ·subst e;simp
  ·have ne:¬ p.1.2=q.1.2:=fun z=>nd.1 (by rw[z];exact List.mem_map_of_mem (f:=fun q:(Addr×Addr)×Array bc=>q.1.2) e);rw[List.find?_cons_of_neg (by simpa using ne)];exact ih nd.2 e
theorem vS(nd:(tabsG.map fun q=>q.1.2).Nodup){q:(Addr×Addr)×Array bc}(h:q∈tabsG):cF q.1.2=some (.tbl q.2):=by
 unfold cF;rw[Bk nd h];rfl
structure TabsOk(K:bn)(h:Heap):Prop where
 nd:(tabsG.map fun q=>q.1.2).Nodup
 hd:∀q∈tabsG,W.CodeHd h q.1.1 q.1.2
 empty:∀q∈tabsG,h.get? q.1.2=some (W.tabObj #[])
 off:∀q∈tabsG,K.lookup q.1.2=none
theorem TabsOk.none{K:bn}{h:Heap}(e:tabsG=[]):TabsOk K h:=⟨by rw[e];exact nodup_nil,fun q z=>absurd z (by rw[e];simp),fun q z=>absurd z (by rw[e];simp),fun q z=>absurd z (by rw[e];simp)⟩
theorem BM{P:bw}{w:df}{K:bn}{mg mb:Str->Option bc}{CX:CXT}{k:Nat}{fa a:Addr}{fd:iq}{x:Str}{sp:Sp}{s₁:bd}{vs:List bc}{ns:List Int}
  (KX:K.In s₁.heap) (TT:TabsOk K s₁.heap) (hbm:BltAt s₁.heap mg) (hns:s₁.heap.Ns jh mg) (hb:s₁.heap.Ns builtinsNs mb) (hbb:∀x:Str,x ≠ "__name__"->mb x=fk x) (hlim:s₁.heap.NoLimit) (hg:s₁.gens = #[])
  (ha:s₁.heap.get? a=some { cls:=.type "list",data:=.seq vs.toArray }) (hi:IntsAre vs ns) (hl:ns.length<=bt) (hr:Room k callerA)
  (F:∀base:Heap,K.In base->base.Ns jh mg->FnOk P w K mg base CX k fa fd [x] sp) (hbind:∀(s:bd) (u:bc),BindsTo s fd ⟨[u],[]⟩ [(x,u)])
  (hsp:∀H:Hp,Only H->SqL K H a (ns.map V.int)->sp [.ref a] H (fun v _=>v=.bl true) fun _ _ _=>False)
  (hCX:∀H e s',CX [] H s₁ (fun _ _ _=>False) e s'->False):
  ku (model P w) callerA (.call (.ref fa) ⟨[.ref a],[]⟩) (fun r s'=>r=.ok (.ret (.bool true))/\OldK s₁.heap s'.heap/\s'.os=s₁.os/\AllBare s'.gens) s₁:=by
 have rv:=yL hi;have aj:=hi.length
 have af:∀H:Hp,Only H->SqL K H a (ns.map V.int)->HOk P w H s₁.heap->(∀b,H b≠none->b=a\/∃q∈tabsG,q.1.2=b)->(H a≠none->K.lookup a=none)->(∀q∈tabsG,H q.1.2=some (.tbl q.2)) ->
   ku (model P w) callerA (.call (.ref fa) ⟨[.ref a],[]⟩) (fun r s'=>r=.ok (.ret (.bool true))/\OldK s₁.heap s'.heap/\s'.os=s₁.os/\AllBare s'.gens) s₁:=by
  intro H hO hS hok hA hK ai;have ag:∀{b:Addr}{o:Obj},s₁.heap.get? b=some o->o.cls≠.type "list"->o.cls≠.none->H b=none:=fun {b o} e c1 c2=>by
   cases q:H b with
   |none=>rfl
   |some u=>
    rcases hA b (by rw[q];simp)with e'|⟨r,p,e'⟩
    ·subst e';rw[ha]at e;cases e;exact absurd rfl c1
    ·have:=TT.empty r p;rw[e',e]at this;cases this;exact absurd rfl c2
  have aa:∀{b:Addr}{o:Obj},s₁.heap.get? b=some o->H b=none->(dW s₁.heap H).get? b=some o:=fun e n=>Ej e n;have am:∀{b:Addr}{o:Obj}{es:Array DictEntry}{ep:Nat},s₁.heap.get? b=some o->o.data=.dict es ep->H b=none:=fun {b o es ep} e d=>by
   cases q:H b with
   |none=>rfl
   |some u=>
    rcases hA b (by rw[q];simp)with e'|⟨r,p,e'⟩
    ·subst e';rw[ha]at e;cases e;have d':Data.seq vs.toArray _=Data.dict es ep:=d;cases d'
    ·have:=TT.empty r p;rw[e',e]at this;cases this;cases d
  have ac:∀{b:Addr}{m:Str->Option bc},s₁.heap.Ns b m->(dW s₁.heap H).Ns b m:=fun {b m} ⟨o,es,ep,e,d,r⟩=>⟨o,es,ep,aa e (am e d),d,r⟩;have ah:K.In (dW s₁.heap H):=fun b o e=>aa (KX b o e) (by
   cases q:H b with
   |none=>rfl
   |some u=>
    rcases hA b (by rw[q];simp)with e'|⟨r,p,e'⟩
    ·subst e';rw[hK (by rw[q];simp)]at e;cases e
    ·rw[<- e',TT.off r p]at e;cases e)
  have hM:Mod K mg (dW s₁.heap H):=⟨ah,ac hns,⟨mb,ac hb,hbb⟩,let ⟨mc,h1,h2⟩:=hlim;⟨mc,ac h1,h2⟩,
   let ⟨bm,ob,b1,b2,b3,b4,b5⟩:=hbm;⟨bm,ob,b1,b2,aa b3 (ag b3 (by rw[b4];decide) (by rw[b4];decide)),b4,b5⟩,
   fun q hq=>let ⟨o,vs,file,tf,flags,tg,inF,text,tt,e1,c1,r⟩:=TT.hd q hq;⟨o,vs,file,tf,flags,tg,inF,text,tt,aa e1 (ag e1 (by rw[c1];decide) (by rw[c1];decide)),c1,r⟩⟩
  have e0:Env0 P w K mg (dW s₁.heap H) callerA [] s₁ H:=⟨rfl,hM,fun b o e=>EL e,Nat.le_of_eq (A4 _ _),trivial,⟨fun b hb=>absurd (show b∈([]:List Addr)from hb) yv,ai⟩,hok,.of_eq hg⟩;refine kv ((F _ ah (ac hns)).run callerA [] s₁ H ⟨[.ref a],[]⟩ [.ref a] [.ref a] _ _ hr e0 (hbind s₁ (.ref a)) (.cons rfl .nil) (hsp H hO hS)) fun r s' h=>?_;cases r with
  |error e=>exact(hCX H e s' h).elim
  |ok fl=>
   cases fl with
   |next=>exact dh h
   |brk=>exact dh h
   |cont=>exact dh h
   |ret u=>
    obtain⟨v,H',os,bare,un,ae,r',q⟩:=h;have q':v=.bl true:=q;subst q';obtain rfl:u=Value.bool true:=r';have all:∀b o,s₁.heap.get? b=some o->s'.heap.get? b=some o\/∃q∈tabsG,q.1.2=b/\o=W.tabObj #[]/\∃ps,s'.heap.get? b=some (W.tabObj ps):=fun b o e=>by
     cases q:H b with
     |none=>exact .inl (un.keep b o e q (by intro z;exact absurd (show b∈([]:List Addr)from z) yv) yv)
     |some u=>
      rcases hO b with z|⟨ob,xs,z⟩|⟨r,p,e',z⟩
      ·rw[q]at z;cases z
      ·have z2:=un.frzs b ob _ z;obtain⟨e1,_⟩:=hok b _ z;obtain⟨e2,_⟩:=ae b _ z2;rw[e]at e1;cases e1;exact .inl e2
      ·obtain⟨qs,e2,_⟩:=ae b _ (un.tbls b _ z);have:=TT.empty r p;rw[e',e]at this;cases this;exact .inr ⟨r,p,e',rfl,qs,e2⟩
    refine⟨rfl,⟨fun b o e=>?_,fun b o e=>?_⟩,os,bare⟩
    ·rcases all b o e with z|⟨r,p,rfl,rfl,ps,z⟩
     ·exact .inl z
     ·exact .inr (.inl ⟨((TT.hd r p).tab (TT.empty r p)).isCodeTable,rfl,#[],ps,rfl,by rw[Array.empty_append];exact z⟩)
    ·rcases all b o e with z|⟨r,p,rfl,rfl,ps,z⟩
     ·exact⟨o,z⟩
     ·exact⟨_,z⟩
 have al:∀q∈tabsG,q.1.2≠a:=fun q hq z=>by
  have:=TT.empty q hq;rw[z,ha]at this;cases this
 have ak:∀(H:Hp) (b:Addr) (u:HO),cF b=some u->ObjOk P w H s₁.heap b u:=fun H b u z=>by
  obtain⟨q,hq,rfl,rfl⟩:=iW z;exact⟨#[],TT.empty q hq,.inl rfl⟩
 cases hk:K.lookup a with
 |some o=>
  have e:=KX a o hk;rw[ha]at e;cases e;refine af cF (fun b=>?_) (.inr ⟨_,vs.toArray,_,hk,rfl,rfl,rfl,by rw[cm,aj];exact hl,by simpa using rv⟩) (ak cF) (fun b z=>?_) (fun z=>?_) fun q hq=>vS TT.nd hq
  ·cases q:cF b with
   |none=>exact .inl rfl
   |some u=>obtain⟨r,p,e',rfl⟩:=iW q;exact .inr (.inr ⟨r,p,e',rfl⟩)
  ·cases q:cF b with
   |none=>exact absurd q z
   |some u=>obtain⟨r,p,e',_⟩:=iW q;exact .inr ⟨r,p,e'⟩
  ·cases q:cF a with
   |none=>exact absurd q z
   |some u=>obtain⟨r,p,e',_⟩:=iW q;exact absurd e' (al r p)
 |none=>
  refine af (fun b=>if b=a then some (.frz { cls:=.type "list",data:=.seq vs.toArray } (.lst (ns.map V.int)))else cF b) (fun b=>?_) (.inl (.inr ⟨{ cls:=.type "list",data:=.seq vs.toArray },dw rfl⟩)) (fun b u z=>?_) (fun b z=>?_) (fun _=>hk) fun q hq=>(cf (al q hq)).trans (vS TT.nd hq)
  ·by_cases hb:b=a
   ·exact .inr (.inl ⟨_,_,dw hb⟩)
   ·cases q:cF b with
    |none=>exact .inl ((cf hb).trans q)
    |some u=>obtain⟨r,p,e',rfl⟩:=iW q;exact .inr (.inr ⟨r,p,e',(cf hb).trans q⟩)
  ·by_cases hb:b=a
   ·have z':=(dw hb).symm.trans z;cases z';subst hb;exact⟨ha,by rw[cp];exact hl,vs,_,rv,ha⟩
   ·have z':=(cf hb).symm.trans z;exact ak _ b u z'
  ·by_cases hb:b=a
   ·exact .inl hb
   ·cases q:cF b with
    |none=>exact absurd ((cf hb).trans q) z
    |some u=>obtain⟨r,p,e',_⟩:=iW q;exact .inr ⟨r,p,e'⟩
end
section
abbrev KOf {K:bn}{h:Heap} (_:K.In h):bn:=K
theorem walk_of{l:W.OpenLaw}{n k:Nat}{q:bw}{aa:List Str}{XP:(Str->Option bc)->Heap->Prop}{YP:df->Heap->Prop}{d:DefRec}{K:Params->bn}{CX:df->CXT}{sp:df->Sp}{x:Str}
  (hn:l.most=some n) (hn2:n<=bt) (hdf:d.params.defaults=[]) (hr:Room k callerA)
  (hY:∀(w:df) (h:Heap),YP w h->(K w.params).In h)
  (hT:∀(w:df) (h:Heap),YP w h->TabsOk (K w.params) h)
  (F:∀(w:df) (mg:Str->Option bc) (fa:Addr) (h:Heap),(K w.params).In h->h.Ns jh mg->mg d.name=some (.ref fa) ->
   ∃fd:iq,(∀(s:bd) (u:bc),BindsTo s fd ⟨[u],[]⟩ [(x,u)]) /\
    ∀base:Heap,(K w.params).In base->base.Ns jh mg->FnOk l.prog w (K w.params) mg base (CX w) k fa fd [x] (sp w))
  (hsp:∀(w:df) (H:Hp) (a:Addr) (ns:List Int),ns.length<=n->Only H->SqL (K w.params) H a (ns.map V.int)->sp w [.ref a] H (fun v _=>v=.bl true) fun _ _ _=>False)
  (hCX:∀(w:df) (H:Hp) (s:bd) (e:bc) (s':bd),CX w [] H s (fun _ _ _=>False) e s'->False):
  W.WalkO q aa XP YP l.row.toRowW d [] (fun f vs=>PySem.call f vs):=by
 refine Att.attach_call hn hdf fun w s₀ s₁ mg mb fa o pm cd af a vs ns G Y ho hd ag ae ac z p hg=>?_;have KX:=hY w _ Y;obtain⟨fd,hb,hF⟩:=F w mg fa _ KX G.T.g ae;exact BM KX (hT w _ Y) (let ⟨bm,ob,a1,a2,a3,a4,a5,a6⟩:=G.T.bmain;⟨bm,ob,a1,a2,a3,a4,a5,a6⟩) G.T.g G.T.b G.T.builtins G.T.nolimit hg ac z (gg p hn2) hr hF hb (fun H hO hS=>hsp w H a ns p hO hS) fun H e s'=>hCX w H s₁ e s'
end
section
def Er(s:Stmt)(j:Nat):Stmt:=match s with
 | .ClassDef _ _ _ body _ _ _ _ _ _ _=>body.getD j (.Pass ⟨0,0,0,0⟩)
 |_=>.Pass ⟨0,0,0,0⟩
def eT(s:Stmt):Arguments:=match s with
 | .FunctionDef _ a _ _ _ _ _ _ _ _=>a
 |_=>{ posonlyargs:=[],args:=[],vararg:=none,kwonlyargs:=[],kw_defaults:=[],kwarg:=none,defaults:=[] }
def bL(s:Stmt):List Stmt:=match s with
 | .FunctionDef _ _ b _ _ _ _ _ _ _=>b
 |_=>[]
def zg(s:Stmt):Scope:=match s with
 | .FunctionDef _ _ _ _ _ _ sc _ _ _=>sc
 |_=>{ kind:=.function,names:=[],isGenerator:=false,isCoroutine:=false }
abbrev CX0:CXT:=fun _ _ _ _ _ _=>False
abbrev E0:XK:=fun _ _ _=>False
theorem pass0{X:Cx}:Passes CX0 X E0:=fun _ _ _ _ _ _ _ h=>h.elim
structure Fun(K:bn)(x qual:Str)(st:Stmt)(f:Addr)(fd:iq):Prop where
 ex:∃(oc:bc) (od:Option Addr) (kV doc pm:bc) (an:Option Addr) (cdv ct:bc) (osl:Array (Option bc)),
  fd=ly x qual (eT st) (bL st) (zg st) .none kV doc pm an cdv ct/\K.lookup f=some ⟨oc,od,.func fd,osl⟩/\W.codeIn K cdv qual=true
 kp:ki K (.ref f)=true
section
variable {P:bw}{w:df}{K:bn}{mg:Str->Option bc}{base:Heap}
theorem Fun.ok{x qual:Str}{st:Stmt}{f:Addr}{fd:iq}{N ps:List Str}{k:Nat}{sp:Sp}(F:Fun K x qual st f fd)(S:FnScope N ps (zg st))(len:∀vs H Q E,sp vs H Q E->vs.length=ps.length)
  (hbody:∀(p:bc) (A:cw) (outer:List Env) (s:bd) (H:Hp) (vs:List V) (Q:VK) (E:XK),Room k (A.deeper (gh qual (zg st) s.heap.objs.size f p))->sp vs H Q E ->
   ∃t,PSs (bG CX0 P w K mg base N qual (zg st) f p A outer s H E).nox (bL st) t/\t { nx:=fun _ H'=>Q .non H',rt:=Q } (start N vs) H):FnOk P w K mg base CX0 (k+1) f fd ps sp:=by
 obtain⟨oc,od,kV,ae,pm,an,p,ct,ac,rfl,lk,aa⟩:=F.ex;refine yU lk aa S len fun A outer s H vs Q E hr z=>?_;obtain⟨t,h,q⟩:=hbody p A outer s H vs Q E hr z;exact⟨t,h.nox,q⟩
theorem Fun.binds{x qual:Str}{st:Stmt}{f:Addr}{fd:iq}{ps:List Str}(F:Fun K x qual st f fd)
  (h:∀(kV p pm:bc) (an:Option Addr) (z ct:bc) (us:List bc),us.length=ps.length->bindArgs (ly x qual (eT st) (bL st) (zg st) .none kV p pm an z ct) ⟨us,[]⟩=pure (ps.zip us)):Binds K fd ps []:=by
 obtain⟨oc,od,kV,p,pm,an,z,ct,aa,rfl,lk,ac⟩:=F.ex;exact .all (h kV p pm an z ct)
theorem oR{x qual:Str}{st:Stmt}{f:Addr}{oc:bc}{od an:Option Addr}{aa:Array (Option bc)}{kV z pm p ct:bc}(l:K.lookup f=some ⟨oc,od,.func (ly x qual (eT st) (bL st) (zg st) .none kV z pm an p ct),aa⟩)
  (c:W.codeIn K p qual=true) (k:ki K (.ref f)=true):Fun K x qual st f (ly x qual (eT st) (bL st) (zg st) .none kV z pm an p ct):=⟨⟨oc,od,kV,z,pm,an,p,ct,aa,rfl,l,c⟩,k⟩
end
theorem small1000{n:Nat}(h:n<=1000):n<bt:=Nat.lt_of_le_of_lt h dz
section
variable {X:Cx}
theorem pv(i:Nat){x:Str}{pos:Pos}(hN:X.N[i]?=some x:=by rfl)(hv:Vis X.env.scope x:=by first|exact gv rfl|exact Or.inr (gv rfl)|exact Or.inr (Or.inr rfl))(hd:(x==("__debug__":Str))=false:=by decide)
  (hcd:(x==("__classdict__":Str))=false:=by decide):PE X (.Name x pos) (cB i):=Du hN hv hd hcd
end
theorem gM{A B:Prop}(h:B):if false=true then A else B:=by
 rw[cf gc];exact h
theorem iB{A B:Prop}(h:A):if true=true then A else B:=by
 rw[dw rfl];exact h
theorem ite2{c A B:Prop}[Decidable c](h1:c->A)(h2:¬ c->B):if c then A else B:=by
 by_cases h:c
 ·rw[dw h];exact h1 h
 ·rw[cf h];exact h2 h
def Same(H H':Hp):Prop:=∀b o,H b=some o->H' b=some o
theorem Same.refl(H:Hp):Same H H:=fun _ _ h=>h
theorem Same.trans{H H1 H2:Hp}(a:Same H H1)(b:Same H1 H2):Same H H2:=fun c o h=>b c o (a c o h)
theorem Same.seq{K:bn}{H H':Hp}{a:Addr}{xs:List V}(e:Same H H')(h:SqL K H a xs):SqL K H' a xs:=by
 rcases h with (h|⟨o,h⟩)|h
 ·exact .inl (.inl (e _ _ h))
 ·exact .inl (.inr ⟨o,e _ _ h⟩)
 ·exact .inr h
end
section
section
variable {X:Cx}
def CDivX(i j:Int):Prop:=0<j/\j.natAbs.log2<9000
theorem Ck:OpR X (ip .FloorDiv) (rI CDivX fun i j=>.int (i/j)):=opI fun i j _ _ _ _ _ hc q=>by
 have h1:(0:Int)<j:=hc.1;exact floordiv_int yw (by rw[Int.fdiv_eq_ediv_of_nonneg i yw];exact q) (.inl (PyProof.noPylong_of_log2 hc.2))
theorem Dg:OpR X (ip .Mult) (rI IntMulOk fun i j=>.int (i*j)):=opI fun _ _ _ _ _ _ _ hc q=>mul_int q hc
theorem AB{k:Int}{n:Nat}(h:k.natAbs<2 ^ n):Builtin.Int.intBits k<=n:=by
 unfold Builtin.Int.intBits;split
 ·exact zero_le _
 ·rename_i h0;have hk:k.natAbs≠0:=by
   intro z;apply h0;rw[Int.natAbs_eq_zero.mp z];rfl
  have:=(Nat.log2_lt hk).mpr h;omega
theorem E5{i j:Int}(n m:Nat)(hi:i.natAbs<2 ^ n)(hj:j.natAbs<2 ^ m)(hn:n<=2 ^ 20:=by decide)(hm:m<=2 ^ 20:=by decide):IntMulOk i j:=
 .of_bits (gg (AB hi) hn) (gg (AB hj) hm)
theorem dF{i j:Int}(h1:-(2 ^ 64)<i)(h2:i<2 ^ 64):IntMulOk i j:=.of_left (intBits_le_64 h1 h2)
theorem EA{n:Int}{k:Nat}(h0:0<n)(h:n<2 ^ k):n.natAbs.log2<k:=by
 refine(Nat.log2_lt yw).mpr ?_;have e:((2 ^ k:Nat):Int)=(2:Int) ^ k:=by simp
 omega
end
def kD:Key->be
 | .inl i=>.int i
 | .inr x=>.str x
def DOf(H:Hp)(a:Addr)(ks:List be)(vs:List V):Prop:=
 (∃(ob:Obj) (m:List (Key×V)),H a=some (.frz ob (.dK m))/\ks=m.map (fun p=>kD p.1)/\vs=m.map (·.2)) \/
 ∃(ob:Obj) (p:List Key×V) (m:List (List Key×V)),H a=some (.frz ob (.dT (p::m)))/\ks=(p::m).map (fun p=>.tuple (p.1.map kD))/\vs=(p::m).map (·.2)
mutual
def Has(H:Hp):be->V->Prop
 | .none,v=>v=.non
 | .bool b,v=>v=.bl b
 | .int i,v=>v=.int i
 | .str x,v=>v=.str x
 | .list ds,v=>∃a vs,v=.ref a/\H a=some (.lst vs)/\HasL H ds vs
 | .tuple ds,v=>∃a vs,v=.ref a/\H a=some (.tup vs)/\HasL H ds vs
 | .dict kvs,v=>∃a vs,v=.ref a/\DOf H a (kvs.map (·.1)) vs/\HasV H kvs vs
def HasL(H:Hp):List be->List V->Prop
 | [],vs=>vs=[]
 |d::ds,vs=>∃v r,vs=v::r/\Has H d v/\HasL H ds r
def HasV(H:Hp):List (be×be)->List V->Prop
 | [],vs=>vs=[]
 |p::ps,vs=>∃v r,vs=v::r/\HasP H p v/\HasV H ps r
def HasP(H:Hp):be×be->V->Prop
 | (_,d),v=>Has H d v
end
mutual
theorem Has.mono{H H':Hp}(s:Same H H'):∀(d:be) (v:V),Has H d v->Has H' d v
 | .none,_,h=>by simp only[Has]at h ⊢;exact h
 | .bool _,_,h=>by simp only[Has]at h ⊢;exact h
 | .int _,_,h=>by simp only[Has]at h ⊢;exact h
 | .str _,_,h=>by simp only[Has]at h ⊢;exact h
 | .list ds,v,h=>by
  simp only[Has]at h ⊢;obtain⟨a,vs,e,q,l⟩:=h;exact⟨a,vs,e,s _ _ q,HasL.mono s ds vs l⟩
 | .tuple ds,v,h=>by
  simp only[Has]at h ⊢;obtain⟨a,vs,e,q,l⟩:=h;exact⟨a,vs,e,s _ _ q,HasL.mono s ds vs l⟩
 | .dict kvs,v,h=>by
  simp only[Has]at h ⊢;obtain⟨a,vs,e,q,l⟩:=h;refine⟨a,vs,e,?_,HasV.mono s kvs vs l⟩;rcases q with ⟨ob,m,e1,e2⟩|⟨ob,p,m,e1,e2⟩
  ·exact .inl ⟨ob,m,s _ _ e1,e2⟩
  ·exact .inr ⟨ob,p,m,s _ _ e1,e2⟩
theorem HasL.mono{H H':Hp}(s:Same H H'):∀(ds:List be) (vs:List V),HasL H ds vs->HasL H' ds vs
 | [],_,h=>by simp only[HasL]at h ⊢;exact h
 |d::ds,vs,h=>by
  simp only[HasL]at h ⊢;obtain⟨v,r,e,q,l⟩:=h;exact⟨v,r,e,Has.mono s d v q,HasL.mono s ds r l⟩
theorem HasV.mono{H H':Hp}(s:Same H H'):∀(ds:List (be×be)) (vs:List V),HasV H ds vs->HasV H' ds vs
 | [],_,h=>by simp only[HasV]at h ⊢;exact h
 |d::ds,vs,h=>by
  simp only[HasV]at h ⊢;obtain⟨v,r,e,q,l⟩:=h;exact⟨v,r,e,HasP.mono s d v q,HasV.mono s ds r l⟩
theorem HasP.mono{H H':Hp}(s:Same H H'):∀(p:be×be) (v:V),HasP H p v->HasP H' p v
 | (_,d),v,h=>by
  simp only[HasP]at h ⊢;exact Has.mono s d v h
end
section
variable {H:Hp}{v:V}
theorem i4:Has H .none v↔v=.non:=by simp only[Has]
theorem gH{b:Bool}:Has H (.bool b) v↔v=.bl b:=by simp only[Has]
theorem eV{i:Int}:Has H (.int i) v↔v=.int i:=by simp only[Has]
theorem hV{x:Str}:Has H (.str x) v↔v=.str x:=by simp only[Has]
theorem zZ{ds:List be}:Has H (.list ds) v↔∃a vs,v=.ref a/\H a=some (.lst vs)/\HasL H ds vs:=by simp only[Has]
theorem zX{ds:List be}:Has H (.tuple ds) v↔∃a vs,v=.ref a/\H a=some (.tup vs)/\HasL H ds vs:=by simp only[Has]
theorem pS{p:List (be×be)}:Has H (.dict p) v↔∃a vs,v=.ref a/\DOf H a (p.map (·.1)) vs/\HasV H p vs:=by simp only[Has]
theorem zx{vs:List V}:HasL H [] vs↔vs=[]:=by simp only[HasL]
theorem zo{d:be}{ds:List be}{vs:List V}:HasL H (d::ds) vs↔∃v r,vs=v::r/\Has H d v/\HasL H ds r:=by simp only[HasL]
theorem HasL.length:∀{ds:List be}{vs:List V},HasL H ds vs->vs.length=ds.length
 | [],_,h=>by rw[zx.mp h];rfl
 |d::ds,vs,h=>by
  obtain⟨v,r,e,_,l⟩:=zo.mp h;rw[e,fm,fm,HasL.length l]
theorem HasL.get:∀{ds:List be}{vs:List V}{i:Nat}{d:be},HasL H ds vs->ds[i]?=some d->∃v,vs[i]?=some v/\Has H d v
 | [],_,_,_,_,e=>by simp at e
 |c::ds,vs,0,d,h,e=>by
  obtain⟨v,r,rfl,q,_⟩:=zo.mp h;simp at e;subst e;exact⟨v,rfl,q⟩
 |c::ds,vs,i+1,d,h,e=>by
  obtain⟨v,r,rfl,_,l⟩:=zo.mp h;obtain⟨u,e1,e2⟩:=HasL.get (i:=i) (d:=d) l (by simpa using e);exact⟨u,by simpa using e1,e2⟩
theorem HasL.append:∀{ds es:List be}{vs us:List V},HasL H ds vs->HasL H es us->HasL H (ds++es) (vs++us)
 | [],es,vs,us,h,h'=>by rw[zx.mp h];exact h'
 |d::ds,es,vs,us,h,h'=>by
  obtain⟨v,r,rfl,q,l⟩:=zo.mp h;exact zo.mpr ⟨v,r++us,rfl,q,HasL.append l h'⟩
theorem vF:∀(ns:List Int),HasL H (ns.map .int) (ns.map V.int)
 | []=>zx.mpr rfl
 |n::ns=>zo.mpr ⟨_,_,rfl,eV.mpr rfl,vF ns⟩
end
def tyD:be->String
 | .none=>"NoneType" | .bool _=>"bool" | .int _=>"int" | .str _=>"str" | .list _=>"list" | .tuple _=>"tuple" | .dict _=>"dict"
theorem Has.ty{K:bn}{H:Hp}{d:be}{v:V}(h:Has H d v):TyOf K H v (.type (tyD d)):=by
 cases d with
 |none=>rw[i4.mp h];exact .non
 |bool b=>rw[gH.mp h];exact .bl b
 |int i=>rw[eV.mp h];exact .int i
 |str x=>rw[hV.mp h];exact .str x
 |list ds=>obtain⟨a,vs,rfl,e,_⟩:=zZ.mp h;exact .lst e
 |tuple ds=>obtain⟨a,vs,rfl,e,_⟩:=zX.mp h;exact .tup e
 |dict kvs=>
  obtain⟨a,vs,rfl,e,_⟩:=pS.mp h;rcases e with ⟨ob,m,e,_⟩|⟨ob,p,m,e,_⟩
  ·exact .dK (.inr ⟨ob,e⟩)
  ·exact .dT (.inr ⟨ob,e⟩)
def o9:List String:=["NoneType","bool","int","str","list","tuple","dict"]
def eM:List String:=["int","bool","str","list","tuple","dict"]
def dA(t c:String):Bool:=t==c||(t == "bool" && c == "int")
def gP(d:be)(c:String):Bool:=dA (tyD d) c
theorem C4(d:be):tyD d∈o9:=by cases d<;>simp[tyD,o9]
theorem Ez(K:bn){t c:String}(ht:t∈o9)(hc:c∈eM):W.kitOne K (.type t) (.type c)=some (dA t c):=by
 simp only[o9,eM,gy,fi,or_false]at ht hc;rcases ht with rfl|rfl|rfl|rfl|rfl|rfl|rfl<;>rcases hc with rfl|rfl|rfl|rfl|rfl|rfl<;>rfl
def sF:List V->Hp->VK->Prop
 | [x,.ty c],H,Q=>∃d,Has H d x/\c∈eM/\Q (.bl (gP d c)) H
 |_,_,_=>False
theorem EM{H:Hp}{d:be}{x:V}{c:String}{Q:VK}(h:Has H d x)(hc:c∈eM)(q:Q (.bl (gP d c)) H):sF [x,.ty c] H Q:=⟨d,h,hc,q⟩
section
variable {X:Cx}
theorem dX:CallR X (.builtin "isinstance") sF:=by
 intro zc s σ H xs us Q I r h
 match xs,h with
 | [x,.ty c],h=>
  obtain⟨d,hx,hc,q⟩:=h;obtain⟨u,w',rfl,ru,p⟩:=vals2 r;cases (show w'=ls c from p);exact DL I ru hx.ty (Ez X.K (C4 d) hc) fun tk=>⟨.bl _,H,I.tok tk,rfl,q⟩
end
def sp1(p:V->Hp->VK->Prop):Sp:=fun vs H Q _=>match vs with | [x]=>p x H Q|_=>False
def sp2(p:V->V->Hp->VK->Prop):Sp:=fun vs H Q _=>match vs with | [x,y]=>p x y H Q|_=>False
theorem x3{p:V->Hp->VK->Prop}:∀(vs:List V) (H:Hp) (Q:VK) (E:XK),sp1 p vs H Q E->∃x,vs=[x]/\p x H Q:=by
 intro vs H Q E h
 match vs,h with
 | [x],h=>exact⟨x,rfl,h⟩
theorem yA{p:V->V->Hp->VK->Prop}:∀(vs:List V) (H:Hp) (Q:VK) (E:XK),sp2 p vs H Q E->∃x y,vs=[x,y]/\p x y H Q:=by
 intro vs H Q E h
 match vs,h with
 | [x,y],h=>exact⟨x,y,rfl,h⟩
structure Dd(K:bn)(mg:Str->Option bc)(x:Str)(st:Stmt)(ps:List Str):Prop where
 ex:∃f fd,Fun K x x st f fd/\mg x=some (.ref f)/\Binds K fd ps []
structure Df(P:bw)(w:df)(K:bn)(mg:Str->Option bc)(base:Heap)(x:Str)(ps:List Str)(k:Nat)(sp:Sp):Prop where
 ex:∃f fd,FnOk P w K mg base CX0 k f fd ps sp/\mg x=some (.ref f)/\ki K (.ref f)=true/\Binds K fd ps []
section
variable {P:bw}{w:df}{K:bn}{mg:Str->Option bc}{base:Heap}{x a b c d e:Str}{st:Stmt}{N:List Str}{k:Nat}
theorem Df.of{ps:List Str}{sp:Sp}(D:Dd K mg x st ps)(S:FnScope N ps (zg st))(len:∀vs H Q E,sp vs H Q E->vs.length=ps.length)
  (hbody:∀(f:Addr) (cdv:bc) (A:cw) (outer:List Env) (s:bd) (H:Hp) (vs:List V) (Q:VK) (E:XK),Room k (A.deeper (gh x (zg st) s.heap.objs.size f cdv))->sp vs H Q E ->
   ∃t,PSs (bG CX0 P w K mg base N x (zg st) f cdv A outer s H E).nox (bL st) t/\t { nx:=fun _ H'=>Q .non H',rt:=Q } (start N vs) H):Df P w K mg base x ps (k+1) sp:=by
 obtain⟨f,fd,F,hm,hb⟩:=D.ex;exact⟨f,fd,F.ok S len (hbody f),hm,F.kp,hb⟩
theorem Df.of2{p:V->V->Hp->VK->Prop}(D:Dd K mg x st [a,b])(S:FnScope N [a,b] (zg st))(σ0:V->V->St)(hs:∀v u,start N [v,u]=σ0 v u)
  (hbody:∀(f:Addr) (z:bc) (A:cw) (outer:List Env) (s:bd) (H:Hp) (v u:V) (Q:VK) (E:XK),Room k (A.deeper (gh x (zg st) s.heap.objs.size f z))->p v u H Q ->
   ∃t,PSs (bG CX0 P w K mg base N x (zg st) f z A outer s H E).nox (bL st) t/\t { nx:=fun _ H'=>Q .non H',rt:=Q } (σ0 v u) H):Df P w K mg base x [a,b] (k+1) (sp2 p):=by
 refine Df.of D S (fun vs H Q E h=>?_) fun f z A outer s H vs Q E hr h=>?_
 ·obtain⟨x,y,rfl,_⟩:=yA vs H Q E h;rfl
 ·obtain⟨x,y,rfl,h⟩:=yA vs H Q E h;rw[hs];exact hbody f z A outer s H x y Q E hr h
end
def tC2(p:V->V->Hp->VK->Prop)(ta tb:TE):TE:=fun σ H Q=>ta σ H fun x H1=>tb σ H1 fun y H2=>p x y H2 Q
section
variable {X:Cx}{x a b c d e':Str}{k j:Nat}{pos pos':Pos}{e1 e2 e3 e4 e5:Expr}{t1 t2 t3 t4 t5:TE}
theorem C3{p:V->V->Hp->VK->Prop}(D:Df X.prog X.w X.K X.mg X.base x [a,b] k (sp2 p))(hr:Room j X.A)(hk:k<=j)(h1:PE X e1 t1)(h2:PE X e2 t2)(hg:Gl X x:=by rfl)(z:(x==("__debug__":Str))=false:=by decide)
  (q1:bv [e1,e2] X.env=(false,eval e1 X.env)::bv [e2] X.env:=by rfl) (q2:bv [e2] X.env=(false,eval e2 X.env)::bv [] X.env:=by rfl)
  (hpl:(js pos (bv [e2] X.env)).any (·.1)=false:=by rfl):PE X (.Call (.Name x pos') [e1,e2] [] pos) (tC2 p t1 t2):=by
 obtain⟨f,fd,F,hm,kp,hb⟩:=D.ex;intro zc s σ H Q I h;exact rA (dvs:=[]) (ds:=[]) (E:=E0) F (hr.mono hk) hg hm kp hb .nil pass0 (za h1 (za h2 zd q2) q1) z q1 hpl zc s σ H Q I h
end
theorem Dd.mk'{K:bn}{h:Heap}{mg:Str->Option bc}(X:K.In h)(G:h.Ns jh mg){x:Str}{st:Stmt}{ps:List Str}{f:Addr}{oc:bc}{od an:Option Addr}{aa:Array (Option bc)}{kV z pm p ct:bc}
  (a:W.nsIn K jh x=some (some (.ref f))) (l:K.lookup f=some ⟨oc,od,.func (ly x x (eT st) (bL st) (zg st) .none kV z pm an p ct),aa⟩)
  (c:W.codeIn K p x=true) (k:ki K (.ref f)=true)
  (hb:∀(kV z pm:bc) (an:Option Addr) (p ct:bc) (us:List bc),us.length=ps.length->bindArgs (ly x x (eT st) (bL st) (zg st) .none kV z pm an p ct) ⟨us,[]⟩=pure (ps.zip us)):Dd K mg x st ps:=
 ⟨f,_,oR (st:=st) l c k,li X G a,(oR (st:=st) l c k).binds hb⟩
theorem dS:fk "len" = some (.builtin "len"):=by decide +kernel
theorem zn:fk "isinstance" = some (.builtin "isinstance"):=by decide +kernel
theorem F4:fk "max" = some (.builtin "max"):=by decide +kernel
theorem CJ:fk "min" = some (.builtin "min"):=by decide +kernel
theorem nL:fk "int" = some (.type "int"):=by decide +kernel
theorem rH:fk "bool" = some (.type "bool"):=by decide +kernel
theorem tW:fk "list" = some (.type "list"):=by decide +kernel
theorem n6:fk "tuple" = some (.type "tuple"):=by decide +kernel
section
variable {H:Hp}{Q:VK}
theorem AV{i:Nat}{σ:St}:cB i σ H Q↔match σ[i]? with|some (some v)=>Q v H|_=>False:=by
 unfold cB;constructor
 ·rintro⟨v,e,q⟩;rw[e];exact q
 ·intro h;split at h
  ·rename_i v e;exact⟨v,e,h⟩
  ·exact h.elim
theorem sK{g:Int->Int->V}{i j:Int}:rI0 g (.int i) (.int j) H Q↔Q (g i j) H:=
 ⟨fun⟨_,_,e1,e2,q⟩=>by cases e1;cases e2;exact q,fun q=>⟨i,j,rfl,rfl,q⟩⟩
theorem Ef{p:Bool->Prop}{b:Bool}:(∃c,V.bl b=V.bl c/\p c)↔p b:=⟨fun⟨_,e,q⟩=>by cases e;exact q,fun q=>⟨b,rfl,q⟩⟩
end
section
variable {K:bn}{H:Hp}{Q:VK}{x y:V}{d:be}{ds:List be}
def rX(K:bn):List V->Hp->VK->Prop:=fun xs H Q=>∃p ys,xs=[.ref p]/\(SqL K H p ys\/SqT K H p ys)/\Q (.int ys.length) H
end
section
variable {X:Cx}
theorem Ek:CallR X (.builtin "len") (rX X.K):=wQ
end
def hid(a:Addr)(H:Hp):Hp:=fun b=>if b=a then none else H b
theorem jB{a b:Addr}{H:Hp}(h:b≠a):hid a H b=H b:=cf h
theorem jC{a:Addr}{H:Hp}:hid a H a=none:=dw rfl
theorem Cj{a:Addr}{H:Hp}:Same (hid a H) H:=fun b o e=>by
 by_cases h:b=a
 ·rw[h,jC]at e;cases e
 ·rw[jB h]at e;exact e
theorem Same.laid{H:Hp}{p:Addr}{o:HO}(h:H p=none):Same H (upd H p o):=fun b u e=>by
 rw[zu (zr e h)];exact e
end
section
theorem mT(d:be):gP d "int" = match d with | .int _=>true | .bool _=>true|_=>false:=by cases d<;>first|rfl|(show dA _ _=_;simp[dA,tyD])
theorem kC(d:be):gP d "bool" = match d with | .bool _=>true|_=>false:=by cases d<;>first|rfl|(show dA _ _=_;simp[dA,tyD])
theorem mY(d:be):gP d "tuple" = match d with | .tuple _=>true|_=>false:=by cases d<;>first|rfl|(show dA _ _=_;simp[dA,tyD])
theorem lO(d:be):gP d "list" = match d with | .list _=>true|_=>false:=by cases d<;>first|rfl|(show dA _ _=_;simp[dA,tyD])
def vw:List Addr->Hp->Hp
 | [],H=>H
 |a::r,H=>hid a (vw r H)
def pK(K:bn):V->V->Hp->VK->Prop:=fun x y H Q=>∃(a:Addr) (ns:List Int) (i:Int),x=.ref a/\y=.int i/\SqL K H a (ns.map V.int)/\0<=i/\∀n,Q (.int n) H
theorem Cp{ns:List Int}{i:Int}(h0:0<=i)(h1:i<((ns.map V.int).length:Int)):∃n,atI (ns.map V.int) i=some (.int n):=by
 obtain⟨k,rfl⟩:=ia h0;have hk:k<ns.length:=by rw[cp]at h1;omega
 exact⟨ns[k],dR (by rw[gf,eg hk];rfl)⟩
theorem ET{ns:List Int}{lo hi:Option Int}{x:V}(h:x∈cC (ns.map V.int) lo hi):∃n,x=.int n:=by
 have h1:=List.mem_of_mem_drop (mem_of_mem_take h);obtain⟨n,_,e⟩:=mem_map.mp h1;exact⟨n,e.symm⟩
theorem Fun.bind1{K:bn}{x a:Str}{st:Stmt}{f:Addr}{fd:iq}(F:Fun K x x st f fd)
  (h:∀(kV p pm:bc) (an:Option Addr) (z ct:bc) (u:bc),bindArgs (ly x x (eT st) (bL st) (zg st) .none kV p pm an z ct) ⟨[u],[]⟩=pure [(a,u)]):∀(s:bd) (u:bc),BindsTo s fd ⟨[u],[]⟩ [(a,u)]:=by
 obtain⟨oc,od,kV,p,pm,an,z,ct,aa,rfl,lk,ac⟩:=F.ex;exact fun s u=>.of_eq (h kV p pm an z ct u)
def sA(K:bn):V->Hp->VK->Prop:=fun x H Q=>∃(a:Addr) (ns:List Int),x=.ref a/\SqL K H a (ns.map V.int)/\ns.length<=63/\∀H',Q (.bl true) H'
theorem walk_law{l:W.OpenLaw}{k:Nat}{q:bw}{p:List Str}{XP:(Str->Option bc)->Heap->Prop}{YP:df->Heap->Prop}{d:DefRec}{K:Params->bn}(hn:l.most=some 63)(aa:d.params.defaults=[])
  (hr:Room k callerA) (hY:∀(w:df) (h:Heap),YP w h->(K w.params).In h) (hT:∀(w:df) (h:Heap),YP w h->TabsOk (K w.params) h)
  (F:∀(w:df) (mg:Str->Option bc) (fa:Addr) (h:Heap),(K w.params).In h->h.Ns jh mg->mg d.name=some (.ref fa) ->
   ∃fd:iq,(∀(s:bd) (u:bc),BindsTo s fd ⟨[u],[]⟩ [("script",u)])/\∀base:Heap,(K w.params).In base->base.Ns jh mg->FnOk l.prog w (K w.params) mg base CX0 k fa fd ["script"] (sp1 (sA (K w.params)))):
  W.WalkO q p XP YP l.row.toRowW d [] (fun f vs=>PySem.call f vs):=
 L2.walk_of (n:=63) (k:=k) (x:="script") (CX:=fun _=>CX0) (sp:=fun w=>sp1 (sA (K w.params))) hn dz aa hr hY hT F (fun _ _ a ns hl _ hS=>⟨a,ns,rfl,hS,hl,fun _=>rfl⟩) fun _ _ _ _ _ z=>z
theorem Fun.ok1{P:bw}{w:df}{K:bn}{mg:Str->Option bc}{base:Heap}{x a:Str}{st:Stmt}{f:Addr}{fd:iq}{N:List Str}{k:Nat}{p:V->Hp->VK->Prop}(F:Fun K x x st f fd)(S:FnScope N [a] (zg st))(σ0:V->St)(hs:∀v,start N [v]=σ0 v)
  (hbody:∀(z:bc) (A:cw) (outer:List Env) (s:bd) (H:Hp) (v:V) (Q:VK) (E:XK),Room k (A.deeper (gh x (zg st) s.heap.objs.size f z))->p v H Q ->
   ∃t,PSs (bG CX0 P w K mg base N x (zg st) f z A outer s H E).nox (bL st) t/\t { nx:=fun _ H'=>Q .non H',rt:=Q } (σ0 v) H):FnOk P w K mg base CX0 (k+1) f fd [a] (sp1 p):=by
 refine F.ok S (fun vs H Q E h=>?_) fun z A outer s H vs Q E hr h=>?_
 ·obtain⟨x,rfl,_⟩:=x3 vs H Q E h;rfl
 ·obtain⟨x,rfl,h⟩:=x3 vs H Q E h;rw[hs];exact hbody z A outer s H x Q E hr h
end
section
mutual
theorem Has.reads{X:Cx}{zc:List (Addr×Obj)}{σ:St}{H:Hp}{s:bd}(I:Inv X zc σ H s):∀(d:be) (v:V) (u:bc),Has H d v->d.canLay0=true->RelV v u->∃as,Reads s.heap u d as
 | .none,v,u,h,_,r=>by
  rw[i4.mp h]at r;cases (show u=cu from r);exact⟨_,.none⟩
 | .bool b,v,u,h,_,r=>by
  rw[gH.mp h]at r;cases (show u=Value.bool b from r);exact⟨_,.bool b⟩
 | .int i,v,u,h,_,r=>by
  rw[eV.mp h]at r;obtain⟨t,q⟩:=(show ∃t,u=Value.int i t from r);cases q;exact⟨_,.int i t⟩
 | .str x,v,u,h,_,r=>by
  rw[hV.mp h]at r;obtain⟨t,q⟩:=(show ∃t,u=Value.str x t from r);cases q;exact⟨_,.str x t⟩
 | .list ds,v,u,h,c,r=>by
  obtain⟨a,vs,rfl,e,l⟩:=zZ.mp h;cases (show u=cg a from r);obtain⟨_,p,n,rv,e1⟩:=(show ObjOk X.prog X.w H s.heap a (.lst vs)from I.hok a _ e);obtain⟨as,q⟩:=HasL.reads I ds vs p l (by simpa only[ja]using c) rv;exact⟨_,.list e1 rfl rfl (by simpa using q)⟩
 | .tuple ds,v,u,h,c,r=>by
  obtain⟨a,vs,rfl,e,l⟩:=zX.mp h;cases (show u=cg a from r);obtain⟨_,p,rv,o,e1,e2,n,e3⟩:=(show ObjOk X.prog X.w H s.heap a (.tup vs)from I.hok a _ e);obtain⟨as,q⟩:=HasL.reads I ds vs p l (by simpa only[ja]using c) rv;exact⟨_,.tuple e1 e2 e3 (by simpa using q)⟩
 | .dict _,_,_,_,c,_=>by simp[ja]at c
theorem HasL.reads{X:Cx}{zc:List (Addr×Obj)}{σ:St}{H:Hp}{s:bd}(I:Inv X zc σ H s):∀(ds:List be) (vs:List V) (us:List bc),HasL H ds vs->ir ds=true->Vals vs us->∃as,ReadsAll s.heap us ds as
 | [],vs,us,h,_,r=>by
  rw[zx.mp h]at r;cases r;exact⟨_,.nil⟩
 |d::ds,vs,us,h,c,r=>by
  obtain⟨v,w',rfl,h1,h2⟩:=zo.mp h;have c':d.canLay0=true/\ir ds=true:=by simpa[ir]using c
  cases r with
  |cons r1 r2=>
   obtain⟨as,q1⟩:=Has.reads I d v _ h1 c'.1 r1;obtain⟨bs,q2⟩:=HasL.reads I ds w' _ h2 c'.2 r2;exact⟨_,.cons q1 q2⟩
end
def vZ:R2:=fun x y H Q=>∃d e,Has H d x/\Has H e y/\dq d=true/\dq e=true/\Q (.bl (jb d e)) H
def yT:R2:=fun x y H Q=>∃d e,Has H d x/\Has H e y/\dq d=true/\dq e=true/\Q (.bl (!PyData.eqv d e)) H
section
variable {X:Cx}
theorem dU(hu:X.A.units+64<cLine):OpR X (km .Eq) vZ:=by
 intro zc s σ H x y v u Q I rx ry h;obtain⟨d,e,hd,he,sd,se,q⟩:=h;obtain⟨as,q1⟩:=Has.reads I d x v hd (fw sd) rx;obtain⟨bs,q2⟩:=Has.reads I e y u he (fw se) ry;exact eq_dataH q1 q2 sd se hu ⟨.bl _,H,I,rfl,q⟩
theorem gI(hu:X.A.units+64<cLine):OpR X (km .NotEq) yT:=by
 intro zc s σ H x y v u Q I rx ry h;obtain⟨d,e,hd,he,sd,se,q⟩:=h;obtain⟨as,q1⟩:=Has.reads I d x v hd (fw sd) rx;obtain⟨bs,q2⟩:=Has.reads I e y u he (fw se) ry;exact ne_dataH q1 q2 sd se hu ⟨.bl _,H,I,rfl,q⟩
end
section
variable {K:bn}{o:List Addr}{σ:St}{H0:Hp}{t t1 t2 t3 t4 t5:TE}{ta:TA}{tt tu:TT}{d d1 d2 d3 d4 d5:be}{ds:List be}{b c:Bool}
def iM:be->Bool
 | .none=>true
 |_=>false
end
def spD(a b:Int):be:=.tuple [.int a,.int b]
end
section
theorem AS{K:bn}{a:Addr}{ns:List Int}{N:Int}{j:Nat}{tb:TS}{D:Ends}{σ:St}{H:Hp}(P:St->Prop)(h0:σ[0]?=some (some (.ref a)))(hS:SqL K H a (ns.map V.int))(aa:ns.length<=63)(hP:P σ)
  (turn:∀(n:Int) (σ:St) (H1 H2:Hp),P σ->Same H H1->Same H1 H2->tb { D with nx:=fun σ' H'=>Same H1 H'/\P σ',ct:=fun σ' H'=>Same H1 H'/\P σ',bk:=D.nx } (σ.set j (some (.int n))) H2)
  (done:∀(σ:St) (H1:Hp),P σ->Same H H1->D.nx σ H1):
  lY (rB K (tOp i3 (iI (iS (tC2 (pK K) (cB 0) (tC (.int 0))) iF)) (tSl (kQ K) (cB 0) (i7 (tC (.int 1))) (i7 (tC (.int N)))))) (iR j) tb D σ H:=by
 refine⟨_,h0,a,ns,0,rfl,rfl,hS,by decide,fun n0=>⟨by show 1<=bt;decide,fun p hp=>?_⟩⟩;have s1:Same H (upd H p (.lst [.int n0])):=Same.laid hp;refine⟨_,h0,_,rfl,_,rfl,a,_,rfl,s1.seq hS,fun p2 z=>?_⟩;have s2:=s1.trans (Same.laid (o:=.lst (cC (ns.map V.int) (some 1) (some N))) z);have np:p≠p2:=zr zJ z;have hz:(cC (ns.map V.int) (some 1) (some N)).length<=63:=gg (rO _ _ _) (by rw[cp];exact aa);refine⟨p,p2,_,_,rfl,rfl,by rw[zu np,zJ],zJ,ji (small1000 (by simp only[fm,length_nil];omega)),fun p3 ac=>?_⟩;have s3:=s2.trans (Same.laid (o:=.lst ([V.int n0]++cC (ns.map V.int) (some 1) (some N))) ac);refine⟨p3,rfl,⟨_,.of zJ⟩,Dz (K:=K) (a:=p3) (xs:=[V.int n0]++cC (ns.map V.int) (some 1) (some N)) (fun i σ' H'=>Same _ H'/\P σ') ⟨Same.refl _,hP⟩ (fun i σ H4 _ ⟨s4,_⟩=>.of (s4 _ _ zJ)) ?_ ?_⟩
 ·rintro i x σ' H4 hi ⟨s4,p4⟩;obtain⟨n,rfl⟩:∃n,x=.int n:=by
   rcases mem_append.mp (cn hi)with m|m
   ·exact⟨n0,mem_singleton.mp m⟩
   ·exact ET m
  exact turn n σ' _ H4 p4 s3 s4
 ·rintro σ' H4 ⟨s4,p4⟩;exact done σ' H4 p4 (s3.trans s4)
end
section
section
variable {prog:bw}{w:df}{A:cw}{E:bc->bd->Prop}{R:Result->bd->Prop}{s:bd}
theorem Dc{elt p iter:Expr}{ifs:List Expr}{scope:Scope}{pos:Pos}{it acc:bc}{env:Env}(I:Nat->bd->Prop)
  (turn:∀n s,I n s->bq (model prog w) A (pyNext it) (fun r s₁=>match r with
   |none=>R (.ok .next) s₁
   |some v=>bq (model prog w) A (letOwnedTupleGo p it v) (fun _ s₀=>bq (model prog w) A (assign p env v) (fun _ s₂=>
     bq (model prog w) A (forIn ifs true fun c r=>if r=true then do let ok <- isTrue c env (eval c env);pure (kj ok)else pure (kj r)) (fun ok s₃=>
      if ok=true then bq (model prog w) A (eval elt env) (fun x s₄=>
       bq (model prog w) A (call (.builtin "list.append") [acc,x]) (fun _ s₅=>∃m,m<n/\I m s₅) (fun _ _=>False) s₄) (fun _ _=>False) s₃
      else ∃m,m<n/\I m s₃) (fun _ _=>False) s₂) (fun _ _=>False) s₀) (fun _ _=>False) s₁) (fun _ _=>False) s)
  (n:Nat) (h:I n s):
  ku (model prog w) A (.compLoop (.ListComp elt [⟨p,iter,ifs,0⟩] scope pos) 0 it acc env) R s:=by
 have up:∀{α:Type}{t:Sem α}{Q:α->bd->Prop}{E':bc->bd->Prop}{s':bd},bq (model prog w) A t Q (fun _ _=>False) s'->bq (model prog w) A t Q E' s':=fun h=>gr h (fun _ _ q=>q) fun _ _ z=>z.elim;refine codeAny_loop rfl I (fun n s hI=>?_) n h;show bq _ A ((compTurn (.ListComp elt [⟨p,iter,ifs,0⟩] scope pos) 0 it acc env).onRaise (fun x=>do noteFrame x env;theTreesLotGoes x)) _ _ s;refine wpAny_noted ?_;rw[compTurn_list];refine bb (kz (bb (thn (up (turn n s hI)) fun r s₁ h₁=>?_)));cases r with
 |none=>exact bo h₁
 |some v=>
  refine bb (thn (up h₁) fun _ s₀ h₀=>?_);refine bb (thn (up h₀) fun _ s₂ h₂=>bb (thn (up h₂) fun ok s₃ h₃=>?_));cases ok with
  |false=>exact bo ⟨rfl,h₃⟩
  |true=>
   exact bb (bb (thn (up h₃) fun x s₄ h₄=>bb (thn (up h₄) fun _ s₅ h₅=>bo (bo ⟨rfl,h₅⟩))))
end
def bK(X:Cx)(scope:Scope)(cl:List (Str×Addr))(C:Addr)(s₃:bd)(H₃:Hp)(fp:List Addr)(N:List Str):Cx where
 prog:=X.prog
 w:=X.w
 K:=X.K
 mg:=X.mg
 base:=X.base
 A:=X.A
 N:=N
 s₀:=s₃
 H₀:=H₃
 env:=compEnvC scope cl C X.env
 outer:=X.stack
 stack:=X.stack
 ex:=fp
 fn:=fun _=>false
 calm:=X.calm
 pn:=[]
 xe:=fun _ _=>False
def PTs(X:Cx)(ifs:List Expr)(t:TT):Prop:=
 ∀(zc:List (Addr×Obj)) (s:bd) (σ:St) (H:Hp) (Q:Bool->Hp->Prop),Inv X zc σ H s->t σ H Q ->
  bq (model X.prog X.w) X.A (forIn ifs true fun c r=>if r=true then do let ok <- isTrue c X.env (eval c X.env);pure (kj ok)else pure (kj r)) (TP X zc σ Q) X.xe s
def tJ:TT:=fun _ H Q=>Q true H
theorem eJ{X:Cx}:PTs X [] tJ:=fun _ _ _ H _ I h=>wpAny_tests_nil ⟨H,I,h⟩
def tau(caps:List (Option Nat))(σ:St):St:=caps.map fun o=>o.bind fun i=>(σ[i]?).join
def jL(caps:List (Option Nat))(wi:TI)(g:TG)(tt:TT)(te:TE):TE:=fun σ H Q=>wi σ H fun J H1=>∀D,H1 D=none->∃W:Nat->Nat->St->Hp->Prop,(∃m,W 0 m (tau caps σ) (upd H1 D (.lst []))) /\
 ∀i m τ H2,W i m τ H2->(J.stop i H2/\Q (.ref D) H2)\/(J.go i H2/\∀x H3,J.yld i H2 x H3->g x τ H3 fun τ4 H4=>tt τ4 H4 fun b H5=>
  if b=true then te τ4 H5 fun v H6=>∃xs,H6 D=some (.lst xs)/\xs.length<bt/\∃m',m'<m/\W (i+1) m' τ4 (upd H6 D (.lst (xs++[v])))else ∃m',m'<m/\W (i+1) m' τ4 H5)
structure CompOk(X:Cx)(scope:Scope)(cl:List (Str×Addr))(N:List Str)(caps:List (Option Nat)):Prop where
 clos:closureFor scope X.env=pure cl
 sub:∀x c,cl.lookup x=some c->X.env.cells.lookup x=some c
 kind:scope.kind=.function
 cell:∀y∈scope.names,y.2≠.cell
 names:∀y∈scope.names,y.2=.local->scope.names.lookup y.1=some .local
 has:∀x,((relabel scope X.env).names.lookup x=some .cell\/(relabel scope X.env).names.lookup x=some .free)->∃c,cl.lookup x=some c
 cap:∀(j i:Nat) (x:Str),caps[j]?=some (some i)->N[j]?=some x->X.N[i]?=some x/\Vis X.env.scope x/\¬ X.env.kindOf x=some .local/\∃c,cl.lookup x=some c/\((relabel scope X.env).names.lookup x=some .cell\/(relabel scope X.env).names.lookup x=some .free)
 len:caps.length=N.length
section
variable {X:Cx}{scope:Scope}{cl:List (Str×Addr)}{N:List Str}{caps:List (Option Nat)}{tg iter elt:Expr}{ifs:List Expr}{pos:Pos}{wi:TI}{g:TG}{tt:TT}{te:TE}
theorem Aq{zc:List (Addr×Obj)}{σ:St}{H:Hp}{s:bd}{fp:List Addr}{h₁:Heap}{t':Nat}(c:CompOk X scope cl N caps)(I:Inv X zc σ H s)(f:∀b∈fp,FpOk X zc H b)(fo:∀b∈fp,∃o,s.heap.get? b=some o)
  (hns:h₁.Ns s.heap.objs.size (fun _=>none)) (hk:∀b o,s.heap.get? b=some o->h₁.get? b=some o):
  Inv (bK X scope cl s.heap.objs.size s H fp N) [] (tau caps σ) H { s with heap:=h₁,toks:=t' }:=by
 have lt:∀b∈fp,b<s.heap.objs.size:=fun b hb=>by obtain⟨o,e⟩:=fo b hb;exact cv e
 have ac:∀x k,cl.lookup x=some k->∃v,s.heap.IsCell k v:=fun x k e=>I.cell x k (c.sub x k e);refine⟨⟨I.ok.mod,c.kind,I.ok.glob,I.ok.blt,cq _,fun x y k h1 h2=>I.ok.inj x y k (c.sub x k h1) (c.sub y k h2),fun x hx=>c.has x hx,fun x k h _=>absurd (show false=true from h) dz,I.ok.hd,I.ok.frames,.inl rfl,
  fun b hb=>⟨ie (lt b hb),fun x k e=>(f b hb).2.2.2.2.1 x k (c.sub x k e)⟩,I.bs,gg I.ok.bsz I.sz,fun b o e hb=>?_,fun b hb z=>?_,I.stack,I.stkFree⟩,
  rfl,I.bare,Un.kept hk,⟨_,hns,fun j x v h1 h2 h3=>?_⟩,fun x k e=>?_,I.hok.fresh (cq _),fun x k e=>I.freeC x k (c.sub x k e),fun p hp=>absurd (show p∈([]:List (Addr×Obj))from hp) yv,I.hok.kept hk,?_⟩
 ·rcases(f b hb).2.2.2.1 with q|q
  ·exact I.ok.noex b o e q
  ·exact absurd (ef (cv e) (gg I.ok.bsz q)) (iy _)
 ·rcases mem_cons.mp (I.stkSub b z)with q|q
  ·exact(f b hb).2.1 q
  ·exact(f b hb).2.2.1 q
 ·have aa:(caps.map fun o=>o.bind fun i=>(σ[i]?).join)[j]?=some (some v):=h2;rw[gf]at aa;cases e:caps[j]? with
  |none=>rw[e]at aa;cases aa
  |some oi=>
   rw[e]at aa;have h2'':(oi.bind fun i=>(σ[i]?).join)=some v:=fe aa;cases oi with
   |none=>cases h2''
   |some i=>
    have h4:(σ[i]?).join=some v:=h2'';have h5:σ[i]?=some (some v):=by
     cases q:σ[i]? with
     |none=>rw[q]at h4;cases h4
     |some w'=>rw[q]at h4;exact congrArg some h4
    obtain⟨k1,k2,k3,cc,k4,k5⟩:=c.cap j i x e h1;obtain⟨m,hn,hl⟩:=I.loc;obtain⟨u,r,l⟩:=hl i x v k1 h5 k2;refine⟨u,r,.inr ⟨k5,cc,k4,?_⟩⟩;rcases l with ⟨q,_⟩|⟨_,c',hc',hcell⟩
    ·exact(k3 q).elim
    ·rw[c.sub x cc k4]at hc';cases hc';exact hcell.keeps hk
 ·obtain⟨v,q⟩:=ac x k e;exact⟨v,q.keeps hk⟩
 ·show (caps.map _).length=N.length;rw[cp];exact c.len
theorem Eh{zc:List (Addr×Obj)}{σ τ:St}{H H':Hp}{s s':bd}{h':Heap}{fp:List Addr}(I:Inv X zc σ H s)(f:∀b∈fp,FpOk X zc H b)(J:Inv (bK X scope cl s.heap.objs.size s H fp N) [] τ H' s')(hs:fc s.heap.objs.size s'.heap h'):
  Inv X zc σ H' { s' with heap:=h' }:=by
 have hC:H' s.heap.objs.size=none:=J.free;have keep:∀b o,b≠s.heap.objs.size->s'.heap.get? b=some o->h'.get? b=some o:=fun b o nb e=>hs.extBut b o nb e;have u1:Un (frs X.stack) (s.heap.objs.size::fp) H H' s.heap s'.heap:=Un.mono J.base (fun b hb=>hb) (fun b hb=>ck _ hb);have u2:Un (frs X.stack) (s.heap.objs.size::fp) H' H' s'.heap h':=
  ⟨fun b o e _ _ hx=>keep b o (fun z=>hx (by rw[z];exact dm)) e,fun b o e _ _ hx=>⟨o.slots,keep b o (fun z=>hx (by rw[z];exact dm)) e⟩,fun _ _ _ n _=>n,fun b o e hx=>⟨o,keep b o (fun z=>hx (by rw[z];exact dm)) e⟩,fun _ _ q=>q,fun _ _ _ q=>q,fun _ _ q=>q⟩
 have hok:HOk X.prog X.w H' h':=fun a o e=>(J.hok a o e).stay (fun b u hb q=>keep b u (fun z=>by
  rcases hb with hb|hb
  ·rw[<- hb,z,hC]at e;cases e
  ·rw[z,hC]at hb;cases hb) q) (fun b q=>q) fun b xs q=>q
 refine I.call' (s':={ s' with heap:=h' }) (ch:=s.heap.objs.size::fp) J.os (u1.trans u2) hok J.bare fun b hb=>?_;rcases mem_cons.mp hb with rfl|hb
 ·refine⟨.inr I.sz,ne_of_gt I.lt,fun x k e z=>?_,fun p hp z=>?_⟩
  ·obtain⟨v,q⟩:=I.cell x k e;exact absurd q.lt (by rw[z];exact iy _)
  ·exact absurd (cv (I.pin p hp).1) (by rw[z];exact iy _)
 ·obtain⟨f0,f1,f2,f3,f4,f5⟩:=f b hb;exact⟨f3,f1,f4,f5⟩
theorem yQ{zc:List (Addr×Obj)}{σ:St}{H2:Hp}{s2:bd}{it:Addr}{fp:List Addr}{tn:Nat->Heap->Prop}{J:It}{RR:bc->Addr->Result->bd->Prop}{E:bc->bd->Prop}(hc:X.calm=true)(c:CompOk X scope cl N caps)
  (I2:Inv X zc σ H2 s2) (T:Turn X.prog X.w X.K tg J fp it tn) (st2:tn 0 s2.heap) (f2:∀b∈fp,FpOk X zc H2 b)
  (hg:∀C s H fp,PG (bK X scope cl C s H fp N) tg g) (ht:∀C s H fp,PTs (bK X scope cl C s H fp N) ifs tt) (he:∀C s H fp,PE (bK X scope cl C s H fp N) elt te)
  (Q:VK) (hq:∀D,H2 D=none->∃W:Nat->Nat->St->Hp->Prop,(∃m,W 0 m (tau caps σ) (upd H2 D (.lst []))) /\
   ∀i m τ H2,W i m τ H2->(J.stop i H2/\Q (.ref D) H2)\/(J.go i H2/\∀x H3,J.yld i H2 x H3->g x τ H3 fun τ4 H4=>tt τ4 H4 fun b H5=>
    if b=true then te τ4 H5 fun v H6=>∃xs,H6 D=some (.lst xs)/\xs.length<bt/\∃m',m'<m/\W (i+1) m' τ4 (upd H6 D (.lst (xs++[v])))else ∃m',m'<m/\W (i+1) m' τ4 H5))
  (hRR:∀(D C:Addr) (H':Hp) (s':bd) (m:Str->Option bc),s'.heap.Ns C m->FpOk X zc H' C->(∀h',fc C s'.heap h'->Inv X zc σ H' { s' with heap:=h' })->Q (.ref D) H'->RR (.ref D) C (.ok .next) s'):
  bq (model X.prog X.w) X.A (newList []) (fun acc s₃=>bq (model X.prog X.w) X.A (newFunctionEnv scope X.env.globals cl [] X.env.qual none .none (some X.env)) (fun ae s₄=>
   ku (model X.prog X.w) X.A (.compStart (.ListComp elt [⟨tg,iter,ifs,0⟩] scope pos) 0 (.ref it) acc { ae with scope:=relabel scope X.env }) (RR acc ae.locals) s₄) E s₃) E s2:=by
 have hD:H2 s2.heap.objs.size=none:=I2.hok.fresh (cq _);obtain⟨W,⟨m0,w0⟩,ak⟩:=hq s2.heap.objs.size hD;have I3:Inv X zc σ (upd H2 s2.heap.objs.size (.lst [])) { s2 with heap:=s2.heap.push { cls:=.type "list",data:=.seq ([]:List bc).toArray } }:=I2.laid (t':=s2.toks) (fun b u e=>bg _ e) (cq _) ⟨zero_le _,[],0,.nil,bu _ rfl⟩;have fo:∀b∈fp,∃o,s2.heap.get? b=some o:=fun b hb=>by obtain⟨o,e,_⟩:=T.obj 0 _ st2 b hb;exact⟨o,e⟩
 have f3:∀b∈fp,FpOk X zc (upd H2 s2.heap.objs.size (.lst [])) b:=fun b hb=>by
  obtain⟨o,e⟩:=fo b hb;refine⟨?_,(f2 b hb).2⟩;rw[zu (ie (cv e))];exact(f2 b hb).1
 refine fg (wpAny_newFunctionEnv c.cell (by intro y hy;simp at hy) (fun h₁ am al=>?_) c.kind);have hk:∀b o,(s2.heap.push { cls:=.type "list",data:=.seq ([]:List bc).toArray }).get? b=some o->h₁.get? b=some o:=fun b o e=>al.extBut b o (ie (cv e)) (bg _ e);have aj:tn 0 h₁:=T.keep 0 _ _ st2 fun b _ o e=>hk b o (bg _ e);have I4:=Aq (t':=s2.toks+([]:List (Str×bc)).length) c I3 f3 (fun b hb=>by obtain⟨o,e⟩:=fo b hb;exact⟨o,bg _ e⟩) am hk;have ac:∀{H':Hp},(∀b∈fp,H' b=none)->∀b∈fp,FpOk (bK X scope cl (s2.heap.push { cls:=.type "list",data:=.seq ([]:List bc).toArray }).objs.size { s2 with heap:=s2.heap.push { cls:=.type "list",data:=.seq ([]:List bc).toArray } } (upd H2 s2.heap.objs.size (.lst [])) fp N) [] H' b:=fun hn b hb=>
  ⟨hn b hb,(I4.ok.exf b hb).1,I4.ok.exfs b hb,.inl hb,(I4.ok.exf b hb).2,fun p hp=>absurd (show p∈([]:List (Addr×Obj))from hp) yv⟩
 have af:ku (model X.prog X.w) X.A (.compLoop (.ListComp elt [⟨tg,iter,ifs,0⟩] scope pos) 0 (.ref it) (.ref s2.heap.objs.size) (compEnvC scope cl (s2.heap.push { cls:=.type "list",data:=.seq ([]:List bc).toArray }).objs.size X.env))
   (RR (.ref s2.heap.objs.size) (s2.heap.push { cls:=.type "list",data:=.seq ([]:List bc).toArray }).objs.size) { s2 with heap:=h₁,toks:=s2.toks+([]:List (Str×bc)).length }:=by
  refine Dc (fun n s'=>∃i τ H',Inv (bK X scope cl (s2.heap.push { cls:=.type "list",data:=.seq ([]:List bc).toArray }).objs.size { s2 with heap:=s2.heap.push { cls:=.type "list",data:=.seq ([]:List bc).toArray } } (upd H2 s2.heap.objs.size (.lst [])) fp N) [] τ H' s'/\tn i s'.heap/\(∀b∈fp,H' b=none)/\W i n τ H') ?_ m0 ⟨0,_,_,I4,aj,fun b hb=>(f3 b hb).1,w0⟩;rintro n s5 ⟨i,τ,H5,I5,ai,ah,w5⟩;rcases ak i n τ H5 w5 with ⟨stop,qn⟩|⟨go,step⟩
  ·refine thn (T.done (bK X scope cl (s2.heap.push { cls:=.type "list",data:=.seq ([]:List bc).toArray }).objs.size { s2 with heap:=s2.heap.push { cls:=.type "list",data:=.seq ([]:List bc).toArray } } (upd H2 s2.heap.objs.size (.lst [])) fp N) rfl rfl rfl hc i [] s5 τ H5 (fun _ _=>False) I5 (ac ah) ai stop) fun r s6 ⟨hr,I6⟩=>?_;subst hr;obtain⟨m,hn,_⟩:=id I6.loc;exact hRR _ _ H5 s6 m hn (I3.fpOk (cq _) I6.free) (fun h' hs=>Eh I3 f3 I6 hs) qn
  ·refine thn (T.item (bK X scope cl (s2.heap.push { cls:=.type "list",data:=.seq ([]:List bc).toArray }).objs.size { s2 with heap:=s2.heap.push { cls:=.type "list",data:=.seq ([]:List bc).toArray } } (upd H2 s2.heap.objs.size (.lst [])) fp N) rfl rfl rfl hc i [] s5 τ H5 (fun _ _=>False) I5 (ac ah) ai go) fun r s6 ⟨u,hr,h6⟩=>?_;subst hr;refine thn h6 fun _ s7 ⟨x,H7,I7,r7,y7,ag,an⟩=>?_;have I7':=I7.pinned (ac an) (T.obj _ _ ag);refine thn (hg _ _ _ _ _ s7 τ H7 x u _ I7' r7 (step x H7 y7)) fun _ s8 ⟨τ8,H8,I8,q8⟩=>?_;refine thn (ht _ _ _ _ _ s8 τ8 H8 _ I8 q8) fun ok s9 ⟨H9,I9,q9⟩=>?_;have aa:∀{H':Hp}{s':bd}{m:Nat},Inv (bK X scope cl (s2.heap.push { cls:=.type "list",data:=.seq ([]:List bc).toArray }).objs.size { s2 with heap:=s2.heap.push { cls:=.type "list",data:=.seq ([]:List bc).toArray } } (upd H2 s2.heap.objs.size (.lst [])) fp N) ([]++iK fp s7.heap) τ8 H' s'->(m<n/\W (i+1) m τ8 H') ->
     ∃m,m<n/\∃i τ H',Inv (bK X scope cl (s2.heap.push { cls:=.type "list",data:=.seq ([]:List bc).toArray }).objs.size { s2 with heap:=s2.heap.push { cls:=.type "list",data:=.seq ([]:List bc).toArray } } (upd H2 s2.heap.objs.size (.lst [])) fp N) [] τ H' s'/\tn i s'.heap/\(∀b∈fp,H' b=none)/\W i m τ H':=fun {H' s' m} I' q=>by
    refine⟨m,q.1,i+1,τ8,H',I'.unpinned,T.keep _ _ _ ag fun b hb o e=>(I'.pin (b,o) (cb _ (cb _ (iL hb e)))).1,fun b hb=>?_,q.2⟩;obtain⟨o,e,d⟩:=T.obj _ _ ag b hb;exact(I'.pin (b,o) (cb _ (cb _ (iL hb e)))).2.1
   cases ok with
   |false=>
    rw[cf gc]at q9 ⊢;obtain⟨m',hm,w9⟩:=q9;exact aa I9 ⟨hm,w9⟩
   |true=>
    rw[dw rfl]at q9 ⊢;refine thn (he _ _ _ _ _ s9 τ8 H9 _ I9 q9) fun v ar ⟨z,H10,I10,aq,xs,hx,hz,m',hm,ap⟩=>?_;refine thn (pX _ ar τ8 H10 (.ref s2.heap.objs.size) [z] (.ref s2.heap.objs.size) [v] (fun _ H11=>W (i+1) m' τ8 H11) I10 rfl (.cons aq .nil) ⟨_,xs,z,rfl,rfl,hx,hz,ap⟩) fun _ as ⟨_,H11,I11,_,ao⟩=>?_;exact aa I11 ⟨hm,ao⟩
 exact codeAny_compStart_list af (T.self _ 0 _ _ _ aj af)
theorem iX(hx:∀e s,X.xe e s->False)(hc:X.calm=true)(c:CompOk X scope cl N caps)(hi:PI X tg iter wi)(hg:∀C s H fp,PG (bK X scope cl C s H fp N) tg g)(ht:∀C s H fp,PTs (bK X scope cl C s H fp N) ifs tt)(he:∀C s H fp,PE (bK X scope cl C s H fp N) elt te)
  (hs:∀x,foldedSetIterable iter X.env x=pure x:=by intro _;rfl):PE X (.ListComp elt [⟨tg,iter,ifs,0⟩] scope pos) (jL caps wi g tt te):=by
 intro zc s σ H Q I h;rw[eval_ListComp];refine wpAny_comprehension_free (use:=none) rfl hs c.clos c.kind c.names (thn (hi zc s σ H _ I h) fun v s1 h1=>thn h1 fun z s2 h2=>?_);obtain⟨it,fp,tn,J,H2,e,I2,T,p,f2,q2⟩:=h2;subst e;exact yQ (RR:=fun acc C=>compPost (model X.prog X.w) X.A X.xe none (EP X zc σ Q) acc C) hc c I2 T p f2 hg ht he Q q2 fun D C H' s' m hn _ hb q=>⟨m,hn,fun h' hs=>⟨.ref D,H',hb h' hs,rfl,q⟩⟩
theorem pG{i:Nat}{y:Str}{py aa:Pos}(hx:∀e s,X.xe e s->False)(hc:X.calm=true)(c:CompOk X scope cl N caps)(hN:X.N.Nodup)(ae:X.N[i]?=some y)(hl:X.env.scope.names.lookup y=some .local)(hi:PI X tg iter wi)(hg:∀C s H fp,PG (bK X scope cl C s H fp N) tg g)
  (ht:∀C s H fp,PTs (bK X scope cl C s H fp N) ifs tt) (he:∀C s H fp,PE (bK X scope cl C s H fp N) elt te)
  (hsw:swapsWith (.ListComp elt [⟨tg,iter,ifs,0⟩] scope pos) (some (.Name y py)) aa.line X.env=pure true:=by rfl)
  (hs:∀x,foldedSetIterable iter X.env x=pure x:=by intro _;rfl):PS X (.Assign [.Name y py] (.ListComp elt [⟨tg,iter,ifs,0⟩] scope pos) aa) (nM (jL caps wi g tt te) (iR i)):=by
 intro zc s σ H D I h;rw[exec_Assign_Name_used _ _ _ _ hsw];refine bb (kz (bb ?_));show bq _ X.A (do let _ <- comprehension (.ListComp elt [⟨tg,iter,ifs,0⟩] scope pos) scope X.env _ (newList []) false (eval iter X.env) (some (assign (.Name y py) X.env))) _ _ s;refine bb (gr (wpAny_comprehension_free (use:=some (assign (.Name y py) X.env)) (Q:=fun _ s'=>SP X zc D .next s') rfl hs c.clos c.kind c.names (thn (hi zc s σ H _ I h) fun v s1 h1=>thn h1 fun af s2 h2=>?_)) (fun _ s' hq=>bo (bo hq)) fun _ _ e=>e);obtain⟨it,fp,tn,J,H2,e,I2,T,ac,f2,q2⟩:=h2;subst e;refine yQ (RR:=fun acc C=>compPost (model X.prog X.w) X.A X.xe (some (assign (.Name y py) X.env)) (fun _ s'=>SP X zc D .next s') acc C) hc c I2 T ac f2 hg ht he (fun v H'=>D.nx (σ.set i (some v)) H') q2 fun Da C H' s' m hn f hb q=>?_;obtain⟨o,es,ep,ho,hd,r⟩:=hn;have I':Inv X zc σ H' s':=hb s'.heap (Heap.SameBut.refl _ _);have I'':Inv X (zc++[(C,o)]) σ H' s':=I'.pins_of fun p hp=>(mem_append.mp hp).elim (fun z=>I'.pin p (cb _ z)) fun z=>by
  cases mem_singleton.mp z;exact⟨ho,f.1,f.2.1,f.2.2.1,fun v e=>by rw[hd]at e;cases e⟩
 refine wpAny_assign_Name (oG I'' hN ae (.inl hl) (show RelV (V.ref Da) (cg Da)from rfl) (fun s2 J2=>?_) (.inr hl));refine⟨m,⟨o,es,ep,(J2.pin (C,o) (cb _ (cb _ (mem_singleton.mpr rfl)))).1,hd,r⟩,fun h' hs=>?_⟩;exact⟨_,H',J2.unpinned.turned (t':=s2.toks) (fun b ob nb e=>hs.extBut b ob nb e) f.1 f.2.1 f.2.2.2.1 f.2.2.2.2.1 f.2.2.2.2.2,q⟩
end
def cX(env:Env):List (Str×jk)->List (Str×Addr)->List (Str×Addr)
 | [],acc=>acc
 | (n,k)::r,acc=>cX env r (if k==.free then (n,(env.cells.lookup n).getD 0)::acc else acc)
theorem sM{env:Env}{x:Str}{c:Addr}:∀{names:List (Str×jk)}{acc:List (Str×Addr)},(x,c)∈cX env names acc->(x,c)∈acc\/((x,NameKind.free)∈names/\c=(env.cells.lookup x).getD 0)
 | [],_,h=>.inl h
 | (n,k)::r,acc,h=>by
  rcases sM (names:=r) h with h|⟨h,e⟩
  ·by_cases hk:k==.free
   ·rw[dw hk]at h;rcases mem_cons.mp h with h|h
    ·cases h;have:k=.free:=by simpa using hk
     subst this;exact .inr ⟨dm,rfl⟩
    ·exact .inl h
   ·rw[cf hk]at h;exact .inl h
  ·exact .inr ⟨ck _ h,e⟩
theorem x6{env:Env}{p:Str×Addr}:∀{names:List (Str×jk)}{acc:List (Str×Addr)},p∈acc->p∈cX env names acc
 | [],_,h=>h
 | (n,k)::r,acc,h=>x6 (names:=r) (by split<;>first|exact ck _ h|exact h)
theorem sC{env:Env}{x:Str}:∀{names:List (Str×jk)}{acc:List (Str×Addr)},(x,NameKind.free)∈names->∃c,(x,c)∈cX env names acc
 | (n,k)::r,acc,h=>by
  rcases mem_cons.mp h with h|h
  ·cases h;exact⟨_,x6 (names:=r) (by rw[dw dz];exact dm)⟩
  ·exact sC (names:=r) h
theorem rR{β:Type}{x:Str}{c:β}:∀{l:List (Str×β)},(x,c)∈l->∃c',l.lookup x=some c'
 | (n,v)::r,h=>by
  cases e:x==n with
  |true=>exact⟨v,by rw[ik,e]⟩
  |false=>
   rcases mem_cons.mp h with h|h
   ·cases h;simp at e
   ·obtain⟨c',q⟩:=rR (l:=r) h;exact⟨c',by rw[ik,e];exact q⟩
theorem Di{env:Env}{scope:Scope}(h:∀y∈scope.names,y.2=.free->(env.cells.lookup y.1).isSome=true):closureFor scope env=pure (cX env scope.names []):=by
 have go:∀(names:List (Str×jk)) (acc:List (Str×Addr)),(∀y∈names,y.2=.free->(env.cells.lookup y.1).isSome=true) ->
   (forIn names acc (fun(x:Str×jk) (cs:List (Str×Addr))=>(if x.2==.free then (do let c <- cellOf env x.1;pure (kj ((x.1,c)::cs)))else pure (kj cs):Sem (ForInStep (List (Str×Addr))))))=(pure (cX env names acc):Sem (List (Str×Addr))):=by
  intro names;induction names with
  |nil=>intro acc _;rfl
  |cons y r ih=>
   intro acc hy;obtain⟨n,k⟩:=y;rw[forIn_cons];by_cases hk:k==.free
   ·have hs:=hy (n,k) dm (by simpa using hk);obtain⟨c,hc⟩:=isSome_iff_exists.mp hs;have z:env.cells.lookup n=some c:=hc;simp only[hk,if_true,cellOf,z,pure_bind,cX,Option.getD_some];exact ih _ fun y p=>hy y (ck _ p)
   ·simp only[hk,Bool.false_eq_true,if_false,pure_bind,cX];exact ih _ fun y p=>hy y (ck _ p)
 have g:=go scope.names [] h;exact(bind_pure _).trans g
def c7(DN:List Str)(dsc sc:List (Str×jk))(N:List Str)(caps:List (Option Nat)):Bool:=
 (caps.length==N.length)&&sc.all (fun y=>y.2 != .cell&&(y.2 != .free||dsc.lookup y.1==some .cell)&&(y.2 != .local||sc.lookup y.1==some .local)) &&
 (caps.zip N).all fun p=>match p.1 with|none=>true|some i=>DN[i]?==some p.2&&dsc.lookup p.2==some .cell&&sc.lookup p.2==some .free
theorem qK{dsc:List (Str×jk)}{env:Env}{x:Str}{k:jk}:∀{names:List (Str×jk)},(names.map fun(n,k)=>if (k==.free&&env.scope.kind==.function&&env.kindOf n==some .cell)then (n,.cell)else (n,k)).lookup x=some k ->
  ∃k',names.lookup x=some k'/\(k'=k\/(k'=.free/\k=.cell))
 | [],h=>by simp at h
 | (n,k0)::r,h=>by
  cases e:x==n with
  |true=>
   refine⟨k0,by rw[ik,e],?_⟩;rw[im]at h;dsimp only at h;split at h
   ·rename_i hc;rw[ik,e]at h;have:k0=.free:=by simp at hc;exact hc.1.1
    cases h;exact .inr ⟨this,rfl⟩
   ·rw[ik,e]at h;cases h;exact .inl rfl
  |false=>
   rw[im]at h;dsimp only at h;have h':(r.map fun(n,k)=>if (k==NameKind.free&&env.scope.kind==.function&&env.kindOf n==some .cell)then (n,NameKind.cell)else (n,k)).lookup x=some k:=by
    split at h<;>(rw[ik,e]at h;exact h)
   obtain⟨k',q,z⟩:=qK (dsc:=dsc) h';exact⟨k',by rw[ik,e];exact q,z⟩
theorem x9{env:Env}{x:Str}(h1:env.scope.kind=.function)(h2:env.kindOf x=some .cell):∀{names:List (Str×jk)},names.lookup x=some .free ->
  (names.map fun(n,k)=>if (k==.free&&env.scope.kind==.function&&env.kindOf n==some .cell)then (n,.cell)else (n,k)).lookup x=some .cell
 | [],h=>by simp at h
 | (n,k0)::r,h=>by
  rw[im];cases e:x==n with
  |true=>
   rw[ik,e]at h;cases h;have en:x=n:=by simpa using e
   subst en;dsimp only;rw[dw (by rw[h1,h2];decide),ik,e]
  |false=>
   rw[ik,e]at h;have ih:=x9 h1 h2 (names:=r) h;dsimp only;split<;>(rw[ik,e];exact ih)
theorem dY{X:Cx}{dsc:Scope}{L:Nat}{scope:Scope}{N:List Str}{caps:List (Option Nat)}(hd:X.env.scope=dsc)(hc:X.env.cells=cellsFrom L dsc.names [])(af:dsc.kind=.function)(hk:scope.kind=.function)(h:c7 X.N dsc.names scope.names N caps=true):
  CompOk X scope (cX X.env scope.names []) N caps:=by
 subst hd;simp only[c7,gx,all_eq_true,beq_iff_eq]at h;obtain⟨⟨hl,hs⟩,hz⟩:=h;have p:∀y∈scope.names,y.2=.free->X.env.scope.names.lookup y.1=some .cell:=fun y hy e=>by
  have q:=(hs y hy).1.2;rw[e]at q;simpa using q
 have ac:∀y∈scope.names,y.2≠.cell:=fun y hy e=>by
  have q:=(hs y hy).1.1;rw[e]at q;simp at q
 have aa:∀x,X.env.scope.names.lookup x=some .cell->(X.env.cells.lookup x).isSome=true:=fun x e=>by
  rw[hc];exact kx _ _ _ (.inl e)
 have sub:∀x c,(cX X.env scope.names []).lookup x=some c->X.env.cells.lookup x=some c:=fun x c e=>by
  rcases sM (PySem.mem_of_lookup e)with q|⟨q,ec⟩
  ·cases q
  ·obtain⟨c',ae⟩:=isSome_iff_exists.mp (aa x (p _ q rfl));rw[ec,ae];rfl
 refine⟨Di fun y hy e=>aa y.1 (p y hy e),sub,hk,ac,fun y hy e=>?_,fun x hx=>?_,fun j i x h1 h2=>?_,hl⟩
 ·have q:=(hs y hy).2;rw[e]at q;simpa using q
 ·have fin:(x,NameKind.free)∈scope.names->∃c,(cX X.env scope.names []).lookup x=some c:=fun m=>by
   obtain⟨c,hm⟩:=sC (env:=X.env) (acc:=[]) m;exact rR hm
  rcases hx with hx|hx
  ·obtain⟨k',q,z⟩:=qK (dsc:=[]) hx;rcases z with rfl|⟨rfl,_⟩
   ·exact absurd rfl (ac _ (PySem.mem_of_lookup q))
   ·exact fin (PySem.mem_of_lookup q)
  ·obtain⟨k',q,z⟩:=qK (dsc:=[]) hx;rcases z with rfl|⟨_,z⟩
   ·exact fin (PySem.mem_of_lookup q)
   ·cases z
 ·have hm:(some i,x)∈caps.zip N:=by
   have:(caps.zip N)[j]?=some (some i,x):=by rw[List.getElem?_zip_eq_some];exact⟨h1,h2⟩
   exact cn this
  have q:=hz _ hm;simp only[gx,beq_iff_eq]at q;obtain⟨⟨q1,q2⟩,q3⟩:=q;obtain⟨c,ag⟩:=sC (env:=X.env) (acc:=[]) (PySem.mem_of_lookup q3);obtain⟨c',ae⟩:=rR ag;refine⟨q1,.inr (.inl q2),fun z=>?_,c',ae,.inl (x9 af q2 q3)⟩;have z':X.env.scope.names.lookup x=some .local:=z;rw[q2]at z';cases z'
end
section
section
variable {X:Cx}
def xM:R2:=fun x y H Q=>∃z n,x=.str z/\y=.int n/\z.length<=1000/\n<=1000/\-1000<=n/\Q (.str (PySem.Txt.mul z n)) H
theorem Ei{z:Str}{n:Int}(h1:z.length<=1000)(h2:n<=1000)(h3:-1000<=n):PySem.MulOk z n:=by
 refine⟨by simp;omega,fun a _ b=>?_,fun a _=>?_⟩
 ·have e:(1000:Int)<=(2 ^ 63-1)/n:=by
   rw[Int.le_ediv_iff_mul_le yw];have:=Int.mul_le_mul_of_nonneg_left h2 (show (0:Int)<=1000 by decide);omega
  omega
 ·have e:z.length*n.toNat<=1000*1000:=Nat.mul_le_mul h1 yw;unfold Builtin.Str.tooLong;simp only[decide_eq_false_iff_not,Nat.not_lt];exact gg e dz
theorem EJ:OpR X (ip .Mult) xM:=by
 intro zc s σ H x y v u Q I rx ry h;obtain⟨z,n,rfl,rfl,h1,h2,h3,q⟩:=h;obtain⟨t,rfl⟩:=rx;obtain⟨t',rfl⟩:=ry;exact PySem.SB.mul (Ei h1 h2 h3) fun _ k=>⟨.str _,H,I.tok _,⟨_,rfl⟩,q⟩
def xF:V->Option Int->Option Int->Hp->VK->Prop:=fun x lo hi H Q=>∃z,x=.str z/\z.length<=bt/\Q (.str (PySem.Txt.slice z lo hi)) H
theorem DJ:SlR X xF:=by
 intro zc s σ H x v vl vu lo hi sl Q I rx hs pl pu h;obtain⟨z,rfl,hz,q⟩:=h;obtain⟨t,rfl⟩:=rx;refine⟨"str",_,F.slot_str_getitem.lookup,typeIs_str _ _ _,?_⟩;have fin:∀(a b:Option (Int×Tok)),a.map (·.1)=lo->b.map (·.1)=hi->s.heap.IsSlice sl a b none->bq (model X.prog X.w) X.A (getItem (.str z t) (.ref sl)) (EP X zc σ Q) X.xe s:=fun a b e1 e2 p=>by
  subst e1 e2;exact wpAny_getItem_str_slice (l:=a) (u:=b) (st:=none) p rfl (post_val_or_str ⟨gg (PySem.Txt.slice_le z _ _) hz,fun _ k=>⟨.str _,H,I.tok _,⟨_,rfl⟩,q⟩⟩)
 cases pl with
 |none=>
  cases pu with
  |none=>exact fin none none rfl rfl hs
  |int j tj=>exact fin none (some (j,tj)) rfl rfl hs
 |int i ti=>
  cases pu with
  |none=>exact fin (some (i,ti)) none rfl rfl hs
  |int j tj=>exact fin (some (i,ti)) (some (j,tj)) rfl rfl hs
theorem tT:∀{zs:List Str}{us:List bc},Vals (zs.map V.str) us->StrsAre us zs
 | [],_,.nil=>.nil
 |z::zs,_,.cons r t=>by
  obtain⟨tk,rfl⟩:=r;exact .cons z tk (tT t)
def yP(K:bn):V->List V->Hp->VK->Prop:=fun x vs H Q=>∃z a zs,x=.str z/\vs=[.ref a]/\SqL K H a (zs.map V.str)/\z.length<=16/\zs.length<=1000/\(∀y∈zs,y.length<=1000)/\Q (.str (PySem.Txt.join z zs)) H
theorem tO{zs:List Str}(h:∀y∈zs,y.length<=1000):(zs.map (·.length)).sum<=zs.length*1000:=by
 induction zs with
 |nil=>simp
 |cons z zs ih=>
  have h1:=h z dm;have h2:=ih fun y hy=>h y (ck _ hy);simp only[im,List.sum_cons,fm,Nat.add_mul,Nat.one_mul];omega
theorem CF:MtR X "str.join" (yP X.K):=by
 intro zc s σ H x vs v us Q I rx rv h;obtain⟨z,a,zs,rfl,rfl,hq,hz,hn,hl,q⟩:=h;obtain⟨t,rfl⟩:=rx;obtain⟨u,rfl,r1⟩:=rv.one;cases r1;obtain⟨p,r,pl,aa⟩:=I.list hq;have hs:=tO hl;refine join_listW pl.isList (by simpa using tT r) hz yw fun _ k=>⟨.str _,H,I.tok _,⟨_,rfl⟩,q⟩
end
section
variable {K:bn}{o:List Addr}{σ:St}{H0:Hp}{t:TE}{ta:TA}{ds:List be}
def dG(lo:Int)(n:Nat):List be:=(fy n).map fun k:Nat=>.int (lo+k)
theorem gC{lo:Int}{n:Nat}:(dG lo n).length=n:=by simp[dG]
theorem jR{lo:Int}{n i:Nat}{d:be}(h:(dG lo n)[i]?=some d):i<n/\d=.int (lo+i):=by
 have hi:i<n:=by
  have:=List.getElem?_eq_some_iff.mp h;obtain⟨hl,_⟩:=this
  rwa [gC]at hl
 refine⟨hi,?_⟩;simp only[dG,gf,List.getElem?_range hi,map_some,Option.some.injEq]at h;exact h.symm
end
theorem A1{y:Str}{zs:List Str}(hy:y.length<=16)(hz:∀z∈zs,z.length<=1000):(PySem.Txt.join y zs).length<=zs.length*1016:=by
 show (Builtin.Str.glued y zs).length<=_;rw[StrLaws.glued_eq_join];cases zs with
 |nil=>exact zero_le _
 |cons a r=>
  rw[len_join_cons];have h1:=tO hz;have h2:r.length*y.length<=r.length*16:=Nat.mul_le_mul_left _ hy;simp only[fm]at h1 ⊢;omega
def aL{α:Type}(xs:List α)(lo hi:Option Int):List α:=(xs.drop (HT.sIx xs.length 0 lo)).take (HT.sIx xs.length xs.length hi-HT.sIx xs.length 0 lo)
theorem HasL.drop{H:Hp}:∀{ds:List be}{vs:List V} (n:Nat),HasL H ds vs->HasL H (ds.drop n) (vs.drop n)
 |ds,vs,0,h=>h
 | [],vs,n+1,h=>by rw[zx.mp h];exact zx.mpr rfl
 |d::ds,vs,n+1,h=>by
  obtain⟨v,r,rfl,_,l⟩:=zo.mp h;exact HasL.drop n l
theorem HasL.take{H:Hp}:∀{ds:List be}{vs:List V} (n:Nat),HasL H ds vs->HasL H (ds.take n) (vs.take n)
 |ds,vs,0,h=>zx.mpr rfl
 | [],vs,n+1,h=>by rw[zx.mp h];exact zx.mpr rfl
 |d::ds,vs,n+1,h=>by
  obtain⟨v,r,rfl,q,l⟩:=zo.mp h;exact zo.mpr ⟨v,_,rfl,q,HasL.take n l⟩
theorem HasL.cut{H:Hp}{ds:List be}{vs:List V}(lo hi:Option Int)(h:HasL H ds vs):HasL H (aL ds lo hi) (cC vs lo hi):=by
 unfold aL cC;rw[h.length];exact(h.drop _).take _
theorem HasL.rev{H:Hp}:∀{ds:List be}{vs:List V},HasL H ds vs->HasL H ds.reverse vs.reverse
 | [],vs,h=>by rw[zx.mp h];exact zx.mpr rfl
 |d::ds,vs,h=>by
  obtain⟨v,r,rfl,q,l⟩:=zo.mp h;rw[ky,ky];exact(HasL.rev l).append (zo.mpr ⟨v,[],rfl,q,zx.mpr rfl⟩)
end
section
theorem x8:∀{l:List Addr}{H:Hp}{b:Addr}{u:HO},vw l H b=some u↔b∉l/\H b=some u
 | [],H,b,u=>by simp[vw]
 |a::r,H,b,u=>by
  show hid a (vw r H) b=some u↔_;by_cases h:b=a
  ·subst h;simp[jC]
  ·rw[jB h,x8];simp[h]
def vx(h o:List Addr)(H:Hp):Hp:=vw (h++o) H
theorem zM{h o:List Addr}{H:Hp}{b:Addr}{u:HO}:vx h o H b=some u↔b∉h/\b∉o/\H b=some u:=by
 unfold vx;rw[x8];simp[and_assoc]
theorem zH{h o:List Addr}{H:Hp}:Same (vx h o H) H:=fun b u e=>(zM.mp e).2.2
theorem jA{h o:List Addr}{H H':Hp}(s:Same H H'):Same (vx h o H) (vx h o H'):=fun b u e=>by
 obtain⟨h1,h2,h3⟩:=zM.mp e;exact zM.mpr ⟨h1,h2,s b u h3⟩
structure Ex(o:List Addr)(H:Hp)(o':List Addr)(H':Hp):Prop where
 pre:∃r,o'=o++r
 kp:∀b u,b∉o->H b=some u->b∉o'/\H' b=some u
section
variable {h o o' o'':List Addr}{H H' H'':Hp}{S:List (List be)}{p a:Addr}
theorem Ex.refl:Ex o H o H:=⟨⟨[],yv⟩,fun _ _ a b=>⟨a,b⟩⟩
theorem Ex.trans(a:Ex o H o' H')(b:Ex o' H' o'' H''):Ex o H o'' H'':=by
 obtain⟨⟨r,e⟩,ka⟩:=a;obtain⟨⟨t,e'⟩,kb⟩:=b;refine⟨⟨r++t,by rw[e',e,append_assoc]⟩,fun b u h1 h2=>?_⟩;obtain⟨h3,h4⟩:=ka b u h1 h2;exact kb b u h3 h4
theorem Ex.vx(e:Ex o H o' H'):Same (L2.vx h o H) (L2.vx h o' H'):=fun b u q=>by
 obtain⟨h1,h2,h3⟩:=zM.mp q;obtain⟨h4,h5⟩:=e.kp b u h2 h3;exact zM.mpr ⟨h1,h4,h5⟩
structure ExH(h o:List Addr)(H:Hp)(o':List Addr)(H':Hp):Prop where
 pre:∃r,o'=o++r
 kp:∀b u,b∉h->b∉o->H b=some u->b∉o'/\H' b=some u
theorem Ex.hid(e:Ex o H o' H'):ExH h o H o' H':=⟨e.pre,fun b u _=>e.kp b u⟩
theorem ExH.refl:ExH h o H o H:=Ex.refl.hid
theorem ExH.vx(e:ExH h o H o' H'):Same (L2.vx h o H) (L2.vx h o' H'):=fun b u q=>by
 obtain⟨h1,h2,h3⟩:=zM.mp q;obtain⟨h4,h5⟩:=e.kp b u h1 h2 h3;exact zM.mpr ⟨h1,h4,h5⟩
theorem Ex.of_same(s:Same H H'):Ex o H o H':=⟨⟨[],yv⟩,fun b u h e=>⟨h,s b u e⟩⟩
theorem eE{α:Type}{l t:List α}{k:Nat}{a:α}(q:l[k]?=some a):(l++t)[k]?=some a:=by
 obtain⟨hk,_⟩:=List.getElem?_eq_some_iff.mp q;rw[cr hk];exact q
def exO(a C:Addr)(d:Option Addr):HO:=.ext fun h=>∃o,h.get? a=some o/\o.cls=.ref C/\o.dict=d/\∃vs,o.data=.fields vs/\vs[2]?=some .none
def xw(dx:Addr)(fs:List (Str×V)):HO:=.ext fun h=>∃mA,h.Ns1 dx mA/\(∀f,RelO (fs.lookup f) (mA f))/\PySem.Within mA (fs.map (·.1))
def HasE(H:Hp)(C:Addr)(fs:List (Str×be))(v:V):Prop:=∃a d,v=.ref a/\H a=some (exO a C d)/\∀f dt,fs.lookup f=some dt->∃dx vs u,d=some dx/\H dx=some (xw dx vs)/\vs.lookup f=some u/\Has H dt u
theorem HasE.mono{H H':Hp}{C:Addr}{fs:List (Str×be)}{v:V}(s:Same H H')(q:HasE H C fs v):HasE H' C fs v:=by
 obtain⟨a,d,e,ha,hf⟩:=q;refine⟨a,d,e,s _ _ ha,fun f dt l=>?_⟩;obtain⟨dx,vs,u,e1,e2,e3,e4⟩:=hf f dt l;exact⟨dx,vs,u,e1,s _ _ e2,e3,Has.mono s _ _ e4⟩
inductive XV where
 |d (d:be)
 |l (k:Nat)
 |o (v:V)
 |x (C:Addr) (fs:List (Str×be))
 |p (k:Nat) (d:be)
def HasLP(h o:List Addr)(H:Hp)(k:Nat)(d:be)(v:V):Prop:=∃t a u,v=.ref t/\o[k]?=some a/\vx h o H t=some (.tup [.ref a,u])/\Has (vx h o H) d u
theorem HasLP.to{h':List Addr}{k:Nat}{d:be}{v:V}(s:Same (vx h o H) (vx h' o' H'))(e:∀a,o[k]?=some a->o'[k]?=some a)(q:HasLP h o H k d v):HasLP h' o' H' k d v:=by
 obtain⟨t,a,u,e1,e2,e3,e4⟩:=q;exact⟨t,a,u,e1,e a e2,s _ _ e3,Has.mono s _ _ e4⟩
def HasX(h o:List Addr)(H:Hp):XV->V->Prop
 | .d d,v=>Has (vx h o H) d v
 | .l k,v=>∃a,o[k]?=some a/\v=.ref a
 | .o w,v=>v=w
 | .x C fs,v=>HasE (vx h o H) C fs v
 | .p k d,v=>HasLP h o H k d v
theorem HasX.mono(e:Ex o H o' H'):∀{x:XV}{v:V},HasX h o H x v->HasX h o' H' x v
 | .d d,v,q=>Has.mono e.vx d v q
 | .l k,v,⟨a,q,r⟩=>by
  obtain⟨t,rfl⟩:=e.pre;exact⟨a,eE q,r⟩
 | .o w,v,q=>q
 | .x C fs,v,q=>HasE.mono e.vx q
 | .p k d,v,q=>by
  have ev:=e.vx (h:=h);obtain⟨t,rfl⟩:=e.pre;exact HasLP.to ev (fun a z=>eE z) q
def HasXs(h o:List Addr)(H:Hp):List XV->List V->Prop
 | [],vs=>vs=[]
 |x::xs,vs=>∃v r,vs=v::r/\HasX h o H x v/\HasXs h o H xs r
abbrev Sto:=List (List be)
inductive MO where
 |l (vs:List V)
 |k (m:List (Key×V))
 |t (m:List (List Key×V))
 |x (a:Addr) (ob:Obj)
def MO.ho:MO->HO
 | .l vs=>.lst vs
 | .k m=>.dK m
 | .t m=>.dT m
 | .x a ob=>obO a ob
structure RepS(h o:List Addr)(H:Hp)(S:Sto):Prop where
 len:S.length=o.length
 nd:o.Nodup
 dis:∀a∈o,a∉h
 hal:∀b∈h,∃u:MO,H b=some u.ho
 cont:∀(k:Nat) (a:Addr) (ds:List be),o[k]?=some a->S[k]?=some ds->∃vs,H a=some (.lst vs)/\HasL (vx h o H) ds vs
theorem EE{α β:Type}{l:List α}{t:List β}{k:Nat}{a:α}(hl:t.length=l.length)(q:l[k]?=some a):∃b,t[k]?=some b:=by
 obtain⟨hk,_⟩:=List.getElem?_eq_some_iff.mp q;exact⟨t[k]'yw,eg _⟩
theorem RepS.oal(r:RepS h o H S):∀a∈o,∃u,H a=some (.lst u):=fun a ha=>by
 obtain⟨k,hk⟩:=mem_iff_getElem?.mp ha;obtain⟨ds,e⟩:=EE r.len hk;obtain⟨vs,e',_⟩:=r.cont k a ds hk e;exact⟨_,e'⟩
theorem RepS.oam(r:RepS h o H S):∀a∈o,∃u:MO,H a=some u.ho:=fun a ha=>let ⟨u,e⟩:=r.oal a ha;⟨.l u,e⟩
theorem RepS.fresh(r:RepS h o H S)(hp:H p=none):p∉h/\p∉o:=by
 constructor
 ·intro m;obtain⟨u,e⟩:=r.hal p m;rw[hp]at e;cases e
 ·intro m;obtain⟨u,e⟩:=r.oal p m;rw[hp]at e;cases e
theorem RepS.same(r:RepS h o H S)(s:Same H H'):RepS h o H' S where
 len:=r.len
 nd:=r.nd
 dis:=r.dis
 hal:=fun b m=>by obtain⟨u,e⟩:=r.hal b m;exact⟨u,s b _ e⟩
 cont:=fun k a ds e1 e2=>by
  obtain⟨vs,e3,l⟩:=r.cont k a ds e1 e2;exact⟨vs,s _ _ e3,HasL.mono (jA s) _ _ l⟩
theorem RepS.laid{u:HO}(r:RepS h o H S)(hp:H p=none):vx h o (upd H p u) p=some u:=by
 obtain⟨h1,h2⟩:=r.fresh hp;exact zM.mpr ⟨h1,h2,zJ⟩
theorem Ex.new{u:HO}(r:RepS h o H S)(hp:H p=none):Ex o H (o++[p]) (upd H p u):=by
 refine⟨⟨[p],rfl⟩,fun b w hb e=>?_⟩;have ne:b≠p:=zr e hp;exact⟨by simp[hb,ne],by rw[zu ne];exact e⟩
theorem oF{α:Type}{l:List α}{a:α}(h:l.Nodup)(n:a∉l):(l++[a]).Nodup:=by
 rw[nodup_append];refine⟨h,yv,fun x hx y hy e=>?_⟩;rw[mem_singleton]at hy;subst hy;subst e;exact n hx
theorem RepS.new{ds:List be}{vs:List V}(r:RepS h o H S)(hp:H p=none)(l:HasL (vx h o H) ds vs):RepS h (o++[p]) (upd H p (.lst vs)) (S++[ds]):=by
 obtain⟨h1,h2⟩:=r.fresh hp;have ex:Ex o H (o++[p]) (upd H p (.lst vs)):=Ex.new r hp;refine⟨by simp[r.len],oF r.nd h2,fun a ha=>?_,fun b hb=>?_,fun k a es e1 e2=>?_⟩
 ·rcases mem_append.mp ha with ha|ha
  ·exact r.dis a ha
  ·rw[mem_singleton.mp ha];exact h1
 ·obtain⟨u,e⟩:=r.hal b hb;exact⟨u,by rw[zu (zr e hp)];exact e⟩
 ·by_cases hk:k<o.length
  ·rw[cr hk]at e1;rw[cr (by rw[r.len];exact hk)]at e2;obtain⟨ws,e3,l3⟩:=r.cont k a es e1 e2;refine⟨ws,?_,l3.mono ex.vx⟩;rw[zu (zr e3 hp)];exact e3
  ·have z:k=o.length:=by
    obtain⟨q,_⟩:=List.getElem?_eq_some_iff.mp e1;rw[bx,fj]at q;omega
   subst z;rw[bp]at e1;rw[<- r.len,bp]at e2;cases e1;cases e2;exact⟨vs,zJ,l.mono ex.vx⟩
theorem Ex.upd{k:Nat}{u:HO}(e:o[k]?=some a):Ex o H o (L2.upd H a u):=
 ⟨⟨[],yv⟩,fun b w hb eb=>⟨hb,by rw[zu (fun z=>hb (by rw[z];exact cn e))];exact eb⟩⟩
theorem mG{l:List Addr}(h:l.Nodup){i j:Nat}{a:Addr}(e1:l[i]?=some a)(e2:l[j]?=some a):i=j:=by
 obtain⟨hi,e1⟩:=List.getElem?_eq_some_iff.mp e1;obtain⟨hj,e2⟩:=List.getElem?_eq_some_iff.mp e2;exact(List.getElem_inj h).mp (e1.trans e2.symm)
theorem RepS.upd{k:Nat}{ds:List be}{vs:List V}(r:RepS h o H S)(e:o[k]?=some a)(l:HasL (vx h o H) ds vs):RepS h o (L2.upd H a (.lst vs)) (S.set k ds):=by
 have ex:Ex o H o (L2.upd H a (.lst vs)):=Ex.upd e;refine⟨by simp[r.len],r.nd,r.dis,fun b hb=>?_,fun j b es e1 e2=>?_⟩
 ·obtain⟨u,eb⟩:=r.hal b hb;have ne:b≠a:=fun z=>r.dis a (cn e) (z▸hb);exact⟨u,by rw[zu ne];exact eb⟩
 ·by_cases hj:j=k
  ·subst hj;rw[e1]at e;cases e;obtain⟨hk,_⟩:=List.getElem?_eq_some_iff.mp e1;rw[kq (by rw[r.len];exact hk)]at e2;cases e2;exact⟨vs,zJ,l.mono ex.vx⟩
  ·rw[lh (dy hj)]at e2;obtain⟨ws,e3,l3⟩:=r.cont j b es e1 e2;have ne:b≠a:=fun z=>hj (mG r.nd e1 (z▸e));exact⟨ws,by rw[zu ne];exact e3,l3.mono ex.vx⟩
abbrev XE:=List (Option XV)
structure RepE(h o:List Addr)(H:Hp)(δ:XE)(σ:St):Prop where
 len:δ.length=σ.length
 get:∀(i:Nat) x,δ[i]?=some (some x)->∃v,σ[i]?=some (some v)/\HasX h o H x v
variable {δ:XE}{σ:St}
theorem RepE.mono(r:RepE h o H δ σ)(e:Ex o H o' H'):RepE h o' H' δ σ:=⟨r.len,fun i x q=>by
 obtain⟨v,e1,e2⟩:=r.get i x q;exact⟨v,e1,e2.mono e⟩⟩
theorem RepE.set{i:Nat}{x:XV}{v:V}(r:RepE h o H δ σ)(q:HasX h o H x v):RepE h o H (δ.set i (some x)) (σ.set i (some v)):=by
 refine⟨by simp[r.len],fun j y e=>?_⟩;rw[List.getElem?_set]at e ⊢;by_cases hij:i=j
 ·rw[dw hij]at e ⊢;by_cases hl:i<δ.length
  ·rw[dw hl]at e;rw[dw (by rw[<- r.len];exact hl)];cases e;exact⟨v,rfl,q⟩
  ·rw[cf hl]at e;cases e
 ·rw[cf hij]at e ⊢;exact r.get j y e
def cY(caps:List (Option Nat))(δ:XE):XE:=caps.map fun o=>o.bind fun i=>(δ[i]?).join
theorem RepE.tau{caps:List (Option Nat)}(r:RepE h o H δ σ):RepE h o H (cY caps δ) (L2.tau caps σ):=by
 refine⟨by simp[cY,L2.tau],fun i x e=>?_⟩;unfold cY at e;unfold L2.tau;rw[gf]at e ⊢;cases hc:caps[i]? with
 |none=>rw[hc]at e;cases e
 |some c=>
  rw[hc]at e;cases c with
  |none=>cases e
  |some j=>
   have e':(δ[j]?).join=some x:=by simpa using e
   have e2:δ[j]?=some (some x):=by
    cases hd:δ[j]? with
    |none=>rw[hd]at e';cases e'
    |some y=>rw[hd]at e';exact congrArg some (by simpa using e')
   obtain⟨v,e3,e4⟩:=r.get j x e2;exact⟨v,by simp[e3],e4⟩
end
abbrev RX:=XV->Sto->Prop
abbrev DE:=XE->Sto->RX->Prop
abbrev DT:=XE->Sto->(Bool->Sto->Prop)->Prop
abbrev DA:=XE->Sto->(List XV->Sto->Prop)->Prop
abbrev D2:=XV->XV->Sto->RX->Prop
def Cn(h o:List Addr)(H:Hp)(R:RX)(Q:VK):Prop:=∀o' H' S' x v,Ex o H o' H'->RepS h o' H' S'->HasX h o' H' x v->R x S'->Q v H'
theorem Cn.pre{h o o':List Addr}{H H':Hp}{R:RX}{Q:VK}(c:Cn h o H R Q)(e:Ex o H o' H'):Cn h o' H' R Q:=fun o2 H2 S2 x v e2=>c o2 H2 S2 x v (e.trans e2)
def RE(t:TE)(dt:DE):Prop:=∀(h o:List Addr) (H:Hp) (δ:XE) (σ:St) (S:Sto) (R:RX) (Q:VK),RepE h o H δ σ->RepS h o H S->dt δ S R->Cn h o H R Q->t σ H Q
def RT(t:TT)(dt:DT):Prop:=∀(h o:List Addr) (H:Hp) (δ:XE) (σ:St) (S:Sto) (R:Bool->Sto->Prop) (Q:Bool->Hp->Prop),RepE h o H δ σ->RepS h o H S->dt δ S R ->
 (∀o' H' S' b,Ex o H o' H'->RepS h o' H' S'->R b S'->Q b H')->t σ H Q
def RA(t:TA)(dt:DA):Prop:=∀(h o:List Addr) (H:Hp) (δ:XE) (σ:St) (S:Sto) (R:List XV->Sto->Prop) (Q:List V->Hp->Prop),RepE h o H δ σ->RepS h o H S->dt δ S R ->
 (∀o' H' S' xs vs,Ex o H o' H'->RepS h o' H' S'->HasXs h o' H' xs vs->R xs S'->Q vs H')->t σ H Q
def RO(r:R2)(rd:D2):Prop:=∀(h o:List Addr) (H:Hp) (S:Sto) (x y:XV) (v u:V) (R:RX) (Q:VK),RepS h o H S->HasX h o H x v->HasX h o H y u->rd x y S R->Cn h o H R Q->r v u H Q
def RU(r:V->Hp->VK->Prop)(rd:XV->Sto->RX->Prop):Prop:=∀(h o:List Addr) (H:Hp) (S:Sto) (x:XV) (v:V) (R:RX) (Q:VK),RepS h o H S->HasX h o H x v->rd x S R->Cn h o H R Q->r v H Q
def RC(r:List V->Hp->VK->Prop)(rd:List XV->Sto->RX->Prop):Prop:=∀(h o:List Addr) (H:Hp) (S:Sto) (xs:List XV) (vs:List V) (R:RX) (Q:VK),RepS h o H S->HasXs h o H xs vs->rd xs S R->Cn h o H R Q->r vs H Q
def asI:XV->(Int->Prop)->Prop
 | .d (.int i),k=>k i
 |_,_=>False
def asB:XV->(Bool->Prop)->Prop
 | .d (.bool i),k=>k i
 |_,_=>False
def asS:XV->(Str->Prop)->Prop
 | .d (.str i),k=>k i
 |_,_=>False
def asT:XV->(List be->Prop)->Prop
 | .d (.tuple i),k=>k i
 |_,_=>False
def cA(S:Sto):XV->Option (List be)
 | .d (.list ds)=>some ds
 | .l k=>S[k]?
 |_=>none
def asL(S:Sto)(x:XV)(k:List be->Prop):Prop:=∃ds,cA S x=some ds/\k ds
def bZ(S:Sto):XV->Option be
 | .d d=>some d
 | .l k=>(S[k]?).map .list
 | .o _=>none
 | .x _ _=>none
 | .p k d=>(S[k]?).map fun l=>.tuple [.list l,d]
def asD(x:XV)(k:be->Prop):Prop:=match x with
 | .d d=>k d
 |_=>False
theorem aW{x:XV}{k:Int->Prop}(h:asI x k):∃i,x=.d (.int i)/\k i:=by
 unfold asI at h;split at h
 ·exact⟨_,rfl,h⟩
 ·exact h.elim
theorem fW{x:XV}{k:Bool->Prop}(h:asB x k):∃i,x=.d (.bool i)/\k i:=by
 unfold asB at h;split at h
 ·exact⟨_,rfl,h⟩
 ·exact h.elim
theorem uV{x:XV}{k:Str->Prop}(h:asS x k):∃i,x=.d (.str i)/\k i:=by
 unfold asS at h;split at h
 ·exact⟨_,rfl,h⟩
 ·exact h.elim
theorem fX{x:XV}{k:List be->Prop}(h:asT x k):∃i,x=.d (.tuple i)/\k i:=by
 unfold asT at h;split at h
 ·exact⟨_,rfl,h⟩
 ·exact h.elim
theorem qX{x:XV}{k:be->Prop}(h:asD x k):∃i,x=.d i/\k i:=by
 unfold asD at h;split at h
 ·exact⟨_,rfl,h⟩
 ·exact h.elim
section
variable {h o:List Addr}{H:Hp}{S:Sto}{x:XV}{v:V}{i:Int}{b:Bool}{z:Str}{ds:List be}{d:be}
theorem aS(q:HasX h o H (.d (.int i)) v):v=.int i:=(eV (H:=vx h o H)).mp q
theorem dJ(q:HasX h o H (.d (.bool b)) v):v=.bl b:=(gH (H:=vx h o H)).mp q
theorem eR(q:HasX h o H (.d (.str z)) v):v=.str z:=(hV (H:=vx h o H)).mp q
theorem eP(q:HasX h o H (.d (.tuple ds)) v):∃a vs,v=.ref a/\H a=some (.tup vs)/\HasL (vx h o H) ds vs:=by
 obtain⟨a,vs,e,q,l⟩:=zX.mp (show Has _ _ _ from q);exact⟨a,vs,e,zH _ _ q,l⟩
theorem bE(r:RepS h o H S)(e:cA S x=some ds)(q:HasX h o H x v):∃a vs,v=.ref a/\H a=some (.lst vs)/\HasL (vx h o H) ds vs:=by
 unfold cA at e;split at e
 ·cases e;obtain⟨a,vs,e,q,l⟩:=zZ.mp (show Has _ _ _ from q);exact⟨a,vs,e,zH _ _ q,l⟩
 ·obtain⟨a,e1,rfl⟩:=q;obtain⟨vs,e2,l⟩:=r.cont _ a ds e1 e;exact⟨a,vs,rfl,e2,l⟩
 ·cases e
theorem fU(r:RepS h o H S)(e:bZ S x=some d)(q:HasX h o H x v):Has H d v:=by
 unfold bZ at e;split at e
 ·cases e;exact Has.mono zH _ _ q
 ·rename_i k;obtain⟨a,e1,rfl⟩:=q;cases hs:S[k]? with
  |none=>rw[hs]at e;cases e
  |some es=>
   rw[hs]at e;cases e;obtain⟨vs,e2,l⟩:=r.cont k a es e1 hs;exact zZ.mpr ⟨a,vs,rfl,e2,HasL.mono zH _ _ l⟩
 ·cases e
 ·cases e
 ·rename_i k d';obtain⟨t,a,u,rfl,e1,e3,e4⟩:=q;cases hs:S[k]? with
  |none=>rw[hs]at e;cases e
  |some es=>
   rw[hs]at e;cases e;obtain⟨vs,e2,l⟩:=r.cont k a es e1 hs;exact zX.mpr ⟨t,_,rfl,zH _ _ e3,zo.mpr ⟨_,_,rfl,zZ.mpr ⟨a,vs,rfl,e2,HasL.mono zH _ _ l⟩,zo.mpr ⟨u,_,rfl,Has.mono zH _ _ e4,zx.mpr rfl⟩⟩⟩
theorem xI(i:Int):HasX h o H (.d (.int i)) (.int i):=(eV (H:=vx h o H)).mpr rfl
theorem xB(i:Bool):HasX h o H (.d (.bool i)) (.bl i):=(gH (H:=vx h o H)).mpr rfl
theorem xS(i:Str):HasX h o H (.d (.str i)) (.str i):=(hV (H:=vx h o H)).mpr rfl
theorem xN:HasX h o H (.d .none) .non:=(i4 (H:=vx h o H)).mpr rfl
theorem nJ{vs:List V}{R:RX}{Q:VK}(r:RepS h o H S)(l:HasL (vx h o H) ds vs)(c:Cn h o H R Q)(q:R (.d (.tuple ds)) S):∀p,H p=none->Q (.ref p) (upd H p (.tup vs)):=fun p hp=>
 c o _ S (.d (.tuple ds)) _ (Ex.of_same (Same.laid hp)) (r.same (Same.laid hp)) (zX.mpr ⟨p,vs,rfl,r.laid hp,l.mono (jA (Same.laid hp))⟩) q
theorem iC{vs:List V}{R:RX}{Q:VK}(r:RepS h o H S)(l:HasL (vx h o H) ds vs)(c:Cn h o H R Q)(q:R (.d (.list ds)) S):∀p,H p=none->Q (.ref p) (upd H p (.lst vs)):=fun p hp=>
 c o _ S (.d (.list ds)) _ (Ex.of_same (Same.laid hp)) (r.same (Same.laid hp)) (zZ.mpr ⟨p,vs,rfl,r.laid hp,l.mono (jA (Same.laid hp))⟩) q
theorem xE{vs:List V}{R:RX}{Q:VK}(r:RepS h o H S)(l:HasL (vx h o H) ds vs)(c:Cn h o H R Q)(q:R (.l S.length) (S++[ds])):∀p,H p=none->Q (.ref p) (upd H p (.lst vs)):=fun p hp=>
 c (o++[p]) _ (S++[ds]) (.l S.length) _ (Ex.new r hp) (r.new hp l) ⟨p,by rw[r.len,bp],rfl⟩ q
theorem kT:∀{xs:List XV}{vs:List V}{ds:List be},HasXs h o H xs vs->xs=ds.map XV.d->HasL (vx h o H) ds vs
 | [],vs,[],q,_=>zx.mpr q
 |x::xs,vs,d::ds,⟨v,r,e,q,l⟩,e2=>by
  rw[im]at e2;cases e2;exact zo.mpr ⟨v,r,e,q,kT l rfl⟩
 |x::xs,vs,[],_,e2=>by cases e2
 | [],vs,d::ds,_,e2=>by cases e2
end
def datas:List XV->Option (List be)
 | []=>some []
 | .d d::r=>(datas r).map (d :: ·)
 |_::_=>none
theorem cQ:∀{xs:List XV}{ds:List be},datas xs=some ds->xs=ds.map XV.d
 | [],ds,e=>by cases e;rfl
 | .d d::r,ds,e=>by
  unfold datas at e;cases hr:datas r with
  |none=>rw[hr]at e;cases e
  |some es=>
   rw[hr]at e;cases e;rw[cQ hr];rfl
 | .l _::_,_,e=>by cases e
 | .o _::_,_,e=>by cases e
 | .x _ _::_,_,e=>by cases e
 | .p _ _::_,_,e=>by cases e
def zk(i:Nat):DE:=fun δ S R=>∃x,δ[i]?=some (some x)/\R x S
def dC(d:be):DE:=fun _ S R=>R (.d d) S
def dO(v:V):DE:=fun _ S R=>R (.o v) S
def dOp(rd:D2)(a b:DE):DE:=fun δ S R=>a δ S fun x S1=>b δ S1 fun y S2=>rd x y S2 R
def dUn(rd:XV->Sto->RX->Prop)(a:DE):DE:=fun δ S R=>a δ S fun x S1=>rd x S1 R
def zt:DA:=fun _ S R=>R [] S
def zb(a:DE)(b:DA):DA:=fun δ S R=>a δ S fun x S1=>b δ S1 fun xs S2=>R (x::xs) S2
def dCB(rd:List XV->Sto->RX->Prop)(a:DA):DE:=fun δ S R=>a δ S fun xs S1=>rd xs S1 R
def bV(a:DA):DE:=fun δ S R=>a δ S fun xs S1=>∃ds,datas xs=some ds/\ds.length<=1000/\R (.d (.tuple ds)) S1
def aI(a:DA):DE:=fun δ S R=>a δ S fun xs S1=>∃ds,datas xs=some ds/\ds.length<=1000/\R (.d (.list ds)) S1
def cN(a:DA):DE:=fun δ S R=>a δ S fun xs S1=>∃ds,datas xs=some ds/\ds.length<=1000/\R (.l S1.length) (S1++[ds])
section
variable {t ta tb tc:TE}{da db dc:DE}{tl:TA}{dl:DA}{tt tu:TT}{dt du:DT}
theorem zm{i:Nat}:RE (cB i) (zk i):=fun h o H δ σ S R Q he hs ⟨x,e,q⟩ c=>by
 obtain⟨v,e1,e2⟩:=he.get i x e;exact⟨v,e1,c o H S x v Ex.refl hs e2 q⟩
theorem aV{i:Int}:RE (tC (.int i)) (dC (.int i)):=fun h o H δ σ S R Q he hs q c=>c o H S _ _ Ex.refl hs (xI i) q
theorem eK{i:Bool}:RE (tC (.bl i)) (dC (.bool i)):=fun h o H δ σ S R Q he hs q c=>c o H S _ _ Ex.refl hs (xB i) q
theorem lF{i:Str}:RE (tC (.str i)) (dC (.str i)):=fun h o H δ σ S R Q he hs q c=>c o H S _ _ Ex.refl hs (xS i) q
theorem uN{v:V}:RE (tC v) (dO v):=fun h o H δ σ S R Q he hs q c=>c o H S (.o v) v Ex.refl hs rfl q
theorem aE{r:R2}{rd:D2}(hr:RO r rd)(ha:RE ta da)(hb:RE tb db):RE (tOp r ta tb) (dOp rd da db):=fun h o H δ σ S R Q he hs q c=>
 ha h o H δ σ S _ _ he hs q fun o1 H1 S1 x v e1 s1 x1 d1=>hb h o1 H1 δ σ S1 _ _ (he.mono e1) s1 d1 fun o2 H2 S2 y u e2 s2 y2 d2=>
  hr h o2 H2 S2 x y v u R Q s2 (x1.mono e2) y2 d2 (c.pre (e1.trans e2))
theorem Ao{r:V->Hp->VK->Prop}{rd:XV->Sto->RX->Prop}(hr:RU r rd)(ha:RE ta da):RE (tUn r ta) (dUn rd da):=fun h o H δ σ S R Q he hs q c=>
 ha h o H δ σ S _ _ he hs q fun o1 H1 S1 x v e1 s1 x1 d1=>hr h o1 H1 S1 x v R Q s1 x1 d1 (c.pre e1)
theorem zw:RA iF zt:=fun h o H δ σ S R Q he hs q c=>c o H S [] [] Ex.refl hs rfl q
theorem zh(ha:RE ta da)(hb:RA tl dl):RA (iS ta tl) (zb da dl):=fun h o H δ σ S R Q he hs q c=>
 ha h o H δ σ S _ _ he hs q fun o1 H1 S1 x v e1 s1 x1 d1=>hb h o1 H1 δ σ S1 _ _ (he.mono e1) s1 d1 fun o2 H2 S2 xs vs e2 s2 x2 d2=>
  c o2 H2 S2 (x::xs) (v::vs) (e1.trans e2) s2 ⟨v,vs,rfl,x1.mono e2,x2⟩ d2
theorem aY{r:List V->Hp->VK->Prop}{rd:List XV->Sto->RX->Prop}(hr:RC r rd)(ha:RA tl dl):RE (tCB r tl) (dCB rd dl):=fun h o H δ σ S R Q he hs q c=>
 ha h o H δ σ S _ _ he hs q fun o1 H1 S1 xs vs e1 s1 x1 d1=>hr h o1 H1 S1 xs vs R Q s1 x1 d1 (c.pre e1)
theorem rC(ha:RA tl dl):RE (tE tl) (bV dl):=fun h o H δ σ S R Q he hs q c=>
 ha h o H δ σ S _ _ he hs q fun o1 H1 S1 xs vs e1 s1 x1 ⟨ds,e,hl,d1⟩=>by
  have l:=kT x1 (cQ e);exact⟨by rw[l.length];exact ji (small1000 hl),nJ s1 l (c.pre e1) d1⟩
theorem jD(ha:RA tl dl):RE (iI tl) (aI dl):=fun h o H δ σ S R Q he hs q c=>
 ha h o H δ σ S _ _ he hs q fun o1 H1 S1 xs vs e1 s1 x1 ⟨ds,e,hl,d1⟩=>by
  have l:=kT x1 (cQ e);exact⟨by rw[l.length];exact ji (small1000 hl),iC s1 l (c.pre e1) d1⟩
theorem At(ha:RA tl dl):RE (iI tl) (cN dl):=fun h o H δ σ S R Q he hs q c=>
 ha h o H δ σ S _ _ he hs q fun o1 H1 S1 xs vs e1 s1 x1 ⟨ds,e,hl,d1⟩=>by
  have l:=kT x1 (cQ e);exact⟨by rw[l.length];exact ji (small1000 hl),xE s1 l (c.pre e1) d1⟩
def dB(a:DE):DT:=fun δ S R=>a δ S fun x S1=>asB x fun b=>R b S1
def bS(a:DT):DT:=fun δ S R=>a δ S fun b S1=>R (!b) S1
def kI(a b:DT):DT:=fun δ S R=>a δ S fun x S1=>if x=true then b δ S1 R else R false S1
def dOr(a b:DT):DT:=fun δ S R=>a δ S fun x S1=>if x=true then R true S1 else b δ S1 R
def cD(a b:DE):DE:=fun δ S R=>a δ S fun x S1=>asB x fun c=>if c=true then b δ S1 R else R (.d (.bool false)) S1
def lZ(a b:DE):DE:=fun δ S R=>a δ S fun x S1=>asB x fun c=>if c=true then R (.d (.bool true)) S1 else b δ S1 R
def e9(a:DE):DE:=fun δ S R=>a δ S fun x S1=>asB x fun c=>R (.d (.bool (!c))) S1
def dIf(c:DT)(a b:DE):DE:=fun δ S R=>c δ S fun x S1=>if x=true then a δ S1 R else b δ S1 R
theorem gN(ha:RE ta da):RT (r9 ta) (dB da):=fun h o H δ σ S R Q he hs q c=>
 ha h o H δ σ S _ _ he hs q fun o1 H1 S1 x v e1 s1 x1 d1=>by
  replace d1:=fW d1;obtain⟨b,rfl,d1⟩:=d1;exact⟨b,dJ x1,c o1 H1 S1 b e1 s1 d1⟩
theorem eG(ha:RT tt dt):RT (sQ tt) (bS dt):=fun h o H δ σ S R Q he hs q c=>
 ha h o H δ σ S _ _ he hs q fun o1 H1 S1 b e1 s1 d1=>c o1 H1 S1 _ e1 s1 d1
theorem eO(ha:RT tt dt)(hb:RT tu du):RT (tOr tt tu) (dOr dt du):=fun h o H δ σ S R Q he hs q c=>
 ha h o H δ σ S _ _ he hs q fun o1 H1 S1 b e1 s1 d1=>by
  cases b with
  |false=>exact gM (hb h o1 H1 δ σ S1 R Q (he.mono e1) s1 (by simpa using d1) fun o2 H2 S2 b e2=>c o2 H2 S2 b (e1.trans e2))
  |true=>exact iB (c o1 H1 S1 true e1 s1 (by simpa using d1))
theorem jZ(ha:RE ta da)(hb:RE tb db):RE (sD ta tb) (cD da db):=fun h o H δ σ S R Q he hs q c=>
 ha h o H δ σ S _ _ he hs q fun o1 H1 S1 x v e1 s1 x1 d1=>by
  replace d1:=fW d1;obtain⟨b,rfl,d1⟩:=d1;refine⟨b,dJ x1,?_⟩;cases b with
  |true=>exact iB (hb h o1 H1 δ σ S1 R Q (he.mono e1) s1 (by simpa using d1) (c.pre e1))
  |false=>exact gM (c o1 H1 S1 _ _ e1 s1 (xB false) (by simpa using d1))
theorem A5(ha:RE ta da):RE (wY ta) (e9 da):=fun h o H δ σ S R Q he hs q c=>
 ha h o H δ σ S _ _ he hs q fun o1 H1 S1 x v e1 s1 x1 d1=>by
  replace d1:=fW d1;obtain⟨b,rfl,d1⟩:=d1;exact⟨b,dJ x1,c o1 H1 S1 _ _ e1 s1 (xB _) d1⟩
def gJ(rd p:D2)(a b e:DE):DE:=fun δ S R=>a δ S fun x S1=>b δ S1 fun y S2=>rd x y S2 fun z S3=>asB z fun k=>if k=true then e δ S3 fun u S4=>p y u S4 R else R (.d (.bool false)) S3
theorem F5{r r':R2}{rd p:D2}(hr:RO r rd)(aa:RO r' p)(ha:RE ta da)(hb:RE tb db)(hc:RE tc dc):RE (wV r r' ta tb tc) (gJ rd p da db dc):=fun h o H δ σ S R Q he hs q c=>
 ha h o H δ σ S _ _ he hs q fun o1 H1 S1 x v e1 s1 x1 d1=>hb h o1 H1 δ σ S1 _ _ (he.mono e1) s1 d1 fun o2 H2 S2 y u e2 s2 y2 d2=>
  hr h o2 H2 S2 x y v u _ _ s2 (x1.mono e2) y2 d2 fun o3 H3 S3 z w e3 s3 z3 d3=>by
   replace d3:=fW d3;obtain⟨b,rfl,d3⟩:=d3;refine⟨b,dJ z3,?_⟩;cases b with
   |false=>exact gM (c o3 H3 S3 _ _ ((e1.trans e2).trans e3) s3 (xB false) (by simpa using d3))
   |true=>exact iB (hc h o3 H3 δ σ S3 _ _ (((he.mono e1).mono e2).mono e3) s3 (by simpa using d3) fun o4 H4 S4 k w' e4 s4 k4 d4=>aa h o4 H4 S4 y k u w' R Q s4 ((y2.mono e3).mono e4) k4 d4 (c.pre (((e1.trans e2).trans e3).trans e4)))
end
def dI(C:Int->Int->Prop)(g:Int->Int->Int):D2:=fun x y S R=>asI x fun i=>asI y fun j=>C i j/\R (.d (.int (g i j))) S
def dI0(g:Int->Int->Int):D2:=fun x y S R=>asI x fun i=>asI y fun j=>R (.d (.int (g i j))) S
def dIb(g:Int->Int->Bool):D2:=fun x y S R=>asI x fun i=>asI y fun j=>R (.d (.bool (g i j))) S
def dUI(g:Int->Int):XV->Sto->RX->Prop:=fun x S R=>asI x fun i=>R (.d (.int (g i))) S
def bO:D2:=fun x y S R=>∃d,bZ S x=some d/\∃e,bZ S y=some e/\dq d=true/\dq e=true/\R (.d (.bool (jb d e))) S
def cJ:D2:=fun x y S R=>∃d,bZ S x=some d/\∃e,bZ S y=some e/\dq d=true/\dq e=true/\R (.d (.bool (!PyData.eqv d e))) S
def j9:D2:=fun x _ S R=>asD x fun d=>R (.d (.bool (iM d))) S
def Ax:D2:=fun x y S R=>asT x fun ds=>asI y fun i=>∃d,atI ds i=some d/\R (.d d) S
def Ah:D2:=fun x y S R=>asL S x fun ds=>asI y fun i=>∃d,atI ds i=some d/\R (.d d) S
def AZ:D2:=fun x y S R=>asL S x fun ds=>asL S y fun es=>ds.length+es.length<=1000/\R (.d (.list (ds++es))) S
def BL:D2:=fun x y S R=>asT x fun ds=>asT y fun es=>ds≠[]/\ds.length+es.length<=1000/\R (.d (.tuple (ds++es))) S
section
theorem gV{C:Int->Int->Prop}{g:Int->Int->Int}:RO (rI C fun i j=>.int (g i j)) (dI C g):=fun h o H S x y v u R Q hs hx hy q c=>by
 replace q:=aW q;obtain⟨i,rfl,q⟩:=q;replace q:=aW q;obtain⟨j,rfl,hc,q⟩:=q;exact⟨i,j,aS hx,aS hy,hc,c o H S _ _ Ex.refl hs (xI _) q⟩
theorem tR{g:Int->Int->Int}:RO (rI0 fun i j=>.int (g i j)) (dI0 g):=fun h o H S x y v u R Q hs hx hy q c=>by
 replace q:=aW q;obtain⟨i,rfl,q⟩:=q;replace q:=aW q;obtain⟨j,rfl,q⟩:=q;exact⟨i,j,aS hx,aS hy,c o H S _ _ Ex.refl hs (xI _) q⟩
theorem pJ{g:Int->Int->Bool}:RO (rI0 fun i j=>.bl (g i j)) (dIb g):=fun h o H S x y v u R Q hs hx hy q c=>by
 replace q:=aW q;obtain⟨i,rfl,q⟩:=q;replace q:=aW q;obtain⟨j,rfl,q⟩:=q;exact⟨i,j,aS hx,aS hy,c o H S _ _ Ex.refl hs (xB _) q⟩
theorem De{g:Int->Int}:RU (rU fun i=>.int (g i)) (dUI g):=fun h o H S x v R Q hs hx q c=>by
 replace q:=aW q;obtain⟨i,rfl,q⟩:=q;exact⟨i,aS hx,c o H S _ _ Ex.refl hs (xI _) q⟩
theorem pP:RO vZ bO:=fun h o H S x y v u R Q hs hx hy q c=>by
 obtain⟨d,q1,e,q2,q3,q4,q⟩:=q;exact⟨d,e,fU hs q1 hx,fU hs q2 hy,q3,q4,c o H S _ _ Ex.refl hs (xB _) q⟩
theorem iY:RO yT cJ:=fun h o H S x y v u R Q hs hx hy q c=>by
 obtain⟨d,q1,e,q2,q3,q4,q⟩:=q;exact⟨d,e,fU hs q1 hx,fU hs q2 hy,q3,q4,c o H S _ _ Ex.refl hs (xB _) q⟩
theorem HasL.atI{H:Hp}{ds:List be}{vs:List V}{i:Int}{d:be}(l:HasL H ds vs)(e:L2.atI ds i=some d):∃v,L2.atI vs i=some v/\Has H d v:=by
 unfold L2.atI at e ⊢;rw[l.length];cases hn:ixN ds.length i with
 |none=>rw[hn]at e;cases e
 |some j=>
  rw[hn]at e;exact l.get (show ds[j]?=some d from e)
theorem CD{K:bn}:RO (qY K) Ax:=fun h o H S x y v u R Q hs hx hy q c=>by
 replace q:=fX q;obtain⟨ds,rfl,q⟩:=q;replace q:=aW q;obtain⟨i,rfl,d,e,q⟩:=q;obtain⟨a,vs,rfl,ea,l⟩:=eP hx;obtain⟨w,ew,hw⟩:=l.atI e;exact⟨a,vs,i,w,rfl,aS hy,.of ea,ew,c o H S (.d d) w Ex.refl hs hw q⟩
theorem yB{K:bn}:RO (rY K) Ah:=fun h o H S x y v u R Q hs hx hy q c=>by
 obtain⟨ds,e0,q⟩:=q;replace q:=aW q;obtain⟨i,rfl,d,e,q⟩:=q;obtain⟨a,vs,rfl,ea,l⟩:=bE hs e0 hx;obtain⟨w,ew,hw⟩:=l.atI e;exact⟨a,vs,i,w,rfl,aS hy,.of ea,ew,c o H S (.d d) w Ex.refl hs hw q⟩
theorem BV:RO i3 AZ:=fun h o H S x y v u R Q hs hx hy q c=>by
 obtain⟨ds,e0,es,e1,hl,q⟩:=q;obtain⟨a,vs,rfl,ea,la⟩:=bE hs e0 hx;obtain⟨b,us,rfl,eb,lb⟩:=bE hs e1 hy;exact⟨a,b,vs,us,rfl,rfl,ea,eb,by rw[la.length,lb.length];exact ji (small1000 hl),iC hs (la.append lb) c q⟩
theorem A2{K:bn}:RO (rG K) BL:=fun h o H S x y v u R Q hs hx hy q c=>by
 replace q:=fX q;obtain⟨ds,rfl,q⟩:=q;replace q:=fX q;obtain⟨es,rfl,hn,hl,q⟩:=q;obtain⟨a,vs,rfl,ea,la⟩:=eP hx;obtain⟨b,us,rfl,eb,lb⟩:=eP hy;refine⟨a,b,vs,us,rfl,rfl,.of ea,.of eb,fun z=>?_,by rw[la.length,lb.length];exact ji (small1000 hl),fun z=>?_,fun _=>nJ hs (la.append lb) c q⟩
 ·subst z;have:=la.length;exact hn (gj this.symm)
 ·subst z;have e:es=[]:=gj lb.length.symm;subst e;rw[gu]at q;exact c o H S (.d (.tuple ds)) _ Ex.refl hs hx q
end
abbrev DO:=XE->Sto->(Option Int->Sto->Prop)->Prop
def RP(t:TO)(dt:DO):Prop:=∀(h o:List Addr) (H:Hp) (δ:XE) (σ:St) (S:Sto) (R:Option Int->Sto->Prop) (Q:Option Int->Hp->Prop),RepE h o H δ σ->RepS h o H S->dt δ S R ->
 (∀o' H' S' b,Ex o H o' H'->RepS h o' H' S'->R b S'->Q b H')->t σ H Q
def c8:DO:=fun _ S R=>R none S
def cT(a:DE):DO:=fun δ S R=>a δ S fun x S1=>asI x fun i=>R (some i) S1
theorem xA:RP AE c8:=fun h o H δ σ S R Q he hs q c=>c o H S none Ex.refl hs q
theorem uG{t:TE}{da:DE}(ha:RE t da):RP (i7 t) (cT da):=fun h o H δ σ S R Q he hs q c=>
 ha h o H δ σ S _ _ he hs q fun o1 H1 S1 x v e1 s1 x1 d1=>by
  replace d1:=aW d1;obtain⟨i,rfl,d1⟩:=d1;exact⟨i,aS x1,c o1 H1 S1 _ e1 s1 d1⟩
abbrev D3:=XV->Option Int->Option Int->Sto->RX->Prop
def RL(r:V->Option Int->Option Int->Hp->VK->Prop)(rd:D3):Prop:=∀(h o:List Addr) (H:Hp) (S:Sto) (x:XV) (v:V) (a b:Option Int) (R:RX) (Q:VK),RepS h o H S->HasX h o H x v->rd x a b S R->Cn h o H R Q->r v a b H Q
def dSl(rd:D3)(e:DE)(a b:DO):DE:=fun δ S R=>e δ S fun x S1=>a δ S1 fun i S2=>b δ S2 fun j S3=>rd x i j S3 R
theorem yJ{r:V->Option Int->Option Int->Hp->VK->Prop}{rd:D3}{te:TE}{de:DE}{ta tb:TO}{da db:DO}(hr:RL r rd)(p:RE te de)(ha:RP ta da)(hb:RP tb db):RE (tSl r te ta tb) (dSl rd de da db):=fun h o H δ σ S R Q he hs q c=>
 p h o H δ σ S _ _ he hs q fun o1 H1 S1 x v e1 s1 x1 d1=>ha h o1 H1 δ σ S1 _ _ (he.mono e1) s1 d1 fun o2 H2 S2 i e2 s2 d2=>hb h o2 H2 δ σ S2 _ _ ((he.mono e1).mono e2) s2 d2 fun o3 H3 S3 j e3 s3 d3=>
  hr h o3 H3 S3 x v i j R Q s3 ((x1.mono e2).mono e3) d3 (c.pre ((e1.trans e2).trans e3))
def Az:D3:=fun x i j S R=>asL S x fun ds=>R (.d (.list (aL ds i j))) S
def F2:D3:=fun x i j S R=>asT x fun ds=>¬(HT.sIx ds.length 0 i=0/\HT.sIx ds.length ds.length j=ds.length)/\R (.d (.tuple (aL ds i j))) S
theorem uE{K:bn}:RL (kQ K) Az:=fun h o H S x v a b R Q hs hx q c=>by
 obtain⟨ds,e0,q⟩:=q;obtain⟨p,vs,rfl,ea,l⟩:=bE hs e0 hx;exact⟨p,vs,rfl,.of ea,iC hs (l.cut a b) c q⟩
theorem A7{K:bn}:RL (qJ K) F2:=fun h o H S x v a b R Q hs hx q c=>by
 replace q:=fX q;obtain⟨ds,rfl,hn,q⟩:=q;obtain⟨p,vs,rfl,ea,l⟩:=eP hx;exact⟨p,vs,rfl,.of ea,by rw[l.length];exact hn,nJ hs (l.cut a b) c q⟩
def asQ(S:Sto):XV->Option (List be)
 | .d (.tuple ds)=>some ds
 | .d (.list ds)=>some ds
 | .l k=>S[k]?
 |_=>none
theorem wX{h o:List Addr}{H:Hp}{S:Sto}{x:XV}{v:V}{ds:List be}(r:RepS h o H S)(e:asQ S x=some ds)(q:HasX h o H x v):∃a vs,v=.ref a/\(H a=some (.tup vs)\/H a=some (.lst vs))/\HasL (vx h o H) ds vs:=by
 unfold asQ at e;split at e
 ·cases e;obtain⟨a,vs,e,q,l⟩:=eP q;exact⟨a,vs,e,.inl q,l⟩
 ·cases e;obtain⟨a,vs,e,q,l⟩:=bE (x:=.d (.list ds)) (ds:=ds) r rfl q;exact⟨a,vs,e,.inr q,l⟩
 ·rename_i k;obtain⟨a,vs,e,q,l⟩:=bE (x:=.l k) r e q;exact⟨a,vs,e,.inr q,l⟩
 ·cases e
def arg1:List XV->(XV->Prop)->Prop
 | [x],k=>k x
 |_,_=>False
def arg2:List XV->(XV->XV->Prop)->Prop
 | [x,y],k=>k x y
 |_,_=>False
theorem cL{xs:List XV}{k:XV->Prop}(h:arg1 xs k):∃x,xs=[x]/\k x:=by
 unfold arg1 at h;split at h
 ·exact⟨_,rfl,h⟩
 ·exact h.elim
theorem lM{xs:List XV}{k:XV->XV->Prop}(h:arg2 xs k):∃x y,xs=[x,y]/\k x y:=by
 unfold arg2 at h;split at h
 ·exact⟨_,_,rfl,h⟩
 ·exact h.elim
theorem hxs1{h o:List Addr}{H:Hp}{x:XV}{vs:List V}(q:HasXs h o H [x] vs):∃v,vs=[v]/\HasX h o H x v:=by
 obtain⟨v,r,e,hx,hr⟩:=q;cases hr;exact⟨v,e,hx⟩
theorem hxs2{h o:List Addr}{H:Hp}{x y:XV}{vs:List V}(q:HasXs h o H [x,y] vs):∃v u,vs=[v,u]/\HasX h o H x v/\HasX h o H y u:=by
 obtain⟨v,r,e,hx,q⟩:=q;obtain⟨u,e',hy⟩:=hxs1 q;subst e';exact⟨v,u,e,hx,hy⟩
def qH:XV->(String->Prop)->Prop
 | .o v,k=>∃c,v=.ty c/\k c
 |_,_=>False
def qO:XV->(Int->Prop)->Prop
 | .d d,k=>match d with
  | .int i=>k i
  | .bool b=>k (if b then 1 else 0)
  |_=>False
 |_,_=>False
theorem Bj{x:XV}{k:String->Prop}(h:qH x k):∃c,x=.o (.ty c)/\k c:=by
 cases x with
 |o v=>
  obtain⟨c,rfl,h⟩:=h;exact⟨c,rfl,h⟩
 |d d=>exact h.elim
 |l j=>exact h.elim
 |x _ _=>exact h.elim
 |p _ _=>exact h.elim
theorem DW{x:XV}{k:Int->Prop}(h:qO x k):(∃i,x=.d (.int i)/\k i)\/∃b,x=.d (.bool b)/\k (if b then 1 else 0):=by
 cases x with
 |d d=>
  cases d with
  |int i=>exact .inl ⟨i,rfl,h⟩
  |bool b=>exact .inr ⟨b,rfl,h⟩
  |_=>exact h.elim
 |_=>exact h.elim
def AR:List XV->Sto->RX->Prop:=fun xs S R=>arg1 xs fun x=>∃ds,asQ S x=some ds/\R (.d (.int ds.length)) S
theorem qU{K:bn}:RC (rX K) AR:=fun h o H S xs vs R Q hs hx q c=>by
 obtain⟨x,rfl,ds,hd,q1⟩:=cL q;obtain⟨v,rfl,p⟩:=hxs1 hx;obtain⟨a,ws,rfl,ea,l⟩:=wX hs hd p;refine⟨a,ws,rfl,ea.elim (fun z=>.inr (.of z)) (fun z=>.inl (.of z)),?_⟩;rw[l.length];exact c o H S _ _ Ex.refl hs (xI _) q1
def cH:List XV->Sto->RX->Prop:=fun xs S R=>arg2 xs fun x y=>qH y fun cl=>∃d,bZ S x=some d/\cl∈eM/\R (.d (.bool (gP d cl))) S
theorem xV:RC sF cH:=fun h o H S xs vs R Q hs hx q c=>by
 obtain⟨x,y,rfl,q1⟩:=lM q;obtain⟨cl,rfl,d,hd,hc,q2⟩:=Bj q1;obtain⟨v,u,rfl,p,hu⟩:=hxs2 hx;cases hu;exact EM (fU hs hd p) hc (c o H S _ _ Ex.refl hs (xB _) q2)
def gU:List XV->Sto->RX->Prop:=fun xs S R=>arg1 xs fun x=>qO x fun i=>R (.d (.int i)) S
theorem Ee:RC (fun xs H Q=>(∃i,xs=[.int i]/\Q (.int i) H)\/∃k,xs=[.bl k]/\Q (.int (if k then 1 else 0)) H) gU:=fun h o H S xs vs R Q hs hx q c=>by
 obtain⟨x,rfl,q1⟩:=cL q;obtain⟨v,rfl,p⟩:=hxs1 hx;rcases DW q1 with ⟨i,rfl,q2⟩|⟨b,rfl,q2⟩
 ·exact .inl ⟨_,by rw[aS p],c o H S _ _ Ex.refl hs (xI _) q2⟩
 ·exact .inr ⟨_,by rw[dJ p],c o H S _ _ Ex.refl hs (xI _) q2⟩
def dI2(g:Int->Int->Int):List XV->Sto->RX->Prop:=fun xs S R=>arg2 xs fun x y=>asI x fun i=>asI y fun j=>R (.d (.int (g i j))) S
theorem An{g:Int->Int->Int}:RC (fun xs H Q=>∃i j,xs=[.int i,.int j]/\Q (.int (g i j)) H) (dI2 g):=fun h o H S xs vs R Q hs hx q c=>by
 obtain⟨x,y,rfl,q1⟩:=lM q;obtain⟨v,u,rfl,p,hu⟩:=hxs2 hx;obtain⟨i,rfl,q2⟩:=aW q1;obtain⟨j,rfl,q3⟩:=aW q2;exact⟨i,j,by rw[aS p,aS hu],c o H S _ _ Ex.refl hs (xI _) q3⟩
def eU:List XV->Sto->RX->Prop:=fun xs S R=>arg1 xs fun x=>∃ds,asQ S x=some ds/\R (.d (.tuple ds)) S
theorem E2{K:bn}:RC (fun xs H Q=>∃p ys,xs=[.ref p]/\((SqL K H p ys/\∀l,H l=none->Q (.ref l) (upd H l (.tup ys)))\/(SqT K H p ys/\Q (.ref p) H))) eU:=fun h o H S xs vs R Q hs hx q c=>by
 obtain⟨x,rfl,ds,hd,q1⟩:=cL q;obtain⟨v,rfl,aa⟩:=hxs1 hx;obtain⟨a,ws,rfl,ea,l⟩:=wX hs hd aa;refine⟨a,ws,rfl,ea.elim (fun z=>.inr ⟨.of z,?_⟩) (fun z=>.inl ⟨.of z,nJ hs l c q1⟩)⟩;have hh:HasX h o H (.d (.tuple ds)) (.ref a):=by
  unfold asQ at hd;split at hd
  ·cases hd;exact aa
  ·obtain⟨a',us,e1,e2,_⟩:=bE (x:=.d (.list _)) hs rfl aa;cases e1;rw[z]at e2;cases e2
  ·rename_i k;obtain⟨a',us,e1,e2,_⟩:=bE (x:=.l k) hs hd aa;cases e1;rw[z]at e2;cases e2
  ·cases hd
 exact c o H S _ _ Ex.refl hs hh q1
def dBM(rd:XV->List XV->Sto->RX->Prop)(e:DE)(a:DA):DE:=fun δ S R=>e δ S fun x S1=>∃k,x=.l k/\k<S1.length/\a δ S1 fun xs S2=>rd x xs S2 R
def gT(rd:XV->List XV->Sto->RX->Prop)(e:DE):DE:=fun δ S R=>e δ S fun x S1=>∃k,x=.l k/\k<S1.length/\rd x [] S1 R
def RM(r:V->List V->Hp->VK->Prop)(rd:XV->List XV->Sto->RX->Prop):Prop:=∀(h o:List Addr) (H:Hp) (S:Sto) (x:XV) (v:V) (xs:List XV) (vs:List V) (R:RX) (Q:VK),RepS h o H S->HasX h o H x v->HasXs h o H xs vs->rd x xs S R->Cn h o H R Q->r v vs H Q
theorem qM{K:bn}{H:Hp}{a:Addr}{vs:List V}(e:H a=some (.lst vs)):tyV K "list" (.ref a) H:=.inl ⟨rfl,vs,.of e⟩
theorem yF{h o:List Addr}{H:Hp}{S:Sto}{k:Nat}{v:V}(hs:RepS h o H S)(hk:k<S.length)(hx:HasX h o H (.l k) v):∃a vs,v=.ref a/\H a=some (.lst vs):=by
 obtain⟨a,e,rfl⟩:=hx;obtain⟨vs,e2,_⟩:=hs.cont k a _ e (eg hk);exact⟨a,vs,rfl,e2⟩
theorem jO{K:bn}{r:V->List V->Hp->VK->Prop}{rd:XV->List XV->Sto->RX->Prop}{te:TE}{de:DE}{tl:TA}{dl:DA}(hr:RM r rd)(p:RE te de)(ha:RA tl dl):RE (tBM K "list" r te tl) (dBM rd de dl):=fun h o H δ σ S R Q he hs q c=>
 p h o H δ σ S _ _ he hs q fun o1 H1 S1 x v e1 s1 x1 ⟨k,ek,hk,d1⟩=>by
  subst ek;obtain⟨a,ws,rfl,ea⟩:=yF s1 hk x1;exact⟨qM ea,ha h o1 H1 δ σ S1 _ _ (he.mono e1) s1 d1 fun o2 H2 S2 xs vs e2 s2 x2 d2=>hr h o2 H2 S2 (.l k) _ xs vs R Q s2 (x1.mono e2) x2 d2 (c.pre (e1.trans e2))⟩
theorem Al{K:bn}{r:V->List V->Hp->VK->Prop}{rd:XV->List XV->Sto->RX->Prop}{te:TE}{de:DE}(hr:RM r rd)(p:RE te de):RE (wL K "list" r te) (gT rd de):=fun h o H δ σ S R Q he hs q c=>
 p h o H δ σ S _ _ he hs q fun o1 H1 S1 x v e1 s1 x1 ⟨k,ek,hk,d1⟩=>by
  subst ek;obtain⟨a,ws,rfl,ea⟩:=yF s1 hk x1;exact⟨qM ea,hr h o1 H1 S1 (.l k) _ [] [] R Q s1 x1 rfl d1 (c.pre e1)⟩
def eI:XV->List XV->Sto->RX->Prop:=fun x xs S R=>∃k,x=.l k/\∃ds,S[k]?=some ds/\arg1 xs fun y=>asD y fun d=>ds.length<1000/\R (.d .none) (S.set k (ds++[d]))
theorem y0:RM xP eI:=fun h o H S x v xs vs R Q hs hx p q c=>by
 obtain⟨k,rfl,ds,e,q1⟩:=q;obtain⟨y,rfl,q2⟩:=cL q1;obtain⟨d,rfl,hl,q3⟩:=qX q2;obtain⟨a,ea,rfl⟩:=hx;obtain⟨u,rfl,hu⟩:=hxs1 p;obtain⟨ws,ew,l⟩:=hs.cont k a ds ea e;exact⟨a,ws,u,rfl,rfl,ew,by rw[l.length];exact small1000 (ji hl),c o _ _ (.d .none) _ (Ex.upd ea) (hs.upd ea (l.append (zo.mpr ⟨u,[],rfl,hu,zx.mpr rfl⟩))) xN q3⟩
def iE:XV->List XV->Sto->RX->Prop:=fun x xs S R=>∃k,x=.l k/\∃ds,S[k]?=some ds/\xs=[]/\R (.d .none) (S.set k ds.reverse)
theorem B9:RM AD iE:=fun h o H S x v xs vs R Q hs hx p q c=>by
 obtain⟨k,rfl,ds,e,rfl,q1⟩:=q;obtain⟨a,ea,rfl⟩:=hx;obtain⟨ws,ew,l⟩:=hs.cont k a ds ea e;cases p;exact⟨a,ws,rfl,rfl,ew,c o _ _ (.d .none) _ (Ex.upd ea) (hs.upd ea l.rev) xN q1⟩
def fC:XV->List XV->Sto->RX->Prop:=fun x xs S R=>∃k,x=.l k/\∃ds,S[k]?=some ds/\arg1 xs fun y=>∃es,cA S y=some es/\ds.length+es.length<=1000/\R (.d .none) (S.set k (ds++es))
theorem rF:RM uJ fC:=fun h o H S x v xs vs R Q hs hx p q c=>by
 obtain⟨k,rfl,ds,e,q1⟩:=q;obtain⟨y,rfl,es,ey,hl,q3⟩:=cL q1;obtain⟨a,ea,rfl⟩:=hx;obtain⟨u,rfl,hu⟩:=hxs1 p;obtain⟨ws,ew,l⟩:=hs.cont k a ds ea e;obtain⟨b,zs,rfl,eb,lb⟩:=bE hs ey hu;exact⟨a,b,ws,zs,rfl,rfl,ew,eb,by rw[l.length,lb.length];exact ji (small1000 hl),c o _ _ (.d .none) _ (Ex.upd ea) (hs.upd ea (l.append lb)) xN q3⟩
def ret0(S:Sto)(R:RX):RX:=fun y S'=>match y,S' with
 | .d d,[]=>R (.d d) S
 | .l 0,[ds]=>R (.l S.length) (S++[ds])
 |_,_=>False
def oB(k:Nat)(S:Sto)(R:RX):RX:=fun y S'=>match y,S' with
 | .d d,[p]=>R (.d d) (S.set k p)
 | .l 1,[p,ds]=>R (.l S.length) (S.set k p++[ds])
 |_,_=>False
section
variable {h o:List Addr}{H:Hp}{S:Sto}{R:RX}{Q:VK}
theorem fP{h o h' o':List Addr}{H:Hp}(e:∀b,(b∈h'\/b∈o')↔(b∈h\/b∈o)):vx h' o' H=vx h o H:=by
 funext b;have p:∀u,vx h' o' H b=some u↔vx h o H b=some u:=fun u=>by
  rw[zM,zM];have:=e b;constructor
  ·rintro⟨a1,a2,a3⟩;exact⟨fun m=>(this.mpr (.inl m)).elim a1 a2,fun m=>(this.mpr (.inr m)).elim a1 a2,a3⟩
  ·rintro⟨a1,a2,a3⟩;exact⟨fun m=>(this.mp (.inl m)).elim a1 a2,fun m=>(this.mp (.inr m)).elim a1 a2,a3⟩
 cases e1:vx h' o' H b with
 |some u=>exact((p u).mp e1).symm
 |none=>
  cases e2:vx h o H b with
  |none=>rfl
  |some u=>rw[(p u).mpr e2]at e1;cases e1
theorem rep0(hs:RepS h o H S):RepS (h++o) [] H [] where
 len:=rfl
 nd:=nodup_nil
 dis:=fun a ha=>by cases ha
 hal:=fun b hb=>(mem_append.mp hb).elim (hs.hal b) (hs.oam b)
 cont:=fun k a ds e=>by simp at e
theorem hx0{d:be}{v:V}(hx:HasX h o H (.d d) v):HasX (h++o) [] H (.d d) v:=by
 show Has (vx (h++o) [] H) d v;rw[fP (h:=h) (o:=o) fun b=>by simp];exact hx
theorem hx0'{d:be}{v:V}(hx:HasX (h++o) [] H (.d d) v):HasX h o H (.d d) v:=by
 show Has (vx h o H) d v;rw[<- fP (h':=h++o) (o':=[]) (h:=h) (o:=o) fun b=>by simp];exact hx
theorem cn0(hs:RepS h o H S)(c:Cn h o H R Q):Cn (h++o) [] H (ret0 S R) Q:=fun o' H' S' y v e s' hy q=>by
 have sm:Same H (vx [] o' H'):=fun b u eb=>by
  obtain⟨a1,a2⟩:=e.kp b u yv eb;exact zM.mpr ⟨yv,a1,a2⟩
 have sH:Same H H':=fun b u eb=>(zM.mp (sm b u eb)).2.2;unfold ret0 at q;split at q
 ·have e0:o'=[]:=gj s'.len.symm;subst e0;exact c o H' S _ v (Ex.of_same sH) (hs.same sH) (hx0' hy) q
 ·rename_i ds;obtain⟨a,rfl⟩:∃a,o'=[a]:=List.length_eq_one_iff.mp s'.len.symm;obtain⟨a',ea,rfl⟩:=hy;cases ea;obtain⟨vs,ev,l⟩:=s'.cont 0 a ds rfl rfl;have na:a∉h++o:=s'.dis a yv;have hn:H a=none:=by
   cases eh:H a with
   |none=>rfl
   |some u=>exact absurd (e.kp a u yv eh).1 yv
  have e2:Ex o H (o++[a]) H':=⟨⟨[a],rfl⟩,fun b u hb eb=>by
   obtain⟨a1,a2⟩:=e.kp b u yv eb;exact⟨by simp only[mem_append,not_or];exact⟨hb,a1⟩,a2⟩⟩
  have p:vx (h++o) [a] H'=vx h (o++[a]) H':=fP fun b=>by simp[or_assoc]
  rw[p]at l;refine c (o++[a]) H' (S++[ds]) (.l S.length) _ e2 ⟨by simp[hs.len],oF hs.nd fun m=>na (cb _ m),fun b hb=>?_,fun b hb=>?_,fun k b es q1 q2=>?_⟩ ⟨a,by rw[hs.len,bp],rfl⟩ q
  ·rcases mem_append.mp hb with hb|hb
   ·exact hs.dis b hb
   ·rw[mem_singleton.mp hb];exact fun m=>na (fq _ m)
  ·obtain⟨u,eb⟩:=hs.hal b hb;exact⟨u,sH b _ eb⟩
  ·by_cases hk:k<o.length
   ·rw[cr hk]at q1;rw[cr (by rw[hs.len];exact hk)]at q2;obtain⟨ws,e3,l3⟩:=hs.cont k b es q1 q2;exact⟨ws,sH _ _ e3,l3.mono e2.vx⟩
   ·have z:k=o.length:=by
     obtain⟨q,_⟩:=List.getElem?_eq_some_iff.mp q1;rw[bx,fj]at q;omega
    subst z;rw[bp]at q1;rw[<- hs.len,bp]at q2;cases q1;cases q2;exact⟨vs,ev,l⟩
 ·exact q.elim
theorem nQ{k:Nat}{a:Addr}{p:List be}(hs:RepS h o H S)(ea:o[k]?=some a)(ep:S[k]?=some p):RepS (h++o.filter (fun b=>b≠a)) [a] H [p] where
 len:=rfl
 nd:=by simp
 dis:=fun b hb=>by
  rw[mem_singleton.mp hb];intro m;rcases mem_append.mp m with m|m
  ·exact hs.dis a (cn ea) m
  ·have:=(mem_filter.mp m).2;simp at this
 hal:=fun b hb=>(mem_append.mp hb).elim (hs.hal b) fun m=>hs.oam b (mem_filter.mp m).1
 cont:=fun j b ds e1 e2=>by
  cases j with
  |succ j=>simp at e1
  |zero=>
   cases e1;cases e2;obtain⟨vs,e3,l⟩:=hs.cont k a p ea ep;refine⟨vs,e3,?_⟩;rw[fP (h:=h) (o:=o) (mem_pen ea)];exact l
where
 mem_pen {h o:List Addr}{k:Nat}{a:Addr} (ea:o[k]?=some a) (b:Addr):(b∈h++o.filter (fun b=>b≠a)\/b∈[a])↔(b∈h\/b∈o):=by
  have ma:=cn ea;by_cases e:b=a
  ·subst e;simp[ma]
  ·simp[e]
theorem hxP{k:Nat}{a:Addr}{d:be}{v:V}(ea:o[k]?=some a)(hx:HasX h o H (.d d) v):HasX (h++o.filter (fun b=>b≠a)) [a] H (.d d) v:=by
 show Has (vx _ _ H) d v;rw[fP (h:=h) (o:=o) (nQ.mem_pen ea)];exact hx
theorem cnP{k:Nat}{a:Addr}{p:List be}(hs:RepS h o H S)(ea:o[k]?=some a)(ep:S[k]?=some p)(c:Cn h o H R Q):Cn (h++o.filter (fun b=>b≠a)) [a] H (oB k S R) Q:=fun o' H' S' y v e s' hy q=>by
 have ma:=cn ea;have hk:k<o.length:=(List.getElem?_eq_some_iff.mp ea).1;unfold oB at q;split at q
 ·rename_i d p';obtain⟨r,rfl⟩:=e.pre;have er:r=[]:=by
   have:=s'.len;simp at this;exact this
  subst er;have ex:Ex o H o H':=⟨⟨[],yv⟩,fun b u hb eb=>⟨hb,(e.kp b u (fun m=>hb (by rw[mem_singleton.mp m];exact ma)) eb).2⟩⟩;obtain⟨vs,ev,l⟩:=s'.cont 0 a p' rfl rfl;have aa:vx (h++o.filter (fun b=>b≠a)) ([a]++[]) H'=vx h o H':=fP (nQ.mem_pen ea);rw[aa]at l;refine c o H' (S.set k p') (.d d) v ex ⟨by simp[hs.len],hs.nd,hs.dis,fun b hb=>?_,fun j b es q1 q2=>?_⟩ (by
   have ac:Has (vx (h++o.filter (fun b=>b≠a)) ([a]++[]) H') d v:=hy;rw[aa]at ac;exact ac) q
  ·obtain⟨u,eb⟩:=hs.hal b hb;exact⟨u,(e.kp b _ (fun m=>hs.dis a ma (by rw[<- mem_singleton.mp m];exact hb)) eb).2⟩
  ·by_cases hj:j=k
   ·subst hj;rw[q1]at ea;cases ea;rw[kq (by rw[hs.len];exact hk)]at q2;cases q2;exact⟨vs,ev,l⟩
   ·rw[lh (dy hj)]at q2;obtain⟨ws,e3,l3⟩:=hs.cont j b es q1 q2;have ne:b≠a:=fun z=>hj (mG hs.nd q1 (z▸ea));exact⟨ws,(e.kp b _ (by simp[ne]) e3).2,l3.mono ex.vx⟩
 ·rename_i p' ds;obtain⟨r,rfl⟩:=e.pre;obtain⟨a2,rfl⟩:∃a2,r=[a2]:=by
   have:=s'.len;simp at this;exact List.length_eq_one_iff.mp this
  obtain⟨b2,ah,rfl⟩:=hy;cases ah;obtain⟨vs,ev,l⟩:=s'.cont 0 a p' rfl rfl;obtain⟨ae,af,l2⟩:=s'.cont 1 a2 ds rfl rfl;have n2:a2∉h++o.filter (fun b=>b≠a):=s'.dis a2 yv;have n3:a≠a2:=by
   have:=s'.nd;simp at this;exact this
  have n4:a2∉o:=fun m=>n2 (cb _ (mem_filter.mpr ⟨m,by simp[dy n3]⟩));have ex:Ex o H (o++[a2]) H':=⟨⟨[a2],rfl⟩,fun b u hb eb=>by
   obtain⟨z1,z2⟩:=e.kp b u (fun m=>hb (by rw[mem_singleton.mp m];exact ma)) eb;refine⟨?_,z2⟩;simp only[mem_append,not_or];exact⟨hb,fun m=>z1 (by simp at m ⊢;exact .inr m)⟩⟩
  have aa:vx (h++o.filter (fun b=>b≠a)) ([a]++[a2]) H'=vx h (o++[a2]) H':=fP fun b=>by
   have:=nQ.mem_pen (h:=h) ea b;simp only[mem_append]at this ⊢;rw[<- or_assoc,this,or_assoc]
  rw[aa]at l l2;refine c (o++[a2]) H' (S.set k p'++[ds]) (.l S.length) _ ex ⟨by simp[hs.len],oF hs.nd n4,fun b hb=>?_,fun b hb=>?_,fun j b es q1 q2=>?_⟩ ⟨a2,by rw[hs.len,bp],rfl⟩ q
  ·rcases mem_append.mp hb with hb|hb
   ·exact hs.dis b hb
   ·rw[mem_singleton.mp hb];exact fun m=>n2 (fq _ m)
  ·obtain⟨u,eb⟩:=hs.hal b hb;exact⟨u,(e.kp b _ (fun m=>hs.dis a ma (by rw[<- mem_singleton.mp m];exact hb)) eb).2⟩
  ·by_cases hjo:j<o.length
   ·rw[cr hjo]at q1;rw[cr (by rw[length_set,hs.len];exact hjo)]at q2;by_cases hj:j=k
    ·subst hj;rw[q1]at ea;cases ea;rw[kq (by rw[hs.len];exact hk)]at q2;cases q2;exact⟨vs,ev,l⟩
    ·rw[lh (dy hj)]at q2;obtain⟨ws,e3,l3⟩:=hs.cont j b es q1 q2;have ne:b≠a:=fun z=>hj (mG hs.nd q1 (z▸ea));exact⟨ws,(e.kp b _ (by simp[ne]) e3).2,l3.mono ex.vx⟩
   ·have ag:j=o.length:=by
     obtain⟨q,_⟩:=List.getElem?_eq_some_iff.mp q1;rw[bx,fj]at q;omega
    subst ag;rw[bp]at q1;rw[<- hs.len,<- length_set (i:=k) (a:=p'),bp]at q2;cases q1;cases q2;exact⟨ae,af,l2⟩
 ·exact q.elim
end
structure DEnds where
 nx:XE->Sto->Prop
 rt:RX
 bk:XE->Sto->Prop:=fun _ _=>False
 ct:XE->Sto->Prop:=fun _ _=>False
abbrev DS:=DEnds->XE->Sto->Prop
abbrev DG:=XV->XE->Sto->(XE->Sto->Prop)->Prop
abbrev DGs:=List be->XE->Sto->(XE->Sto->Prop)->Prop
def Nx(h o:List Addr)(H:Hp)(N:XE->Sto->Prop)(M:St->Hp->Prop):Prop:=∀o' H' δ' S' σ',Ex o H o' H'->RepE h o' H' δ' σ'->RepS h o' H' S'->N δ' S'->M σ' H'
theorem Nx.pre{h o o':List Addr}{H H':Hp}{N:XE->Sto->Prop}{M:St->Hp->Prop}(c:Nx h o H N M)(e:Ex o H o' H'):Nx h o' H' N M:=fun o2 H2 δ2 S2 σ2 e2=>c o2 H2 δ2 S2 σ2 (e.trans e2)
structure EOk(h o:List Addr)(H:Hp)(E:DEnds)(D:Ends):Prop where
 nx:Nx h o H E.nx D.nx
 rt:Cn h o H E.rt D.rt
 bk:Nx h o H E.bk D.bk
 ct:Nx h o H E.ct D.ct
theorem EOk.pre{h o o':List Addr}{H H':Hp}{E:DEnds}{D:Ends}(c:EOk h o H E D)(e:Ex o H o' H'):EOk h o' H' E D:=⟨c.nx.pre e,c.rt.pre e,c.bk.pre e,c.ct.pre e⟩
def RS(t:TS)(dt:DS):Prop:=∀(h o:List Addr) (H:Hp) (δ:XE) (σ:St) (S:Sto) (E:DEnds) (D:Ends),RepE h o H δ σ->RepS h o H S->dt E δ S->EOk h o H E D->t D σ H
def RG(t:TG)(dt:DG):Prop:=∀(h o:List Addr) (H:Hp) (δ:XE) (σ:St) (S:Sto) (x:XV) (v:V) (N:XE->Sto->Prop) (M:St->Hp->Prop),RepE h o H δ σ->RepS h o H S->HasX h o H x v->dt x δ S N->Nx h o H N M->t v σ H M
def RGs(t:TGs)(dt:DGs):Prop:=∀(h o:List Addr) (H:Hp) (δ:XE) (σ:St) (S:Sto) (ds:List be) (vs:List V) (N:XE->Sto->Prop) (M:St->Hp->Prop),RepE h o H δ σ->RepS h o H S->HasL (vx h o H) ds vs->dt ds δ S N->Nx h o H N M->t vs σ H M
def zi(i:Nat):DG:=fun x δ S N=>N (δ.set i (some x)) S
def c9:DGs:=fun ds δ S N=>ds=[]/\N δ S
def hdD:List be->(be->List be->Prop)->Prop
 |d::es,k=>k d es
 | [],_=>False
theorem BQ{ds:List be}{k:be->List be->Prop}(h:hdD ds k):∃d es,ds=d::es/\k d es:=by
 cases ds with
 |nil=>exact h.elim
 |cons d es=>exact⟨d,es,rfl,h⟩
theorem jQ{d:be}{es:List be}{k:be->List be->Prop}:hdD (d::es) k=k d es:=rfl
def bD(g:DG)(r:DGs):DGs:=fun ds δ S N=>hdD ds fun d es=>g (.d d) δ S fun δ' S'=>r es δ' S' N
def cZ(n:Nat)(r:DGs):DG:=fun x δ S N=>asT x fun ds=>ds.length=n/\r ds δ S N
def fF(a b:DE):DG:=fun x δ S N=>a δ S fun y S1=>b δ S1 fun z S2=>asD x fun d=>∃k,y=.l k/\∃ds,S2[k]?=some ds/\asI z fun i=>∃j,ixN ds.length i=some j/\N δ (S2.set k (ds.set j d))
theorem zG{i:Nat}:RG (iR i) (zi i):=fun h o H δ σ S x v N M he hs hx q c=>c o H _ S _ Ex.refl (he.set hx) hs q
theorem rZ:RGs v3 c9:=fun h o H δ σ S ds vs N M he hs l ⟨e,q⟩ c=>by
 subst e;exact⟨zx.mp l,c o H δ S σ Ex.refl he hs q⟩
theorem nH{t:TG}{u:TGs}{g:DG}{r:DGs}(h1:RG t g)(h2:RGs u r):RGs (sO t u) (bD g r):=fun h o H δ σ S ds vs N M he hs l q0 c=>by
 obtain⟨d,es,rfl,q⟩:=BQ q0;obtain⟨v,ws,rfl,hv,l⟩:=zo.mp l;exact⟨v,ws,rfl,h1 h o H δ σ S (.d d) v _ _ he hs hv q fun o1 H1 δ1 S1 σ1 e1 z p q1=>h2 h o1 H1 δ1 σ1 S1 es ws N M z p (l.mono e1.vx) q1 (c.pre e1)⟩
theorem qV{K:bn}{n:Nat}{t:TGs}{r:DGs}(h1:RGs t r):RG (nV K n t) (cZ n r):=fun h o H δ σ S x v N M he hs hx q c=>by
 replace q:=fX q;obtain⟨ds,rfl,hn,q⟩:=q;obtain⟨a,vs,rfl,ea,l⟩:=eP hx;exact⟨a,vs,rfl,.of ea,by rw[l.length];exact hn,h1 h o H δ σ S ds vs N M he hs l q c⟩
theorem HasL.setAt{H:Hp}:∀{ds:List be}{vs:List V}{j:Nat}{d:be}{v:V},HasL H ds vs->Has H d v->HasL H (ds.set j d) (vs.set j v)
 | [],vs,j,d,v,l,_=>by rw[zx.mp l];exact zx.mpr rfl
 |c::ds,vs,0,d,v,l,q=>by
  obtain⟨u,r,rfl,_,l⟩:=zo.mp l;exact zo.mpr ⟨v,r,rfl,q,l⟩
 |c::ds,vs,j+1,d,v,l,q=>by
  obtain⟨u,r,rfl,hu,l⟩:=zo.mp l;exact zo.mpr ⟨u,r.set j v,rfl,hu,HasL.setAt l q⟩
theorem AQ{ta tb:TE}{da db:DE}(ha:RE ta da)(hb:RE tb db):RG (vR ta tb tD) (fF da db):=fun h o H δ σ S x v N M he hs hx q c=>
 ha h o H δ σ S _ _ he hs q fun o1 H1 S1 y u e1 s1 y1 d1=>hb h o1 H1 δ σ S1 _ _ (he.mono e1) s1 d1 fun o2 H2 S2 z w e2 s2 z2 d0=>by
  obtain⟨d,rfl,k,rfl,ds,es,d2⟩:=qX d0;replace d2:=aW d2;obtain⟨i,rfl,j,ej,d2⟩:=d2;obtain⟨a,ea,rfl⟩:=y1.mono e2;obtain⟨ws,ew,l⟩:=s2.cont k a ds ea es;refine⟨a,ws,i,j,rfl,aS z2,ew,by rw[l.length];exact ej,?_⟩;exact c o2 _ δ _ σ ((e1.trans e2).trans (Ex.upd ea)) (((he.mono e1).mono e2).mono (Ex.upd ea)) (s2.upd ea (l.setAt (hx.mono (e1.trans e2)))) d2
def aN:DS:=fun E δ S=>E.nx δ S
def aA(t u:DS):DS:=fun E δ S=>t { E with nx:=u E } δ S
def aB(e:DE)(g:DG):DS:=fun E δ S=>e δ S fun x S1=>g x δ S1 E.nx
def bW(e:DE):DS:=fun E δ S=>e δ S fun _ S1=>E.nx δ S1
def aC(e:DE):DS:=fun E δ S=>e δ S E.rt
def aK(c:DT)(t u:DS):DS:=fun E δ S=>c δ S fun b S1=>if b=true then t E δ S1 else u E δ S1
section
variable {t u:TS}{dt du:DS}{te:TE}{de:DE}
theorem fJ:RS pO aN:=fun h o H δ σ S E D he hs q c=>c.nx o H δ S σ Ex.refl he hs q
theorem zO(ht:RS t dt)(hu:RS u du):RS (dP t u) (aA dt du):=fun h o H δ σ S E D he hs q c=>
 ht h o H δ σ S _ _ he hs q ⟨fun o1 H1 δ1 S1 σ1 e1 z p q1=>hu h o1 H1 δ1 σ1 S1 E D z p q1 (c.pre e1),c.rt,c.bk,c.ct⟩
theorem bQ{g:TG}{dg:DG}(p:RE te de)(hg:RG g dg):RS (nM te g) (aB de dg):=fun h o H δ σ S E D he hs q c=>
 p h o H δ σ S _ _ he hs q fun o1 H1 S1 x v e1 s1 x1 d1=>hg h o1 H1 δ σ S1 x v _ _ (he.mono e1) s1 x1 d1 (c.nx.pre e1)
theorem lB(p:RE te de):RS (oQ te) (bW de):=fun h o H δ σ S E D he hs q c=>
 p h o H δ σ S _ _ he hs q fun o1 H1 S1 x v e1 s1 x1 d1=>c.nx o1 H1 δ S1 σ e1 (he.mono e1) s1 d1
theorem cG(p:RE te de):RS (oE te) (aC de):=fun h o H δ σ S E D he hs q c=>p h o H δ σ S _ _ he hs q c.rt
theorem fK{tc:TT}{dc:DT}(hc:RT tc dc)(ht:RS t dt)(hu:RS u du):RS (nY tc t u) (aK dc dt du):=fun h o H δ σ S E D he hs q c=>
 hc h o H δ σ S _ _ he hs q fun o1 H1 S1 b e1 s1 d1=>by
  cases b with
  |true=>exact iB (ht h o1 H1 δ σ S1 E D (he.mono e1) s1 (by simpa using d1) (c.pre e1))
  |false=>exact gM (hu h o1 H1 δ σ S1 E D (he.mono e1) s1 (by simpa using d1) (c.pre e1))
def frz(n:Nat)(ds:List be):Option XV->Option XV
 |some (.l k)=>if k=n then some (.d (.list ds))else some (.l k)
 |some (.p k d)=>if k=n then some (.d (.tuple [.list ds,d]))else some (.p k d)
 |y=>y
end
abbrev DI:=XE->Sto->(List be->Sto->Prop)->Prop
structure WalkX(h o:List Addr)(H:Hp)(J:It)(ds:List be):Prop where
 stop:∀(i:Nat) o2 H2,ExH h o H o2 H2->ds.length<=i->J.stop i H2
 go:∀(i:Nat) d o2 H2,ExH h o H o2 H2->ds[i]?=some d->J.go i H2
 yld:∀(i:Nat) d o2 H2 x H3 S2,ExH h o H o2 H2->RepS h o2 H2 S2->ds[i]?=some d->J.yld i H2 x H3->Same H2 H3/\Has (vx h o2 H3) d x
def RI(w:TI)(di:DI):Prop:=∀(h o:List Addr) (H:Hp) (δ:XE) (σ:St) (S:Sto) (R:List be->Sto->Prop) (Q:It->Hp->Prop),RepE h o H δ σ->RepS h o H S->di δ S R ->
 (∀o' H' S' ds J,Ex o H o' H'->RepS h o' H' S'->WalkX h o' H' J ds->R ds S'->Q J H')->w σ H Q
def hZ(e:DE):DI:=fun δ S R=>e δ S fun x S1=>asT x fun ds=>R ds S1
theorem Bt{K:bn}{te:TE}{de:DE}(p:RE te de):RI (pQ K te) (hZ de):=fun h o H δ σ S R Q he hs q c=>
 p h o H δ σ S _ _ he hs q fun o1 H1 S1 x v e1 s1 x1 d1=>by
  replace d1:=fX d1;obtain⟨ds,rfl,d1⟩:=d1;obtain⟨a,vs,rfl,ea,l⟩:=zX.mp (show Has _ _ _ from x1);have hl:=l.length;refine⟨a,rfl,⟨vs,.of (zH _ _ ea)⟩,c o1 H1 S1 ds _ e1 s1 ⟨fun i o2 H2 e2 hi=>⟨vs,.of (zH _ _ (e2.vx _ _ ea)),yw⟩,fun i d o2 H2 e2 hi=>?_,fun i d o2 H2 x H3 S2 e2 s2 hi y=>?_⟩ d1⟩
  ·obtain⟨v,ev,_⟩:=l.get hi;exact⟨vs,v,.of (zH _ _ (e2.vx _ _ ea)),ev⟩
  ·obtain⟨v,ev,hv⟩:=l.get hi;have e3:H3=H2:=y.1;subst e3;have ex:=y.2 vs (.of (zH _ _ (e2.vx _ _ ea)));rw[ev]at ex;cases ex;exact⟨Same.refl _,hv.mono e2.vx⟩
theorem C9{h o:List Addr}{H:Hp}{lo:Int}{n:Nat}:WalkX h o H (Itr lo n) (dG lo n) where
 stop:=fun i _ _ _ hi=>by rw[gC]at hi;exact hi
 go:=fun i d _ _ _ hi=>(jR hi).1
 yld:=fun i d o2 H2 x H3 S2 _ _ hi y=>by
  obtain⟨e,ex⟩:=y;subst e ex;rw[(jR hi).2];exact⟨Same.refl _,eV.mpr rfl⟩
def iZ(g:DG)(b:DS):List be->DS
 | [],E,δ,S=>E.nx δ S
 |d::ds,E,δ,S=>g (.d d) δ S fun δ1 S1=>b { nx:=fun δ2 S2=>iZ g b ds E δ2 S2,ct:=fun δ2 S2=>iZ g b ds E δ2 S2,bk:=E.nx,rt:=E.rt } δ1 S1
def bM(i:DI)(g:DG)(b:DS):DS:=fun E δ S=>i δ S fun ds S1=>iZ g b ds E δ S1
theorem iJ{wi:TI}{g:TG}{tb:TS}{di:DI}{dg:DG}{db:DS}(hi:RI wi di)(hg:RG g dg)(hb:RS tb db):RS (lY wi g tb) (bM di dg db):=fun h o H δ σ S E D he hs q c=>
 hi h o H δ σ S _ _ he hs q fun o1 H1 S1 ds J e1 s1 wk d1=>by
  refine⟨fun i m σ2 H2=>m=ds.length-i/\i<=ds.length/\∃o2 δ2 S2,Ex o1 H1 o2 H2/\RepE h o2 H2 δ2 σ2/\RepS h o2 H2 S2/\iZ dg db (ds.drop i) E δ2 S2,⟨ds.length,yv,zero_le _,o1,δ,S1,Ex.refl,he.mono e1,s1,d1⟩,?_⟩;rintro i m σ2 H2 ⟨rfl,hi,o2,δ2,S2,e2,af,ac,d2⟩;by_cases hlt:i<ds.length
  ·have ed:ds[i]?=some ds[i]:=eg hlt;rw[List.drop_eq_getElem_cons hlt]at d2;refine .inr ⟨wk.go i _ o2 H2 e2.hid ed,fun σ3 H3=>∃o3 δ3 S3,Ex o1 H1 o3 H3/\RepE h o3 H3 δ3 σ3/\RepS h o3 H3 S3/\iZ dg db (ds.drop (i+1)) E δ3 S3,fun σ3 H3 n=>⟨ds.length-(i+1),yw,rfl,hlt,n⟩,fun x H3 y=>?_⟩;obtain⟨s3,hx⟩:=wk.yld i _ o2 H2 x H3 S2 e2.hid ac ed y;have ae:Ex o2 H2 o2 H3:=Ex.of_same s3;refine hg h o2 H3 δ2 σ2 S2 (.d ds[i]) x _ _ (af.mono ae) (ac.same s3) hx d2 fun o4 H4 δ4 S4 σ4 e4 ag ah d4=>?_;have p:Ex o1 H1 o4 H4:=(e2.trans ae).trans e4;have ce:=(c.pre e1).pre p;exact hb h o4 H4 δ4 σ4 S4 _ _ ag ah d4 ⟨fun o5 H5 δ5 S5 σ5 e5 aa z d5=>⟨o5,δ5,S5,p.trans e5,aa,z,d5⟩,ce.rt,ce.nx,fun o5 H5 δ5 S5 σ5 e5 aa z d5=>⟨o5,δ5,S5,p.trans e5,aa,z,d5⟩⟩
  ·have ei:i=ds.length:=yw
   subst ei;rw[List.drop_length]at d2;exact .inl ⟨wk.stop _ o2 H2 e2.hid (cq _),c.nx o2 H2 δ2 S2 σ2 (e1.trans e2) af ac d2⟩
def aH:DT:=fun _ S R=>R true S
theorem eA:RT tJ aH:=fun h o H δ σ S R Q he hs q c=>c o H S true Ex.refl hs q
def bN(n:Nat)(g:DG)(tt:DT)(te:DE)(fin:Sto->Prop):List be->XE->Sto->Prop
 | [],_,S=>fin S
 |d::ds,τ,S=>g (.d d) τ S fun τ1 S1=>tt τ1 S1 fun b S2=>if b=true then te τ1 S2 fun x S3=>asD x fun e=>∃acc,S3[n]?=some acc/\acc.length<1000/\bN n g tt te fin ds τ1 (S3.set n (acc++[e]))else bN n g tt te fin ds τ1 S2
def fG(caps:List (Option Nat))(i:DI)(g:DG)(tt:DT)(te:DE):DE:=fun δ S R=>i δ S fun ds S1=>bN S1.length g tt te (fun S2=>R (.l S1.length) S2) ds (cY caps δ) (S1++[[]])
def b6(caps:List (Option Nat))(i:DI)(g:DG)(tt:DT)(te:DE):DE:=fun δ S R=>i δ S fun ds S1=>bN S1.length g tt te (fun S2=>∃S0 acc,S2=S0++[acc]/\S0.length=S1.length/\R (.d (.list acc)) S0) ds (cY caps δ) (S1++[[]])
theorem RepS.pop{h o r:List Addr}{H:Hp}{S0 T:Sto}(hs:RepS h (o++r) H (S0++T))(hl:S0.length=o.length):RepS h o H S0 where
 len:=hl
 nd:=(nodup_append.mp hs.nd).1
 dis:=fun a ha=>hs.dis a (fq _ ha)
 hal:=hs.hal
 cont:=fun k a ds e1 e2=>by
  obtain⟨vs,e3,l⟩:=hs.cont k a ds (eE e1) (eE e2);exact⟨vs,e3,l.mono fun b u e=>by
   obtain⟨z1,z2,z3⟩:=zM.mp e;exact zM.mpr ⟨z1,fun m=>z2 (fq _ m),z3⟩⟩
theorem cM{h o r:List Addr}{H:Hp}:Same (vx h (o++r) H) (vx h o H):=fun b u e=>by
 obtain⟨z1,z2,z3⟩:=zM.mp e;exact zM.mpr ⟨z1,fun m=>z2 (fq _ m),z3⟩
theorem Ex.pop{o o' r:List Addr}{H H':Hp}(e:Ex o H (o++r) H'):Ex o H o H':=⟨⟨[],yv⟩,fun b u hb eb=>⟨hb,(e.kp b u hb eb).2⟩⟩
theorem uC{caps:List (Option Nat)}{wi:TI}{g:TG}{tt:TT}{te:TE}{di:DI}{dg:DG}{ae:DT}{aa:DE}(hi:RI wi di)(hg:RG g dg)(ht:RT tt ae)(ai:RE te aa)
  {h o:List Addr}{H:Hp}{δ:XE}{σ:St}{S:Sto}{Q:VK}{fin:Nat->Sto->Prop} (he:RepE h o H δ σ) (hs:RepS h o H S) (q:di δ S fun ds S1=>bN S1.length dg ae aa (fin S1.length) ds (cY caps δ) (S1++[[]]))
  (c:∀o1 H1 D o2 H2 S2,Ex o H o1 H1->H1 D=none->Ex (o1++[D]) (upd H1 D (.lst [])) o2 H2->RepS h o2 H2 S2->fin o1.length S2->Q (.ref D) H2):jL caps wi g tt te σ H Q:=by
 refine hi h o H δ σ S _ _ he hs q fun o1 H1 S1 ds J e1 s1 wk d1 D hD=>?_;have eN:Ex o1 H1 (o1++[D]) (upd H1 D (.lst [])):=Ex.new s1 hD;have sN:RepS h (o1++[D]) (upd H1 D (.lst [])) (S1++[[]]):=s1.new hD (zx.mpr rfl);have hn:S1.length=o1.length:=s1.len;refine⟨fun i m τ H2=>m=ds.length-i/\i<=ds.length/\∃o2 δ2 S2,Ex (o1++[D]) (upd H1 D (.lst [])) o2 H2/\RepE h o2 H2 δ2 τ/\RepS h o2 H2 S2/\bN S1.length dg ae aa (fin S1.length) (ds.drop i) δ2 S2,⟨ds.length,yv,zero_le _,_,_,_,Ex.refl,((he.mono e1).mono eN).tau,sN,d1⟩,?_⟩;rintro i m τ H2 ⟨rfl,hi,o2,δ2,S2,e2,ak,ac,d2⟩;by_cases hlt:i<ds.length
 ·have ed:ds[i]?=some ds[i]:=eg hlt;rw[List.drop_eq_getElem_cons hlt]at d2;refine .inr ⟨wk.go i _ o2 H2 (eN.trans e2).hid ed,fun x H3 y=>?_⟩;obtain⟨s3,hx⟩:=wk.yld i _ o2 H2 x H3 S2 (eN.trans e2).hid ac ed y;have ag:Ex o2 H2 o2 H3:=Ex.of_same s3;refine hg h o2 H3 δ2 τ S2 (.d ds[i]) x _ _ (ak.mono ag) (ac.same s3) hx d2 fun o4 H4 δ4 S4 τ4 e4 p aj d4=>?_;refine ht h o4 H4 δ4 τ4 S4 _ _ p aj d4 fun o5 H5 S5 b e5 s5 d5=>?_;have af:=((e2.trans ag).trans e4).trans e5;cases b with
  |false=>exact gM ⟨ds.length-(i+1),yw,rfl,hlt,o5,δ4,S5,af,p.mono e5,s5,by simpa using d5⟩
  |true=>
   refine iB (ai h o5 H5 δ4 τ4 S5 _ _ (p.mono e5) s5 (by simpa using d5) fun o6 H6 S6 z v e6 s6 z6 d6=>?_);replace d6:=qX d6;obtain⟨e,rfl,acc,ea,hl,d6⟩:=d6;have ah:=af.trans e6;have eD:o6[S1.length]?=some D:=by
    obtain⟨r,rfl⟩:=ah.pre;rw[hn];exact eE (by rw[bp])
   obtain⟨vs,ev,l⟩:=s6.cont _ D acc eD ea;refine⟨vs,ev,by rw[l.length];exact small1000 (ji hl),ds.length-(i+1),yw,rfl,hlt,o6,δ4,_,ah.trans (Ex.upd eD),((p.mono e5).mono e6).mono (Ex.upd eD),s6.upd eD (l.append (zo.mpr ⟨v,[],rfl,z6,zx.mpr rfl⟩)),d6⟩
 ·have ei:i=ds.length:=yw
  subst ei;rw[List.drop_length]at d2;exact .inl ⟨wk.stop _ o2 H2 (eN.trans e2).hid (cq _),c o1 H1 D o2 H2 S2 e1 hD e2 ac (hn▸d2)⟩
theorem AA{caps:List (Option Nat)}{wi:TI}{g:TG}{tt:TT}{te:TE}{di:DI}{dg:DG}{z:DT}{p:DE}(hi:RI wi di)(hg:RG g dg)(ht:RT tt z)(aa:RE te p):RE (jL caps wi g tt te) (fG caps di dg z p):=fun h o H δ σ S R Q he hs q c=>by
 refine uC (fin:=fun n S2=>R (.l n) S2) hi hg ht aa he hs q fun o1 H1 D o2 H2 S2 e1 hD e2 s2 f=>?_;have eN:Ex o1 H1 (o1++[D]) (upd H1 D (.lst [])):=⟨⟨[D],rfl⟩,fun b w hb e=>by
  have ne:b≠D:=zr e hD;exact⟨by simp[hb,ne],by rw[zu ne];exact e⟩⟩
 refine c o2 H2 S2 (.l o1.length) _ ((e1.trans eN).trans e2) s2 ⟨D,?_,rfl⟩ f;obtain⟨r,rfl⟩:=e2.pre;exact eE (by rw[bp])
theorem hU{caps:List (Option Nat)}{wi:TI}{g:TG}{tt:TT}{te:TE}{di:DI}{dg:DG}{aa:DT}{z:DE}(hi:RI wi di)(hg:RG g dg)(ht:RT tt aa)(ac:RE te z):RE (jL caps wi g tt te) (b6 caps di dg aa z):=fun h o H δ σ S R Q he hs q c=>by
 refine uC (fin:=fun n S2=>∃(S0:Sto) (acc:List be),S2=S0++[acc]/\S0.length=n/\R (.d (.list acc)) S0) hi hg ht ac he hs q fun o1 H1 D o2 H2 S2 e1 hD e2 s2 ⟨S0,acc,eS,hl,f⟩=>?_;subst eS;have eN:Ex o1 H1 (o1++[D]) (upd H1 D (.lst [])):=⟨⟨[D],rfl⟩,fun b w hb e=>by
  have ne:b≠D:=zr e hD;exact⟨by simp[hb,ne],by rw[zu ne];exact e⟩⟩
 have p:=eN.trans e2;obtain⟨r,rfl⟩:=e2.pre;have er:r=[]:=by
  have:=s2.len;simp only[bx,fj,hl]at this;exact gj yw
 subst er;rw[gu]at s2 p;have s0:RepS h o1 H2 S0:=s2.pop hl;refine c o1 H2 S0 (.d (.list acc)) _ (e1.trans (Ex.pop (o':=o1) p)) s0 ?_ f;obtain⟨vs,ev,l⟩:=s2.cont o1.length D acc (by rw[bp]) (by rw[<- hl,bp]);have nD:D∉o1:=by
  have:=(nodup_append.mp s2.nd).2.2;intro m;exact this D m D yv rfl
 exact zZ.mpr ⟨D,vs,rfl,zM.mpr ⟨s2.dis D yv,nD,ev⟩,l.mono cM⟩
def fin(n:Nat)(R:RX):RX:=fun y S'=>match y with
 | .l k=>if k<n then R (.l k) (S'.take n)else ∃ds,S'[k]?=some ds/\(R (.d (.list ds)) (S'.take n)\/R (.l n) (S'.take n++[ds]))
 | .p k d=>n<=k/\∃ds,S'[k]?=some ds/\R (.p n d) (S'.take n++[ds])
 |y=>R y (S'.take n)
theorem xD{h o r:List Addr}{H H':Hp}{S S':Sto}{k:Nat}{a:Addr}{ds:List be}(hs:RepS h o H S)(e:Ex o H (o++r) H')(s':RepS h (o++r) H' S')(hk:¬ k<S.length)(ea:(o++r)[k]?=some a)(p:S'[k]?=some ds):
  Ex o H (o++[a]) H'/\Same (vx h (o++r) H') (vx h (o++[a]) H')/\RepS h (o++[a]) H' (S'.take S.length++[ds]):=by
 have eS:S'=S'.take S.length++S'.drop S.length:=(take_append_drop _ _).symm;have hl:(S'.take S.length).length=o.length:=by
  have:=s'.len;rw[bx]at this;rw[jl,this,hs.len];omega
 have s0:RepS h o H' (S'.take S.length):=by
  rw[eS]at s';exact s'.pop hl
 have e0:Ex o H o H':=Ex.pop (o':=o) e;obtain⟨vs,ev,l⟩:=s'.cont k a ds ea p;have na:a∉o:=fun m=>by
  obtain⟨j,ej⟩:=mem_iff_getElem?.mp m;have hj:j<o.length:=(List.getElem?_eq_some_iff.mp ej).1;have:=mG s'.nd (eE (t:=r) ej) ea;rw[hs.len]at hk;omega
 have nh:a∉h:=s'.dis a (cn ea);have hn:H a=none:=by
  cases eh:H a with
  |none=>rfl
  |some u=>exact absurd (cn ea) (e.kp a u na eh).1
 have e1:Ex o H (o++[a]) H':=⟨⟨[a],rfl⟩,fun b u hb eb=>⟨by simp only[mem_append,mem_singleton,not_or];exact⟨hb,zr eb hn⟩,(e0.kp b u hb eb).2⟩⟩;have sub:Same (vx h (o++r) H') (vx h (o++[a]) H'):=fun b u eb=>by
  obtain⟨z1,z2,z3⟩:=zM.mp eb;refine zM.mpr ⟨z1,?_,z3⟩;simp only[mem_append,mem_singleton,not_or];exact⟨fun m=>z2 (fq _ m),fun z=>z2 (by rw[z];exact cn ea)⟩
 refine⟨e1,sub,⟨by rw[bx,bx,hl];rfl,oF hs.nd na,fun b hb=>?_,s0.hal,fun j b es q1 q2=>?_⟩⟩
 ·rcases mem_append.mp hb with hb|hb
  ·exact hs.dis b hb
  ·rw[mem_singleton.mp hb];exact nh
 ·by_cases hj:j<o.length
  ·rw[cr hj]at q1;rw[cr (by rw[hl];exact hj),List.getElem?_take_of_lt (by rw[hs.len];exact hj)]at q2;obtain⟨ws,e3,l3⟩:=s'.cont j b es (eE q1) q2;exact⟨ws,e3,l3.mono sub⟩
  ·have aa:j=o.length:=by
    obtain⟨q,_⟩:=List.getElem?_eq_some_iff.mp q1;rw[bx,fj]at q;omega
   subst aa;rw[bp]at q1;rw[<- hl,bp]at q2;cases q1;cases q2;exact⟨vs,ev,l.mono sub⟩
theorem xJ{h o:List Addr}{H:Hp}{S:Sto}{R:RX}{Q:VK}(hs:RepS h o H S)(c:Cn h o H R Q):Cn h o H (fin S.length R) Q:=fun o' H' S' y v e s' hy q=>by
 obtain⟨r,rfl⟩:=e.pre;have eS:S'=S'.take S.length++S'.drop S.length:=(take_append_drop _ _).symm;have hl:(S'.take S.length).length=o.length:=by
  have:=s'.len;rw[bx]at this;rw[jl,this,hs.len];omega
 have s0:RepS h o H' (S'.take S.length):=by
  rw[eS]at s';exact s'.pop hl
 have e0:Ex o H o H':=Ex.pop (o':=o) e;cases y with
 |d d=>exact c o H' _ (.d d) v e0 s0 (Has.mono cM d v hy) q
 |o w=>exact c o H' _ (.o w) v e0 s0 hy q
 |x C fs=>exact c o H' _ (.x C fs) v e0 s0 (HasE.mono cM hy) q
 |p k d=>
  obtain⟨hk,ds,z,q⟩:=q;obtain⟨t,a,u,rfl,ea,et,hu⟩:=hy;obtain⟨e1,sub,s1⟩:=xD hs e s' yw ea z;exact c (o++[a]) H' _ (.p S.length d) _ e1 s1 ⟨t,a,u,rfl,by rw[hs.len,bp],sub _ _ et,Has.mono sub _ _ hu⟩ q
 |l k=>
  unfold fin at q;by_cases hk:k<S.length
  ·simp only[hk,↓reduceIte]at q;obtain⟨a,ea,rfl⟩:=hy;exact c o H' _ (.l k) _ e0 s0 ⟨a,by rw[cr (by rw[<- hs.len];exact hk)]at ea;exact ea,rfl⟩ q
  ·simp only[hk,↓reduceIte]at q;obtain⟨ds,z,q⟩:=q;obtain⟨a,ea,rfl⟩:=hy;obtain⟨vs,ev,l⟩:=s'.cont k a ds ea z;have na:a∉o:=fun m=>by
    obtain⟨j,ej⟩:=mem_iff_getElem?.mp m;have hj:j<o.length:=(List.getElem?_eq_some_iff.mp ej).1;have:=mG s'.nd (eE (t:=r) ej) ea;rw[hs.len]at hk;omega
   have nh:a∉h:=s'.dis a (cn ea);rcases q with q|q
   ·exact c o H' _ (.d (.list ds)) _ e0 s0 (zZ.mpr ⟨a,vs,rfl,zM.mpr ⟨nh,na,ev⟩,l.mono cM⟩) q
   ·obtain⟨e1,sub,s1⟩:=xD hs e s' hk ea z;exact c (o++[a]) H' _ (.l S.length) _ e1 s1 ⟨a,by rw[hs.len,bp],rfl⟩ q
def aG(n:Nat)(R:RX):DEnds:={ nx:=fun _ S'=>fin n R (.d .none) S',rt:=fin n R }
theorem eok{h o:List Addr}{H:Hp}{S:Sto}{R:RX}{Q:VK}(hs:RepS h o H S)(c:Cn h o H R Q):EOk h o H (aG S.length R) { nx:=fun _ H'=>Q .non H',rt:=Q } :=
 ⟨fun o' H' δ' S' σ' e he p q=>xJ hs c o' H' S' _ _ e p xN q,xJ hs c,fun _ _ _ _ _ _ _ _ q=>q.elim,fun _ _ _ _ _ _ _ _ q=>q.elim⟩
def aT(p:List be):Prop:=∃l g s:Int,p=[.int l,.int g,.int s]/\0<=l
end
section
def vX(K:bn):List V->Hp->VK->Prop:=fun xs H Q=>∃(p:Addr) (bs:List Bool),xs=[.ref p]/\SqL K H p (bs.map V.bl)/\Q (.bl (bs.all id)) H
theorem pD:fk "all" = some (.builtin "all"):=by decide +kernel
section
variable {X:Cx}
theorem wE:∀{bs:List Bool}{us:List bc}{i:Nat}{v:bc},Vals (bs.map V.bl) us->us[i]?=some v->∃b,bs[i]?=some b/\v=.bool b
 | [],_,i,v,.nil,e=>by simp at e
 |b::bs,_,0,v,.cons r _,e=>by
  rw[getElem?_cons_zero]at e;cases e;exact⟨b,rfl,r⟩
 |b::bs,_,i+1,v,.cons _ t,e=>by
  obtain⟨c,e1,e2⟩:=wE (i:=i) (v:=v) t (by simpa using e);exact⟨c,by simpa using e1,e2⟩
theorem Co(bs:List Bool):((fy bs.length).all fun i=>(bs[i]?).getD true)=bs.all id:=by
 rw[Bool.eq_iff_iff,all_eq_true,all_eq_true];constructor
 ·intro h b hb;obtain⟨i,hi⟩:=mem_iff_getElem?.mp hb;have hl:=(List.getElem?_eq_some_iff.mp hi).1;have:=h i (mem_range.mpr hl);rw[hi]at this;exact this
 ·intro h i hi;have hl:=mem_range.mp hi;rw[eg hl];exact h _ (getElem_mem hl)
theorem qA(hc:X.calm=true):CallR X (.builtin "all") (vX X.K):=by
 intro zc s σ H xs us Q I r h;obtain⟨p,bs,rfl,hq,q⟩:=h;obtain⟨u,rfl,rx⟩:=vals1 r;cases (show u=cg p from rx);obtain⟨z,rv,pl,_⟩:=I.list hq;have hl:=pl.isList;have ac:p<s.heap.objs.size:=by
  obtain⟨_,e,_⟩:=hl;exact cv e
 refine call_all_walk (x:=cg p) (wpAny_pyIter_list hl ?_);refine⟨s.heap.objs.size,[s.heap.objs.size,p],[s.heap.objs.size],z.toArray.size,_,_,fun i=>(bs[i]?).getD true,rfl,
  Walks.list (A:=X.A.in1) (I.ok.hd hc) _ p (ie ac) z.toArray,⟨⟨_,bu _ rfl,rfl,rfl⟩,hl.push _⟩,fun i v s' Q' E' hP hQ=>?_,fun h' tk hk=>?_⟩
 ·obtain⟨b,e,rfl⟩:=wE (i:=i) (v:=v) rv (by simpa using hP);have aa:Q' b s':=by simpa[e]using hQ
  exact jj aa
 ·have hz:z.toArray.size=bs.length:=by
   have:=rv.length;rw[cp]at this;simp[this]
  rw[hz,Co];refine⟨.bl _,H,I.kept (t':=tk) fun b o e=>hk b o (fun hm=>?_) (bg _ e),rfl,q⟩;rw[mem_singleton.mp hm]at e;exact iy _ (cv e)
end
def lL:List XV->Sto->RX->Prop:=fun xs S R=>arg1 xs fun x=>∃ds,cA S x=some ds/\∃ns:List Int,ds=ns.map cz/\R (.d (.int ns.sum)) S
theorem yZ{H:Hp}:∀{ns:List Bool}{vs:List V},HasL H (ns.map jm) vs->vs=ns.map V.bl
 | [],vs,h=>zx.mp h
 |n::ns,vs,h=>by
  obtain⟨v,r,rfl,h1,h2⟩:=zo.mp h;rw[gH.mp h1,yZ h2];rfl
def eQ:List XV->Sto->RX->Prop:=fun xs S R=>arg1 xs fun x=>∃ds,cA S x=some ds/\∃ns:List Bool,ds=ns.map jm/\R (.d (.bool (ns.all id))) S
theorem o0{K:bn}:RC (vX K) eQ:=fun h o H S xs vs R Q hs hx q c=>by
 obtain⟨x,rfl,ds,hd,ns,rfl,q1⟩:=cL q;obtain⟨v,rfl,p⟩:=hxs1 hx;obtain⟨a,ws,rfl,ea,l⟩:=bE hs hd p;rw[yZ l]at ea;exact⟨a,ns,rfl,.of ea,c o H S _ _ Ex.refl hs (xB _) q1⟩
section
variable {S:Sto}{i:Int}{b:Bool}{z:Str}{ds:List be}{d:be}{k:Nat}{x y:XV}{R:RX}{c:String}{p:List be}{n:Nat}{v:V}
theorem nC{K:Int->Prop}:asI (.d (.int i)) K=K i:=rfl
theorem jH{K:Bool->Prop}:asB (.d (.bool b)) K=K b:=rfl
theorem m4{K:Str->Prop}:asS (.d (.str z)) K=K z:=rfl
theorem k7{K:List be->Prop}:asT (.d (.tuple ds)) K=K ds:=rfl
theorem kK{K:be->Prop}:asD (.d d) K=K d:=rfl
theorem mK:cA S (.d (.list ds))=some ds:=rfl
theorem mO:asQ S (.l k)=S[k]?:=rfl
theorem kA:bZ S (.d d)=some d:=rfl
theorem j8:bZ S (.l k)=(S[k]?).map .list:=rfl
theorem kS:ret0 S R (.d d) []=R (.d d) S:=rfl
theorem jM:ret0 S R (.l 0) [ds]=R (.l S.length) (S++[ds]):=rfl
theorem nB:oB k S R (.d d) [p]=R (.d d) (S.set k p):=rfl
theorem jP:fin n R (.d d) S=R (.d d) (S.take n):=rfl
theorem lR:fin n R (.l k) S=if k<n then R (.l k) (S.take n)else ∃ds,S[k]?=some ds/\(R (.d (.list ds)) (S.take n)\/R (.l n) (S.take n++[ds])):=rfl
theorem mI{K:XV->Prop}:arg1 [x] K=K x:=rfl
theorem mU{K:XV->XV->Prop}:arg2 [x,y] K=K x y:=rfl
theorem nE{K:String->Prop}:qH (.o (.ty c)) K↔K c:=⟨fun⟨_,e,q⟩=>by cases e;exact q,fun q=>⟨c,rfl,q⟩⟩
theorem lK{K:Int->Prop}:qO (.d (.bool b)) K=K (if b then 1 else 0):=rfl
theorem mW{δ:XE}:(aG n R).nx δ S=fin n R (.d .none) S:=rfl
theorem mE:(aG n R).rt x S=fin n R x S:=rfl
theorem kF:datas []=some []:=rfl
theorem lP{r:List XV}:datas (.d d::r)=(datas r).map (d :: ·):=rfl
end
theorem l7{α:Type}{a:α}{l:List α}:atI (a::l) 0=some a:=dR (j:=0) rfl
theorem lT{α:Type}{a b:α}{l:List α}:atI (a::b::l) 1=some b:=dR (j:=1) rfl
theorem mC{α:Type}{a b c:α}{l:List α}:atI (a::b::c::l) 2=some c:=dR (j:=2) rfl
theorem jS{α:Type}{a b c d:α}{l:List α}:atI (a::b::c::d::l) 3=some d:=dR (j:=3) rfl
theorem lJ{α:Type}{a b c d e:α}{l:List α}:atI (a::b::c::d::e::l) 4=some e:=dR (j:=4) rfl
def Shp(n:Nat)(d:be):Prop:=d.canLay0=true/\d.depth<=n
theorem A8{n:Nat}{i:Int}:Shp n (.int i):=⟨rfl,zero_le _⟩
theorem w6{n:Nat}{i:Bool}:Shp n (.bool i):=⟨rfl,zero_le _⟩
theorem pI{n:Nat}:∀{ds:List be},(∀d∈ds,Shp n d)->ir ds=true/\kl ds<=n
 | [],_=>⟨by simp only[ir],by simp only[kl];exact zero_le _⟩
 |d::ds,h=>by
  obtain⟨h1,h2⟩:=h d dm;obtain⟨h3,h4⟩:=pI (ds:=ds) fun e m=>h e (ck _ m);simp only[ir,kl,h1,h3,Bool.and_true,true_and];omega
theorem v8{n:Nat}{ds:List be}(h:∀d∈ds,Shp n d):Shp (n+1) (.list ds):=by
 obtain⟨h1,h2⟩:=pI h;exact⟨by simp only[ja];exact h1,by simp only[PyData.depth];omega⟩
theorem A3{n:Nat}{ds:List be}(h:∀d∈ds,Shp n d):Shp (n+1) (.tuple ds):=by
 obtain⟨h1,h2⟩:=pI h;exact⟨by simp only[ja];exact h1,by simp only[PyData.depth];omega⟩
theorem rQ{α:Type}{n:Nat}{f:α->be}{l:List α}(h:∀x∈l,Shp n (f x)):∀d∈l.map f,Shp n d:=fun d m=>by
 obtain⟨x,hx,rfl⟩:=mem_map.mp m;exact h x hx
theorem Shp.ok{n:Nat}{d:be}(h:Shp n d)(hn:n<=64:=by decide):dq d=true:=by
 unfold dq;rw[h.1,decide_eq_true (gg h.2 hn)];rfl
theorem cS{g:DG}{b:DS}{E:DEnds}:∀{ds:List be}{δ:XE}{S:Sto} (I:Nat->XE->Sto->Prop),I 0 δ S ->
  (∀i d δ S (N:XE->Sto->Prop),ds[i]?=some d->I i δ S->(∀ δ' S',I (i+1) δ' S'->N δ' S')->g (.d d) δ S fun δ1 S1=>b { nx:=N,ct:=N,bk:=E.nx,rt:=E.rt } δ1 S1) ->
  (∀ δ S,I ds.length δ S->E.nx δ S)->iZ g b ds E δ S
 | [],δ,S,I,h0,_,fin=>fin δ S h0
 |d::ds,δ,S,I,h0,step,fin=>by
  show g (.d d) δ S fun δ1 S1=>b _ δ1 S1;refine step 0 d δ S _ rfl h0 fun δ' S' h1=>?_;exact cS (ds:=ds) (fun i=>I (i+1)) h1 (fun i e δ S N hi=>step (i+1) e δ S N (by simpa using hi)) fin
theorem wW{α:Type}{l:List α}{a b:α}{n:Nat}(h:l.length=n):(l++[a]).set n b=l++[b]:=by
 subst h;rw[List.set_append_right _ _ (cq _),Nat.sub_self];rfl
theorem B6{H:Hp}:RepS [] [] H []:=⟨rfl,nodup_nil,fun _ h=>(nomatch h),fun _ h=>(nomatch h),fun _ _ _ e=>(by simp at e)⟩
theorem Ex.same_nil{o':List Addr}{H H':Hp}(e:Ex [] H o' H'):Same H H':=fun b u q=>(e.kp b u yv q).2
theorem FP{K:bn}{a:Addr}{ns:List Int}{N:Int}{j m:Nat}{tb:TS}{db:DS}{D:Ends}{σ:St}{H:Hp}(hb:RS tb db)(h0:σ[0]?=some (some (.ref a)))(hl:σ.length=m+1)(hS:SqL K H a (ns.map V.int))(p:ns.length<=63)
  (turn:∀n:Int,db { nx:=fun δ _=>δ[0]?=some (some (.o (.ref a)))/\δ.length=m+1,ct:=fun δ _=>δ[0]?=some (some (.o (.ref a)))/\δ.length=m+1,rt:=fun _ _=>False } ((some (.o (.ref a))::bh m none).set j (some (.d (.int n)))) [])
  (hj:j≠0) (done:∀(σ:St) (H1:Hp),Same H H1->D.nx σ H1):
  lY (rB K (tOp i3 (iI (iS (tC2 (pK K) (cB 0) (tC (.int 0))) iF)) (tSl (kQ K) (cB 0) (i7 (tC (.int 1))) (i7 (tC (.int N)))))) (iR j) tb D σ H:=by
 refine AS (a:=a) (ns:=ns) (fun σ=>σ[0]?=some (some (.ref a))/\σ.length=m+1) h0 hS p ⟨h0,hl⟩ ?_ fun σ H1 _ s=>done σ H1 s;rintro n σ1 H1 H2 ⟨z0,z1⟩ s1 s2;refine hb [] [] H2 _ _ [] _ _ ⟨by simp[z1],fun i x e=>?_⟩ B6 (turn n) ⟨?_,fun _ _ _ _ _ _ _ _ q=>q.elim,fun _ _ _ _ _ _ _ _ q=>q.elim,?_⟩
 ·rw[List.getElem?_set]at e ⊢;by_cases hij:j=i
  ·rw[dw hij]at e ⊢;by_cases hjl:j<m+1
   ·rw[dw (by simpa using hjl)]at e;rw[dw (by rw[z1];exact hjl)];cases e;exact⟨.int n,rfl,xI n⟩
   ·rw[cf (by simpa using hjl)]at e;cases e
  ·rw[cf hij]at e ⊢;cases i with
   |zero=>
    cases e;exact⟨.ref a,z0,rfl⟩
   |succ i=>
    rw[getElem?_cons_succ,List.getElem?_replicate]at e;split at e<;>cases e
 ·rintro o' H' δ' S' σ' e he hs ⟨q1,q2⟩;obtain⟨v,ev,hv⟩:=he.get 0 _ q1;cases hv;exact⟨s2.trans e.same_nil,ev,by rw[<- he.len];exact q2⟩
 ·rintro o' H' δ' S' σ' e he hs ⟨q1,q2⟩;obtain⟨v,ev,hv⟩:=he.get 0 _ q1;cases hv;exact⟨s2.trans e.same_nil,ev,by rw[<- he.len];exact q2⟩
end
section
theorem EK{P:bw}{w:df}{K:bn}{tg:Expr}(it:Addr)(lo:Int)(n:Nat):Turn P w K tg (Itr lo n) [it] it (fun i h=>IsLongIter h it (lo+(i:Nat)*1) ((n:Int)-(i:Nat)) 1) where
 mem:=by simp
 obj:=fun i h st b hb=>by
  have e:b=it:=by simpa using hb
  subst e;exact⟨_,st,fun v z=>by
   have z':Data.fields _=Data.cell v:=z;cases z'⟩
 keep:=fun i h h' st k=>k it yv _ st
 item:=by
  intro X hP hw hK hc i zc s σ H E I hf st hg;subst hP hw hK;obtain⟨f0,f1,f2,f3,f4,f5⟩:=hf it yv;have W:=Walks.longrange (prog:=X.prog) (w:=X.w) (I.ok.hd hc) it lo 1 n;refine W.item i s _ _ hg st fun v h' tk hv p kk=>?_;obtain⟨t,rfl⟩:=hv;have I1:Inv X zc σ H { s with heap:=h',toks:=tk }:=I.turned (fun b o hb e=>kk b o (by simpa using hb) e) f0 f1 f3 f4 f5;refine⟨_,rfl,i0 (s:={ s with heap:=h',toks:=tk }) (n:="longrange_iterator") p rfl rfl dz ⟨.int (lo+i),H,I1,⟨t,?_⟩,⟨rfl,rfl⟩,p,fun b hb=>(hf b hb).1⟩⟩;rw[Int.mul_one]
 done:=by
  intro X hP hw hK hc i zc s σ H E I hf st hg;subst hP hw hK;obtain⟨f0,f1,f2,f3,f4,f5⟩:=hf it yv;exact wpAny_pyNext_long_end (I.ok.hd hc) st (by have:n<=i:=hg;omega) fun h' eb=>⟨rfl,I.turned (t':=s.toks) (fun b o hb e=>eb b o hb e) f0 f1 f3 f4 f5⟩
 self:=fun _ _ _ _ _ st h=>wpAny_pyIter_longiter st h
section
variable {X:Cx}{tg:Expr}
theorem Ae{zc:List (Addr×Obj)}{σ:St}{H:Hp}{s:bd}{R:It->Hp->Prop}{E:bc->bd->Prop}{lo hi:Int}{t u v:Tok}{tk:Nat}(I:Inv X zc σ H s)
  (q:R (Itr lo (hi-lo).toNat) H):bq (model X.prog X.w) X.A (pyIter (.ref s.heap.objs.size)) (PIE X zc σ tg R) E { s with heap:=s.heap.push { cls:=.type "range",data:=.fields #[.int lo t,.int hi u,.int 1 v] },toks:=tk }:=by
 have I1:Inv X zc σ H { s with heap:=s.heap.push { cls:=.type "range",data:=.fields #[.int lo t,.int hi u,.int 1 v] },toks:=tk }:=I.kept fun b o e=>bg _ e;have e1:lo+((0:Nat):Int)*1=lo:=by simp
 have e2:(((hi-lo).toNat:Nat):Int)-((0:Nat):Int)=ib lo hi 1:=by rw[rangeSize_one];split<;>omega
 cases hsm:Builtin.Range.small lo hi 1 with
 |true=>
  refine wpAny_pyIter_range (IsRange.new ..) hsm ?_;refine⟨(s.heap.push { cls:=.type "range",data:=.fields #[.int lo t,.int hi u,.int 1 v] }).objs.size,[(s.heap.push { cls:=.type "range",data:=.fields #[.int lo t,.int hi u,.int 1 v] }).objs.size],_,_,H,rfl,
   I1.kept (t':=tk) fun b o e=>bg _ e,BG _ lo (hi-lo).toNat,?_,fun b hb=>?_,q⟩
  ·show IsRangeIter _ _ (lo+((0:Nat):Int)*1) ((((hi-lo).toNat:Nat):Int)-((0:Nat):Int)) 1;rw[e1,e2];exact bu _ rfl
  ·have e:b=(s.heap.push { cls:=.type "range",data:=.fields #[.int lo t,.int hi u,.int 1 v] }).objs.size:=by simpa using hb
   subst e;exact I1.fpOk (cq _) (I1.hok.fresh (cq _))
 |false=>
  refine wpAny_pyIter_longrange (IsRange.new ..) hsm ?_;refine⟨(s.heap.push { cls:=.type "range",data:=.fields #[.int lo t,.int hi u,.int 1 v] }).objs.size,[(s.heap.push { cls:=.type "range",data:=.fields #[.int lo t,.int hi u,.int 1 v] }).objs.size],_,_,H,rfl,
   I1.kept (t':=tk) fun b o e=>bg _ e,EK _ lo (hi-lo).toNat,?_,fun b hb=>?_,q⟩
  ·show IsLongIter _ _ (lo+((0:Nat):Int)*1) ((((hi-lo).toNat:Nat):Int)-((0:Nat):Int)) 1;rw[e1,e2];exact bu _ rfl
  ·have e:b=(s.heap.push { cls:=.type "range",data:=.fields #[.int lo t,.int hi u,.int 1 v] }).objs.size:=by simpa using hb
   subst e;exact I1.fpOk (cq _) (I1.hok.fresh (cq _))
def yE(ta:TA):TI:=fun σ H R=>ta σ H fun vs H1=>∃j:Int,vs=[.int j]/\R (Itr 0 j.toNat) H1
theorem gF{a:Expr}{ta:TA}{p pos:Pos}(hg:Gl X "range")(hm:X.mg "range" = none)(ha:PA X [a] ta)(hs:bv [a] X.env=[(false,eval a X.env)]:=by rfl):PI X tg (.Call (.Name "range" p) [a] [] pos) (yE ta):=by
 intro zc s σ H R I h;refine Call_ (fD I hg hm boot_range (fz (thn (ha pos zc s σ H _ I h) fun us s1 ⟨vs,H1,I1,r1,q1⟩=>?_) hs rfl));obtain⟨j,e,q⟩:=q1;subst e;cases r1 with
 |cons r rr=>
  cases rr;obtain⟨t,rfl⟩:=r;exact call_range_1 (Ae I1 (by simpa using q))
end
def bY(a:DA):DI:=fun δ S R=>a δ S fun xs S1=>arg1 xs fun x=>asI x fun j=>R (dG 0 j.toNat) S1
def kH(a:DA):DI:=fun δ S R=>a δ S fun xs S1=>arg2 xs fun x y=>asI x fun i=>asI y fun j=>R (dG i (j-i).toNat) S1
theorem i6{ta:TA}{da:DA}(ha:RA ta da):RI (yE ta) (bY da):=fun h o H δ σ S R Q he hs q c=>
 ha h o H δ σ S _ _ he hs q fun o1 H1 S1 xs vs e1 s1 x1 d0=>by
  obtain⟨x,rfl,d2⟩:=cL d0;obtain⟨j,rfl,d1⟩:=aW d2;obtain⟨v,rfl,hv⟩:=hxs1 x1;rw[aS hv];exact⟨j,rfl,c o1 H1 S1 _ _ e1 s1 C9 d1⟩
end
section
open Sem (wp)
open AutoSeq1 (wpAny_loadPart')
section
variable {X:Cx}{zc:List (Addr×Obj)}{σ:St}{H:Hp}{s:bd}{h':Heap}
theorem Inv.turnLaid{t':Nat}{ch:List Addr}{T:Addr}{o:HO}(I:Inv X zc σ H s)(k:∀b u,b∉ch->s.heap.get? b=some u->h'.get? b=some u)(hf:∀b∈ch,FpOk X zc H b)(hT:s.heap.objs.size<=T)
  (new:ObjOk X.prog X.w (upd H T o) h' T o):Inv X zc σ (upd H T o) { s with heap:=h',toks:=t' }:=by
 have hn:H T=none:=I.hok.fresh hT;have p:∀b u,H b=some u->b∉ch:=fun b u e m=>by rw[(hf b m).1]at e;cases e
 have aa:∀b u,s.heap.get? b=some u->b≠T:=fun b u e z=>absurd (ef (cv e) hT) (by rw[z];exact iy _);have up:∀b u,H b=some u->upd H T o b=some u:=fun b u e=>(zu (zr e hn)).trans e;refine I.step (g':=s.gens) (d':=s.drawn) (ch:=ch) (fun b hb=>?_) (fun b u _ _ hc e _=>k b u hc e) (fun b u _ _ hc e _=>⟨u.slots,k b u hc e⟩) (fun b u _ e n=>(zu (aa b u e)).trans n)
  (fun b u hc e=>⟨u,k b u hc e⟩) (fun b xs e=>up b _ e) (fun b u v e=>up b _ e) (fun b ps e=>up b _ e) (fun m hm=>?_) (fun b u e=>?_) I.bare
 ·obtain⟨_,f1,_,f3,f4,f5⟩:=hf b hb;exact⟨f3,f1,f4,f5⟩
 ·obtain⟨ob,es,ep,ho,r⟩:=hm;exact⟨ob,es,ep,k _ ob (fun z=>(hf _ z).2.1 rfl) ho,r⟩
 ·by_cases hb:b=T
  ·subst hb;rw[zJ]at e;cases e;exact new
  ·rw[zu hb]at e;refine(I.hok b u e).stay (fun c v hc q=>k c v ?_ q) (fun c q=>up c _ q) (fun c xs q=>up c _ q) fun c o u q=>up c _ q;rcases hc with z|z
   ·rw[z];exact p b u e
   ·exact p c _ z
theorem Inv.turnedN{t':Nat}{ch:List Addr}(I:Inv X zc σ H s)(k:∀b u,b∉ch->s.heap.get? b=some u->h'.get? b=some u)(hf:∀b∈ch,FpOk X zc H b):Inv X zc σ H { s with heap:=h',toks:=t' }:=by
 have p:∀b u,H b=some u->b∉ch:=fun b u e m=>by rw[(hf b m).1]at e;cases e
 refine I.step (g':=s.gens) (d':=s.drawn) (ch:=ch) (fun b hb=>?_) (fun b u _ _ hc e _=>k b u hc e) (fun b u _ _ hc e _=>⟨u.slots,k b u hc e⟩) (fun b u _ e n=>n)
  (fun b u hc e=>⟨u,k b u hc e⟩) (fun b xs e=>e) (fun b u v e=>e) (fun b ps e=>e) (fun m hm=>?_) (fun b u e=>?_) I.bare
 ·obtain⟨_,f1,_,f3,f4,f5⟩:=hf b hb;exact⟨f3,f1,f4,f5⟩
 ·obtain⟨ob,es,ep,ho,r⟩:=hm;exact⟨ob,es,ep,k _ ob (fun z=>(hf _ z).2.1 rfl) ho,r⟩
 ·refine(I.hok b u e).stay (fun c v hc q=>k c v ?_ q) (fun _ q=>q) fun _ _ q=>q;rcases hc with z|z
  ·rw[z];exact p b u e
  ·exact p c _ z
end
section
variable {prog:bw}{w:df}{A:cw}{E:bc->bd->Prop}{s:bd}
theorem Am{j t:Addr}{i:Nat}{vs:Array bc}{x:bc}{Q:bc->bd->Prop}(hj:s.heap.IsTupleIter j t i)(ht:s.heap.IsTuple t vs)(hx:vs[i]?=some x)
  (hQ:∀g,g.IsTupleIter j t (i+1)->fc j s.heap g->Q x { s with heap:=g }):bq (model prog w) A (dn (.ref j)) Q E s:=by
 obtain⟨oj,ej,cj,dj⟩:=id hj;obtain⟨ot,et,_,nt,dt⟩:=ht;unfold dn;refine bb (fr (name:=jx "__next__") hj.typeIs F.slot_tuple_iterator_next (gw F.slot_tuple_iterator_next hj.typeIs F.entry_tuple_iterator_next ?_ (F.args_tuple_iterator_next_1 _)));show bq _ _ (field (.ref j) 0 >>= _) _ _ s;refine bb (cy ej dj (x:=.ref t) rfl ?_);show bq _ _ (ite ((cg t==cu)=true) _ _) _ _ s;refine(cf (show ¬((cg t==cu)=true)from gc))▸?_;show bq _ _ (field (.ref j) 1 >>= _) _ _ s;refine bb (cy ej dj (x:=.int i 0) rfl ?_);refine bb (m:=seqItems? (.ref t)) (ig et dt ?_);simp only[hx,Int.toNat_natCast];refine bb (ii ej dj yv (bo ⟨x,rfl,bo (hQ _ ⟨_,ft _ ej (gi (ge dj _)),(Obj.cls_mapFields ..).trans cj,?_⟩ (jq ..))⟩));rw[ge dj];simp[ix]
theorem FQ{j t:Addr}{i:Nat}{vs:Array bc}{Q:bc->bd->Prop}(hh:A.handled=none)(hj:s.heap.IsTupleIter j t i)(ht:s.heap.IsTuple t vs)(hx:vs[i]?=none)
  (hE:∀g e,Heap.ExtBut j s.heap g->(∃o,g.get? e=some o/\o.cls=.type "StopIteration")->E (.ref e) { s with heap:=g }):bq (model prog w) A (dn (.ref j)) Q E s:=by
 obtain⟨oj,ej,cj,dj⟩:=id hj;obtain⟨ot,et,_,nt,dt⟩:=ht;unfold dn;refine bb (fr (name:=jx "__next__") hj.typeIs F.slot_tuple_iterator_next (gw F.slot_tuple_iterator_next hj.typeIs F.entry_tuple_iterator_next ?_ (F.args_tuple_iterator_next_1 _)));show bq _ _ (field (.ref j) 0 >>= _) _ _ s;refine bb (cy ej dj (x:=.ref t) rfl ?_);show bq _ _ (ite ((cg t==cu)=true) _ _) _ _ s;refine(cf (show ¬((cg t==cu)=true)from gc))▸?_;show bq _ _ (field (.ref j) 1 >>= _) _ _ s;refine bb (cy ej dj (x:=.int i 0) rfl ?_);refine bb (m:=seqItems? (.ref t)) (ig et dt ?_);simp only[hx,Int.toNat_natCast];refine bb (wpAny_rule (bb (ii ej dj yv ?_)));show bq _ _ (newExc (.type "StopIteration") [] >>= _) _ _ _;refine bb ?_;simp only[newExc,newTuple];refine bb (fg ?_ (by size_fits));refine bb (m:=kr _ _) (wpAny_of_eq (a:=cu) (by first|rfl|(simp only[kr];rfl)) ?_);refine fg ?_ (by size_fits);simp only[raiseNew];refine bb (wpAny_handled ?_)
 first|rw[show A.in1.handled=none from hh]|rw[hh]
 exact bb (bo (wpAny_throw (hE _ _ (((jq ..).extBut.push _).push _) ⟨_,bu _ rfl,rfl⟩)))
end
def wU(i:Nat):List be->List be
 | []=>[]
 |d::ds=>.tuple [.int i,d]::wU (i+1) ds
theorem qZ{X:Cx}{x:Str}{i:Int}{pos:Pos}(hg:Gl X x)(hm:∃t,X.mg x=some (.int i t))(hd:(x==("__debug__":Str))=false:=by decide):PE X (.Name x pos) (tC (.int i)):=by
 obtain⟨t,e⟩:=hm;exact cW hg e ⟨t,rfl⟩ hd
end
section
def dIx:D2:=fun x y S R=>asI y fun i=>match x with
 | .d (.tuple ds)=>∃d,atI ds i=some d/\R (.d d) S
 | .d (.list ds)=>∃d,atI ds i=some d/\R (.d d) S
 | .l k=>∃ds,S[k]?=some ds/\∃d,atI ds i=some d/\R (.d d) S
 | .d (.str z)=>z.length<=bt/\∃c,atI z.cps.toList i=some c/\R (.d (.str ⟨#[c]⟩)) S
 |_=>False
theorem DZ:RO qQ (fun x y S R=>asS x fun z=>asI y fun i=>z.length<=bt/\∃c,atI z.cps.toList i=some c/\R (.d (.str ⟨#[c]⟩)) S):=fun h o H S x y v u R Q hs hx hy q c=>by
 replace q:=uV q;obtain⟨z,rfl,q⟩:=q;replace q:=aW q;obtain⟨i,rfl,hz,k,ek,q⟩:=q;exact⟨z,i,k,eR hx,aS hy,hz,ek,c o H S _ _ Ex.refl hs (xS _) q⟩
theorem jE{K:bn}:RO (rIx K) dIx:=fun h o H S x y v u R Q hs hx hy q c=>by
 replace q:=aW q;obtain⟨i,rfl,q⟩:=q;split at q
 ·exact .inr (.inl (CD h o H S _ _ v u R Q hs hx hy q c))
 ·exact .inl (yB h o H S _ _ v u R Q hs hx hy ⟨_,rfl,q⟩ c)
 ·exact .inl (yB h o H S _ _ v u R Q hs hx hy q c)
 ·exact .inr (.inr (DZ h o H S _ _ v u R Q hs hx hy q c))
 ·exact q.elim
section
variable {S:Sto}{R:RX}{ds:List be}{i:Int}{k:Nat}{z:Str}
theorem lX:dIx (.d (.tuple ds)) (.d (.int i)) S R=∃d,atI ds i=some d/\R (.d d) S:=rfl
theorem nA:dIx (.d (.list ds)) (.d (.int i)) S R=∃d,atI ds i=some d/\R (.d d) S:=rfl
theorem jY:dIx (.l k) (.d (.int i)) S R=∃ds,S[k]?=some ds/\∃d,atI ds i=some d/\R (.d d) S:=rfl
theorem lW:dIx (.d (.str z)) (.d (.int i)) S R=(z.length<=bt/\∃c,atI z.cps.toList i=some c/\R (.d (.str ⟨#[c]⟩)) S):=rfl
end
def y8(K:bn):V->Option Int->Option Int->Hp->VK->Prop:=fun x a b H Q=>kQ K x a b H Q\/(qJ K x a b H Q\/xF x a b H Q)
theorem lA{X:Cx}:SlR X (y8 X.K):=sW.or (FH.or DJ)
def dE:D3:=fun x i j S R=>match x with
 | .d (.tuple ds)=>¬(HT.sIx ds.length 0 i=0/\HT.sIx ds.length ds.length j=ds.length)/\R (.d (.tuple (aL ds i j))) S
 | .d (.list ds)=>R (.d (.list (aL ds i j))) S
 | .l k=>∃ds,S[k]?=some ds/\R (.d (.list (aL ds i j))) S
 | .d (.str z)=>z.length<=bt/\R (.d (.str (PySem.Txt.slice z i j))) S
 |_=>False
theorem yC{K:bn}:RL (y8 K) dE:=fun h o H S x v a b R Q hs hx q c=>by
 unfold dE at q;split at q
 ·exact .inr (.inl (A7 h o H S _ v a b R Q hs hx q c))
 ·exact .inl (uE h o H S _ v a b R Q hs hx ⟨_,rfl,q⟩ c)
 ·exact .inl (uE h o H S _ v a b R Q hs hx q c)
 ·exact .inr (.inr ⟨_,eR hx,q.1,c o H S _ _ Ex.refl hs (xS _) q.2⟩)
 ·exact q.elim
section
variable {S:Sto}{R:RX}{ds:List be}{i j:Option Int}{k:Nat}{z:Str}
theorem jT:dE (.d (.tuple ds)) i j S R=(¬(HT.sIx ds.length 0 i=0/\HT.sIx ds.length ds.length j=ds.length)/\R (.d (.tuple (aL ds i j))) S):=rfl
theorem l6:dE (.l k) i j S R=∃ds,S[k]?=some ds/\R (.d (.list (aL ds i j))) S:=rfl
theorem k8:dE (.d (.str z)) i j S R=(z.length<=bt/\R (.d (.str (PySem.Txt.slice z i j))) S):=rfl
end
def uP(K:bn):R2:=fun x y H Q=>∃a b ys,x=.ref a/\y=.ref b/\SqT K H a []/\SqT K H b ys/\Q (.ref b) H
theorem Ew{X:Cx}:OpR X (ip .Add) (uP X.K):=by
 intro zc s σ H x y v u Q I rx ry h;obtain⟨a,b,ys,rfl,rfl,ha,hb,q⟩:=h;cases rx;cases ry;obtain⟨z,r1,p1,_⟩:=I.tuple ha;obtain⟨p,r2,p2,_⟩:=I.tuple hb;cases r1;obtain⟨⟨c1,d1,e1,l1⟩,o1,w1,n1,k1⟩:=id p1;obtain⟨⟨c2,d2,e2,l2⟩,o2,w2,n2,k2⟩:=id p2;simp only at w1 k1 w2 k2;subst w1 k1 w2 k2;exact concat_meets ⟨_,o1,rfl⟩ ⟨_,o2,rfl⟩ noFill_tuple_add seq_tuple_add PySem.F.slot_tuple_add PySem.F.entry_tuple_add (PySem.F.args_tuple_add_2 _ _) (tuple_addW0 a b _ _ n1 n2 d1 d2 l1 l2 yv) ⟨o1,o2,⟨.ref b,H,I,rfl,q⟩⟩
def xW(K:bn):R2:=fun x y H Q=>rI0 (fun i j=>.int (i+j)) x y H Q\/(i3 x y H Q\/(rG K x y H Q\/(uP K x y H Q\/∃i j,x=.str i/\y=.str j/\i.length+j.length<=bt/\Q (.str (i++j)) H)))
theorem zI{X:Cx}:OpR X (ip .Add) (xW X.K):=CA.or (pM.or (DF.or (Ew.or Af)))
def aD:D2:=fun x y S R=>match x,y with
 | .d (.int i),.d (.int j)=>R (.d (.int (i+j))) S
 | .d (.tuple ds),.d (.tuple es)=>ds.length+es.length<=1000/\R (.d (.tuple (ds++es))) S
 | .d (.str a),.d (.str b)=>a.length+b.length<=bt/\R (.d (.str (a++b))) S
 |x,y=>asL S x fun ds=>asL S y fun es=>ds.length+es.length<=1000/\R (.d (.list (ds++es))) S
theorem cK{K:bn}:RO (xW K) aD:=fun h o H S x y v u R Q hs hx hy q c=>by
 unfold aD at q;split at q
 ·exact .inl (tR h o H S _ _ v u R Q hs hx hy q c)
 ·rename_i ds es;cases ds with
  |cons d ds=>exact .inr (.inr (.inl (A2 h o H S _ _ v u R Q hs hx hy ⟨yv,q⟩ c)))
  |nil=>
   obtain⟨a,vs,rfl,ea,l⟩:=eP hx;obtain⟨b,us,rfl,eb,l'⟩:=eP hy;rw[zx.mp l]at ea;exact .inr (.inr (.inr (.inl ⟨a,b,us,rfl,rfl,.of ea,.of eb,c o H S (.d (.tuple es)) _ Ex.refl hs hy q.2⟩)))
 ·exact .inr (.inr (.inr (.inr ⟨_,_,eR hx,eR hy,q.1,c o H S _ _ Ex.refl hs (xS _) q.2⟩)))
 ·exact .inr (.inl (BV h o H S _ _ v u R Q hs hx hy q c))
section
variable {S:Sto}{R:RX}{ds es:List be}{i j:Int}{k l:Nat}{a b:Str}
theorem m5:aD (.d (.int i)) (.d (.int j)) S R=R (.d (.int (i+j))) S:=rfl
theorem m6:aD (.d (.tuple ds)) (.d (.tuple es)) S R=(ds.length+es.length<=1000/\R (.d (.tuple (ds++es))) S):=rfl
theorem mJ:aD (.d (.list ds)) (.d (.list es)) S R↔(ds.length+es.length<=1000/\R (.d (.list (ds++es))) S):=⟨fun⟨_,e,_,e',q⟩=>by cases e;cases e';exact q,fun q=>⟨_,rfl,_,rfl,q⟩⟩
end
def xQ:R2:=fun x y H Q=>rI IntMulOk (fun i j=>.int (i*j)) x y H Q\/(xM x y H Q\/vP x y H Q)
theorem cE{X:Cx}:OpR X (ip .Mult) xQ:=Dg.or (EJ.or Ev)
def bF:D2:=fun x y S R=>asI y fun j=>match x with
 | .d (.int i)=>IntMulOk i j/\R (.d (.int (i*j))) S
 | .d (.str z)=>z.length<=1000/\j<=1000/\-1000<=j/\R (.d (.str (PySem.Txt.mul z j))) S
 | .d (.list ds)=>j<=1000/\-1000<=j/\ds.length*j.toNat<=1000/\R (.d (.list (bh j.toNat ds).flatten)) S
 |_=>False
theorem HasL.rep{H:Hp}{ds:List be}{vs:List V}(l:HasL H ds vs):∀n:Nat,HasL H (bh n ds).flatten (bh n vs).flatten
 | 0=>zx.mpr rfl
 |n+1=>by
  rw[ju,ju,flatten_cons,flatten_cons];exact l.append (HasL.rep l n)
theorem mM:RO xQ bF:=fun h o H S x y v u R Q hs hx hy q c=>by
 replace q:=aW q;obtain⟨j,rfl,q⟩:=q;split at q
 ·exact .inl (gV h o H S _ _ v u R Q hs hx hy q c)
 ·exact .inr (.inl ⟨_,_,eR hx,aS hy,q.1,q.2.1,q.2.2.1,c o H S _ _ Ex.refl hs (xS _) q.2.2.2⟩)
 ·obtain⟨a,vs,rfl,ea,l⟩:=bE (x:=.d (.list _)) hs rfl hx;obtain⟨h1,h2,h3,q⟩:=q;exact .inr (.inr ⟨a,j,vs,rfl,aS hy,ea,yw,yw,by rw[l.length];exact ji (small1000 h3),iC hs (l.rep j.toNat) c q⟩)
 ·exact q.elim
section
variable {S:Sto}{R:RX}{i j:Int}{z:Str}{ds:List be}
theorem lU:bF (.d (.list ds)) (.d (.int j)) S R=(j<=1000/\-1000<=j/\ds.length*j.toNat<=1000/\R (.d (.list (bh j.toNat ds).flatten)) S):=rfl
theorem jG:bF (.d (.int i)) (.d (.int j)) S R=(IntMulOk i j/\R (.d (.int (i*j))) S):=rfl
theorem lE:bF (.d (.str z)) (.d (.int j)) S R=(z.length<=1000/\j<=1000/\-1000<=j/\R (.d (.str (PySem.Txt.mul z j))) S):=rfl
end
def vK:R2:=fun x y H Q=>rI CDivX (fun i j=>.int (i/j)) x y H Q\/rI CDivN (fun i j=>.int (i.fdiv j)) x y H Q
theorem rE{X:Cx}:OpR X (ip .FloorDiv) vK:=Ck.or Ci
def dFd:D2:=fun x y S R=>asI x fun i=>asI y fun j=>(CDivX i j/\R (.d (.int (i/j))) S)\/(CDivN i j/\R (.d (.int (i.fdiv j))) S)
theorem A0:RO vK dFd:=fun h o H S x y v u R Q hs hx hy q c=>by
 replace q:=aW q;obtain⟨i,rfl,q⟩:=q;replace q:=aW q;obtain⟨j,rfl,q⟩:=q;rcases q with q|q
 ·exact .inl (gV (C:=CDivX) (g:=fun i j=>i/j) h o H S _ _ v u R Q hs hx hy q c)
 ·exact .inr (gV (C:=CDivN) (g:=fun i j=>i.fdiv j) h o H S _ _ v u R Q hs hx hy q c)
def nU(S:Sto):XV->Option Bool
 | .d .none=>some false
 | .d (.bool b)=>some b
 | .d (.int i)=>some (i != 0)
 | .d (.str z)=>if z.length<=bt then some ((z.length:Int) != 0)else none
 | .d (.list ds)=>some (!ds.isEmpty)
 | .d (.tuple ds)=>some (!ds.isEmpty)
 | .l k=>(S[k]?).map fun ds=>!ds.isEmpty
 |_=>none
def bT(a:DE):DT:=fun δ S R=>a δ S fun x S1=>∃k,nU S1 x=some k/\R k S1
theorem qB{H:Hp}{ds:List be}{vs:List V}(l:HasL H ds vs):(!ds.isEmpty)=!vs.isEmpty:=by
 have:=l.length;cases ds<;>cases vs<;>simp_all
theorem eF{K:bn}{ta:TE}{da:DE}(ha:RE ta da):RT (fun σ H Q=>ta σ H fun x H'=>∃k,TruV K x H' k/\Q k H') (bT da):=fun h o H δ σ S R Q he hs q c=>
 ha h o H δ σ S _ _ he hs q fun o1 H1 S1 x v e1 s1 x1 ⟨k,ek,d1⟩=>by
  refine⟨k,?_,c o1 H1 S1 k e1 s1 d1⟩;unfold nU at ek;split at ek
  ·cases ek;rw[(i4 (H:=vx h o1 H1)).mp x1];rfl
  ·cases ek;rw[dJ x1];rfl
  ·cases ek;rw[aS x1];rfl
  ·split at ek
   ·rename_i hz;cases ek;rw[eR x1];exact⟨hz,rfl⟩
   ·cases ek
  ·obtain⟨a,vs,rfl,ea,l⟩:=bE (x:=.d (.list _)) s1 rfl x1;cases ek;exact .inl ⟨vs,.of ea,qB l⟩
  ·obtain⟨a,vs,rfl,ea,l⟩:=eP x1;cases ek;exact .inr (.inl ⟨vs,.of ea,qB l⟩)
  ·rename_i j _;cases hj:S1[j]? with
   |none=>rw[hj]at ek;cases ek
   |some ds=>
    rw[hj]at ek;cases ek;obtain⟨a,vs,rfl,ea,l⟩:=bE (x:=.l j) s1 hj x1;exact .inl ⟨vs,.of ea,qB l⟩
  ·cases ek
section
variable {S:Sto}{b:Bool}{i:Int}{ds:List be}{k:Nat}
theorem lQ:nU S (.d (.bool b))=some b:=rfl
theorem lH:nU S (.l k)=(S[k]?).map fun ds=>!ds.isEmpty:=rfl
end
def gY:DS:=fun _ _ _=>False
theorem El:RS uA gY:=fun h o H δ σ S E D he hs q c=>q.elim
def tK(K:bn)(tl:TE):TI:=fun σ H R=>tl σ H fun x H1=>∃a,x=.ref a/\(((∃xs,SqL K H1 a xs)/\R (Itl K a) H1)\/((∃xs,SqT K H1 a xs)/\R (Itt K a) H1))
theorem eX{X:Cx}{tg:Expr}{l:Expr}{tl:TE}(hl:PE X l tl):PI X tg l (tK X.K tl):=by
 intro zc s σ H R I h;refine thn (hl zc s σ H _ I h) fun v s1 ⟨x,H1,I1,r1,q1⟩=>?_;obtain⟨a,e,⟨⟨xs,hq⟩,q⟩|⟨⟨xs,hq⟩,q⟩⟩:=q1
 ·subst e;cases r1;obtain⟨z,rv,p,hz⟩:=I1.list hq;refine wpAny_pyIter_list p.isList ?_;refine⟨s1.heap.objs.size,[s1.heap.objs.size],_,_,H1,rfl,I1.kept (t':=s1.toks) fun b o e=>bg _ e,u0 a _,⟨_,bu _ rfl,rfl,rfl⟩,fun b hb=>?_,q⟩;have e:b=s1.heap.objs.size:=by simpa using hb
  subst e;exact I1.fpOk (cq _) (I1.hok.fresh (cq _))
 ·subst e;cases r1;obtain⟨z,rv,p,hz⟩:=I1.tuple hq;refine wpAny_pyIter_tuple (show s1.heap.IsTuple a z.toArray from p) ?_;refine⟨s1.heap.objs.size,[s1.heap.objs.size],_,_,H1,rfl,I1.kept (t':=s1.toks) fun b o e=>bg _ e,pR a _,⟨_,bu _ rfl,rfl,rfl⟩,fun b hb=>?_,q⟩;have e:b=s1.heap.objs.size:=by simpa using hb
  subst e;exact I1.fpOk (cq _) (I1.hok.fresh (cq _))
def cI:XV->Option (List be)
 | .d (.list ds)=>some ds
 | .d (.tuple ds)=>some ds
 |_=>none
theorem m2{ds:List be}:cI (.d (.list ds))=some ds:=rfl
theorem jI{ds:List be}:cI (.d (.tuple ds))=some ds:=rfl
def b0(e:DE):DI:=fun δ S R=>e δ S fun x S1=>∃ds,cI x=some ds/\R ds S1
theorem m3{K:bn}{te:TE}{de:DE}(p:RE te de):RI (tK K te) (b0 de):=fun h o H δ σ S R Q he hs q c=>
 p h o H δ σ S _ _ he hs q fun o1 H1 S1 x v e1 s1 x1 ⟨ds,ex,d1⟩=>by
  unfold cI at ex;split at ex
  ·cases ex;obtain⟨a,vs,rfl,ea,l⟩:=zZ.mp (show Has _ _ _ from x1);have hl:=l.length;refine⟨a,rfl,.inl ⟨⟨vs,.of (zH _ _ ea)⟩,c o1 H1 S1 ds _ e1 s1 ⟨fun i o2 H2 e2 hi=>⟨vs,.of (zH _ _ (e2.vx _ _ ea)),yw⟩,fun i d o2 H2 e2 hi=>?_,fun i d o2 H2 x H3 S2 e2 s2 hi y=>?_⟩ d1⟩⟩
   ·obtain⟨v,ev,_⟩:=l.get hi;exact⟨vs,v,.of (zH _ _ (e2.vx _ _ ea)),ev⟩
   ·obtain⟨v,ev,hv⟩:=l.get hi;have e3:H3=H2:=y.1;subst e3;have ex:=y.2 vs (.of (zH _ _ (e2.vx _ _ ea)));rw[ev]at ex;cases ex;exact⟨Same.refl _,hv.mono e2.vx⟩
  ·cases ex;obtain⟨a,vs,rfl,ea,l⟩:=zX.mp (show Has _ _ _ from x1);have hl:=l.length;refine⟨a,rfl,.inr ⟨⟨vs,.of (zH _ _ ea)⟩,c o1 H1 S1 ds _ e1 s1 ⟨fun i o2 H2 e2 hi=>⟨vs,.of (zH _ _ (e2.vx _ _ ea)),yw⟩,fun i d o2 H2 e2 hi=>?_,fun i d o2 H2 x H3 S2 e2 s2 hi y=>?_⟩ d1⟩⟩
   ·obtain⟨v,ev,_⟩:=l.get hi;exact⟨vs,v,.of (zH _ _ (e2.vx _ _ ea)),ev⟩
   ·obtain⟨v,ev,hv⟩:=l.get hi;have e3:H3=H2:=y.1;subst e3;have ex:=y.2 vs (.of (zH _ _ (e2.vx _ _ ea)));rw[ev]at ex;cases ex;exact⟨Same.refl _,hv.mono e2.vx⟩
  ·cases ex
def hJ(dt:DS):DS:=fun E δ S=>dt { E with nx:=fun δ' S'=>∃S0 ds,S'=S0++[ds]/\S.length<=S0.length/\E.nx (δ'.map (frz S0.length ds)) S0 } δ S
theorem EY{t:TS}{dt:DS}(ht:RS t dt):RS t (hJ dt):=fun h o H δ σ S E D he hs q c=>by
 refine ht h o H δ σ S _ D he hs q ⟨fun o' H' δ' S' σ' e ac aa ⟨S0,ds,eS,hl,n⟩=>?_,c.rt,c.bk,c.ct⟩;subst eS;obtain⟨r,rfl⟩:=e.pre;have hL:=aa.len;simp only[bx,fj]at hL;have hS:=hs.len;have af:r≠[]:=fun z=>by subst z;simp at hL;omega
 obtain⟨r0,a,rfl⟩:∃r0 a,r=r0++[a]:=⟨r.dropLast,r.getLast af,(List.dropLast_concat_getLast af).symm⟩;have ae:S0.length=(o++r0).length:=by simp at hL ⊢;omega
 rw[<- append_assoc]at aa ac e;have nd:=nodup_append.mp aa.nd;have na:a∉o++r0:=fun m=>nd.2.2 a m a yv rfl;have nh:a∉h:=aa.dis a yv;refine c.nx (o++r0) H' _ S0 σ' ⟨⟨r0,rfl⟩,fun b u hb eb=>?_⟩ ⟨by rw[cp];exact ac.len,fun i x ex=>?_⟩ (aa.pop ae) n
 ·obtain⟨z1,z2⟩:=e.kp b u hb eb;exact⟨fun m=>z1 (fq _ m),z2⟩
 ·rw[gf]at ex;obtain⟨y,ey,ex⟩:=map_eq_some_iff.mp ex
  match y,ey,ex with
  |none,ey,ex=>cases ex
  |some (.d d),ey,ex=>
   cases ex;obtain⟨v,e1,e2⟩:=ac.get i _ ey;exact⟨v,e1,Has.mono cM d v e2⟩
  |some (.o w),ey,ex=>
   cases ex;exact ac.get i _ ey
  |some (.x C fs),ey,ex=>
   cases ex;obtain⟨v,e1,e2⟩:=ac.get i _ ey;exact⟨v,e1,HasE.mono cM e2⟩
  |some (.p k d),ey,ex=>
   obtain⟨v,e1,t,b,u,rfl,eb,et,hu⟩:=ac.get i _ ey;unfold frz at ex;by_cases hk:k=S0.length
   ·simp only[hk,↓reduceIte]at ex;cases ex;rw[hk,ae,bp]at eb;cases eb;obtain⟨vs,ev,l⟩:=aa.cont S0.length a ds (by rw[ae,bp]) (by rw[bp]);exact⟨_,e1,zX.mpr ⟨t,_,rfl,cM _ _ et,zo.mpr ⟨_,_,rfl,zZ.mpr ⟨a,vs,rfl,zM.mpr ⟨nh,na,ev⟩,l.mono cM⟩,zo.mpr ⟨u,_,rfl,Has.mono cM _ _ hu,zx.mpr rfl⟩⟩⟩⟩
   ·simp only[hk,↓reduceIte]at ex;cases ex;refine⟨_,e1,t,b,u,rfl,?_,cM _ _ et,Has.mono cM _ _ hu⟩;have ah:k<(o++r0).length:=by
     obtain⟨z,_⟩:=List.getElem?_eq_some_iff.mp eb;rw[bx,fj]at z;omega
    rw[cr ah]at eb;exact eb
  |some (.l k),ey,ex=>
   obtain⟨v,e1,b,eb,rfl⟩:=ac.get i _ ey;unfold frz at ex;by_cases hk:k=S0.length
   ·simp only[hk,↓reduceIte]at ex;cases ex;rw[hk,ae,bp]at eb;cases eb;obtain⟨vs,ev,l⟩:=aa.cont k a ds (by rw[hk,ae,bp]) (by rw[hk,bp]);exact⟨_,e1,zZ.mpr ⟨a,vs,rfl,zM.mpr ⟨nh,na,ev⟩,l.mono cM⟩⟩
   ·simp only[hk,↓reduceIte]at ex;cases ex;have ag:=(List.getElem?_eq_some_iff.mp eb).1;simp only[bx,fj]at ag;simp only[bx]at ae;rw[cr (by simp only[bx];omega)]at eb;exact⟨_,e1,b,eb,rfl⟩
section
variable {t1 t2 t3 t4 t5 t6 t7 t8:TS}{d:DS}
theorem EZ(h:RS (dP (dP t1 t2) t3) d):RS (dP t1 (dP t2 t3)) d:=h
end
end
section
abbrev PN:=List XV->Sto->RX->Prop
def lfN(q:PN):List V->Hp->VK->Prop:=fun vs H Q=>∃h o S xs R,RepS h o H S/\HasXs h o H xs vs/\q xs S R/\Cn h o H R Q
def spN(ps:List Str)(q:PN):Sp:=fun vs H Q _=>vs.length=ps.length/\lfN q vs H Q
theorem HasXs.len{h o:List Addr}{H:Hp}:∀{xs:List XV}{vs:List V},HasXs h o H xs vs->vs.length=xs.length
 | [],vs,q=>by rw[show vs=[]from q];rfl
 |x::xs,vs,⟨v,r,e,_,l⟩=>by rw[e,fm,fm,HasXs.len l]
theorem HasXs.get{h o:List Addr}{H:Hp}:∀{xs:List XV}{vs:List V}{i:Nat}{x:XV},HasXs h o H xs vs->xs[i]?=some x->∃v,vs[i]?=some v/\HasX h o H x v
 | [],_,i,_,_,e=>by simp at e
 |y::xs,vs,0,x,⟨v,r,e1,q,l⟩,e=>by
  rw[getElem?_cons_zero]at e;cases e;subst e1;exact⟨v,rfl,q⟩
 |y::xs,vs,i+1,x,⟨v,r,e1,q,l⟩,e=>by
  subst e1;rw[getElem?_cons_succ]at e ⊢;exact HasXs.get l e
theorem oH{h o:List Addr}{H:Hp}{xs:List XV}{vs:List V}{n:Nat}(q:HasXs h o H xs vs):RepE h o H (xs.map some++bh n none) (vs.map some++bh n none):=by
 have hl:=q.len;refine⟨by simp[hl],fun i x e=>?_⟩;by_cases hi:i<xs.length
 ·rw[cr (by rw[cp];exact hi),gf]at e;obtain⟨y,ey,e⟩:=map_eq_some_iff.mp e;cases e;obtain⟨v,ev,hv⟩:=q.get ey;exact⟨v,by rw[cr (by rw[cp,hl];exact hi),gf,ev];rfl,hv⟩
 ·rw[List.getElem?_append_right (by rw[cp];omega),List.getElem?_replicate]at e;split at e<;>cases e
section
variable {P:bw}{w:df}{K:bn}{mg:Str->Option bc}{base:Heap}{x:Str}{st:Stmt}{N ps:List Str}{k:Nat}
theorem Df.dN{q:PN}(D:Dd K mg x st ps)(S:FnScope N ps (zg st))(n:Nat)(hn:N.length=ps.length+n)
  (hbody:∀(f:Addr) (p:bc) (A:cw) (outer:List Env) (s:bd) (H:Hp) (E:XK),Room k (A.deeper (gh x (zg st) s.heap.objs.size f p)) ->
   ∃t dt,PSs (bG CX0 P w K mg base N x (zg st) f p A outer s H E).nox (bL st) t/\RS t dt/\∀xs S R,q xs S R->dt (aG S.length R) (xs.map some++bh n none) S):Df P w K mg base x ps (k+1) (spN ps q):=by
 refine Df.of D S (fun vs H Q E h=>h.1) fun f p A outer s H vs Q E hr ⟨hl,h,o,S',xs,R,z,hx,hq,c⟩=>?_;obtain⟨t,dt,h1,h2,h3⟩:=hbody f p A outer s H E hr;refine⟨t,h1,h2 h o H _ _ S' _ _ ?_ z (h3 xs S' R hq) (eok z c)⟩;have e:N.length-vs.length=n:=yw
 unfold start;rw[e];exact oH hx
end
section
variable {X:Cx}{x:Str}{ps:List Str}{k j:Nat}{pos pos':Pos}{e:Expr}{es:List Expr}{t:TA}
theorem zF{q:PN}(D:Df X.prog X.w X.K X.mg X.base x ps k (spN ps q))(hr:Room j X.A)(hk:k<=j)(ha:PA X (e::es) t)(hg:Gl X x:=by rfl)(p:(x==("__debug__":Str))=false:=by decide)
  (q1:bv (e::es) X.env=(false,eval e X.env)::bv es X.env:=by rfl) (q2:((js pos (bv es X.env)).any fun x=>x.fst)=false:=by rfl):PE X (.Call (.Name x pos') (e::es) [] pos) (fO (spN ps q) [] E0 t):=by
 obtain⟨f,fd,F,hm,kp,hb⟩:=D.ex;exact rA (dvs:=[]) (ds:=[]) (E:=E0) F (hr.mono hk) hg hm kp hb .nil pass0 ha p q1 q2
end
def aF(m:Nat)(q:PN)(da:DA):DE:=fun δ S R=>da δ S fun xs S1=>∃ds,datas xs=some ds/\ds.length=m/\q (ds.map XV.d) [] (ret0 S1 R)
theorem hxs0{h o:List Addr}{H:Hp}:∀{ds:List be}{vs:List V},HasXs h o H (ds.map XV.d) vs->HasXs (h++o) [] H (ds.map XV.d) vs
 | [],_,q=>q
 |d::ds,vs,⟨v,r,e,q,l⟩=>⟨v,r,e,hx0 q,hxs0 l⟩
theorem bR{ps:List Str}{q:PN}{m:Nat}{t:TA}{da:DA}(ha:RA t da)(hm:ps.length=m:=by rfl):RE (fO (spN ps q) [] E0 t) (aF m q da):=fun h o H δ σ S R Q he hs w c=>
 ha h o H δ σ S _ _ he hs w fun o1 H1 S1 xs vs e1 s1 x1 ⟨ds,e,hl,d1⟩=>by
  have ex:=cQ e;subst ex;have hv:=x1.len;rw[gu];exact⟨by rw[hv,cp,hl,hm],h++o1,[],[],_,_,rep0 s1,hxs0 x1,d1,cn0 s1 (c.pre e1)⟩
def zP(i m:Nat)(q:PN)(da:DA):DE:=fun δ S R=>da δ S fun xs S1=>∃k,xs[i]?=some (.l k)/\∃p,S1[k]?=some p/\∃ds,datas (xs.set i (.d .none))=some ds/\ds.length=m/\q ((ds.map XV.d).set i (.l 0)) [p] (oB k S1 R)
theorem tU{h o:List Addr}{H:Hp}{k:Nat}{a:Addr}(ea:o[k]?=some a):∀{xs:List XV}{vs:List V}{ds:List be}{i:Nat},HasXs h o H xs vs->xs[i]?=some (.l k)->datas (xs.set i (.d .none))=some ds->HasXs (h++o.filter (fun b=>b≠a)) [a] H ((ds.map XV.d).set i (.l 0)) vs
 | [],_,_,i,_,e,_=>by simp at e
 |x::xs,vs,ds,0,⟨v,r,e1,q,l⟩,e,ed=>by
  rw[getElem?_cons_zero]at e;cases e;rw[set_cons_zero]at ed;obtain⟨z,rfl⟩:∃z,ds=.none::z:=by
   unfold datas at ed;cases hd:datas xs with
   |none=>rw[hd]at ed;cases ed
   |some y=>rw[hd]at ed;cases ed;exact⟨y,rfl⟩
  have aa:datas xs=some z:=by
   unfold datas at ed;cases hd:datas xs with
   |none=>rw[hd]at ed;cases ed
   |some y=>rw[hd]at ed;cases ed;rfl
  have ex:=cQ aa;subst ex;obtain⟨b,eb,rfl⟩:=q;rw[ea]at eb;cases eb;exact⟨_,r,e1,⟨a,rfl,rfl⟩,go (ea:=ea) l⟩
 |x::xs,vs,ds,i+1,⟨v,r,e1,q,l⟩,e,ed=>by
  rw[getElem?_cons_succ]at e;rw[set_cons_succ]at ed
  match x,q,ed with
  | .d d,q,ed=>
   unfold datas at ed;cases hd:datas (xs.set i (.d .none))with
   |none=>rw[hd]at ed;cases ed
   |some z=>
    rw[hd]at ed;cases ed;exact⟨v,r,e1,hxP ea q,tU ea l e hd⟩
  | .l j,q,ed=>cases ed
  | .o w,q,ed=>cases ed
  | .x _ _,q,ed=>cases ed
  | .p _ _,q,ed=>cases ed
where
 go {h o:List Addr}{H:Hp}{k:Nat}{a:Addr}{ea:o[k]?=some a}:∀{ds:List be}{vs:List V},HasXs h o H (ds.map XV.d) vs->HasXs (h++o.filter (fun b=>b≠a)) [a] H (ds.map XV.d) vs
 | [],_,q=>q
 |d::ds,vs,⟨v,r,e,q,l⟩=>⟨v,r,e,hxP ea q,go (ea:=ea) l⟩
theorem Ak:∀{xs:List XV}{ds:List be},datas xs=some ds->xs.length=ds.length:=fun e=>by
 rw[cQ e,cp]
theorem m1{ps:List Str}{q:PN}{i m:Nat}{t:TA}{da:DA}(ha:RA t da)(hm:ps.length=m:=by rfl):RE (fO (spN ps q) [] E0 t) (zP i m q da):=fun h o H δ σ S R Q he hs w c=>
 ha h o H δ σ S _ _ he hs w fun o1 H1 S1 xs vs e1 s1 x1 ⟨k,ek,p,ep,ds,e,hl,d1⟩=>by
  have hv:=x1.len;have hd:=Ak e;rw[length_set]at hd;obtain⟨v,_,a,ea,_⟩:=x1.get ek;rw[gu];exact⟨by rw[hv,hd,hl,hm],_,[a],[p],_,_,nQ s1 ea ep,tU ea x1 ek e,d1,cnP s1 ea ep (c.pre e1)⟩
theorem CI{h o:List Addr}{H:Hp}{S:Sto}(hs:RepS h o H S):RepS h [] H []:=⟨rfl,nodup_nil,(fun _ h=>(nomatch h)),hs.hal,(fun _ _ _ e=>(by simp at e))⟩
theorem hxV{h o:List Addr}{H:Hp}{S:Sto}{x:XV}{v:V}{d:be}(hs:RepS h o H S)(e:bZ S x=some d)(q:HasX h o H x v):HasX h [] H (.d d) v:=by
 have sub:Same (vx h o H) (vx h [] H):=fun b u eb=>by
  obtain⟨z1,z2,z3⟩:=zM.mp eb;exact zM.mpr ⟨z1,yv,z3⟩
 unfold bZ at e;split at e
 ·cases e;exact Has.mono sub _ _ q
 ·rename_i k;obtain⟨a,ea,rfl⟩:=q;cases hk:S[k]? with
  |none=>rw[hk]at e;cases e
  |some ds=>
   rw[hk]at e;cases e;obtain⟨vs,ev,l⟩:=hs.cont k a ds ea hk;exact zZ.mpr ⟨a,vs,rfl,zM.mpr ⟨hs.dis a (cn ea),yv,ev⟩,l.mono sub⟩
 ·cases e
 ·cases e
 ·rename_i k d';obtain⟨t,a,u,rfl,ea,et,hu⟩:=q;cases hk:S[k]? with
  |none=>rw[hk]at e;cases e
  |some ds=>
   rw[hk]at e;cases e;obtain⟨vs,ev,l⟩:=hs.cont k a ds ea hk;exact zX.mpr ⟨t,_,rfl,sub _ _ et,zo.mpr ⟨_,_,rfl,zZ.mpr ⟨a,vs,rfl,zM.mpr ⟨hs.dis a (cn ea),yv,ev⟩,l.mono sub⟩,zo.mpr ⟨u,_,rfl,Has.mono sub _ _ hu,zx.mpr rfl⟩⟩⟩
end
section
def vW(K:bn):List V->Hp->VK->Prop:=fun xs H Q=>rX K xs H Q\/∃z,xs=[.str z]/\z.length<=bt/\Q (.int z.length) H
theorem fH{X:Cx}:CallR X (.builtin "len") (vW X.K):=wQ.or Bq
def fS(S:Sto):XV->Option Nat
 | .d (.tuple ds)=>some ds.length
 | .d (.list ds)=>some ds.length
 | .l k=>(S[k]?).map List.length
 | .d (.str z)=>if z.length<=bt then some z.length else none
 |_=>none
def bX:List XV->Sto->RX->Prop:=fun xs S R=>arg1 xs fun x=>∃n,fS S x=some n/\R (.d (.int n)) S
theorem nR{K:bn}:RC (vW K) bX:=fun h o H S xs vs R Q hs hx q c=>by
 obtain⟨x,rfl,n,hd,q1⟩:=cL q;unfold fS at hd;split at hd
 ·cases hd;exact .inl (qU h o H S _ vs R Q hs hx ⟨_,rfl,q1⟩ c)
 ·cases hd;exact .inl (qU h o H S _ vs R Q hs hx ⟨_,rfl,q1⟩ c)
 ·rename_i k;cases hk:S[k]? with
  |none=>rw[hk]at hd;cases hd
  |some ds=>
   rw[hk]at hd;cases hd;exact .inl (qU h o H S _ vs R Q hs hx ⟨ds,hk,q1⟩ c)
 ·split at hd
  ·rename_i hz;cases hd;obtain⟨v,rfl,p⟩:=hxs1 hx;exact .inr ⟨_,by rw[eR p],hz,c o H S _ _ Ex.refl hs (xI _) q1⟩
  ·cases hd
 ·cases hd
section
variable {S:Sto}{ds:List be}{k:Nat}{z:Str}
theorem lG:fS S (.d (.tuple ds))=some ds.length:=rfl
theorem kR:fS S (.d (.list ds))=some ds.length:=rfl
theorem mB:fS S (.l k)=(S[k]?).map List.length:=rfl
end
theorem BH{ds:List be}(h:dq (.list ds)=true):ir ds=true/\kl ds<=63:=by
 have h1:=fw h;have h2:=SeqAt.depth_of_shaped h;simp only[ja,PyData.depth]at h1 h2;exact⟨h1,yw⟩
def kO(a:DA):DI:=fun δ S R=>a δ S fun xs S1=>arg1 xs fun x=>∃ds,cI x=some ds/\R (wU 0 ds) S1
def kN:XV->List XV->Sto->RX->Prop:=fun x xs S R=>∃k,x=.l k/\∃ds,S[k]?=some ds/\xs=[]/\∃d,ds[ds.length-1]?=some d/\R (.d d) (S.set k ds.dropLast)
def g9(rd:XV->List XV->Sto->RX->Prop)(e:DE)(a:DA):DE:=fun δ S R=>e δ S fun x S1=>∃z,x=.d (.str z)/\a δ S1 fun xs S2=>rd x xs S2 R
theorem v0{K:bn}{r:V->List V->Hp->VK->Prop}{rd:XV->List XV->Sto->RX->Prop}{te:TE}{de:DE}{tl:TA}{dl:DA}(hr:RM r rd)(p:RE te de)(ha:RA tl dl):RE (tBM K "str" r te tl) (g9 rd de dl):=fun h o H δ σ S R Q he hs q c=>
 p h o H δ σ S _ _ he hs q fun o1 H1 S1 x v e1 s1 x1 ⟨z,ez,d1⟩=>by
  subst ez;cases eR x1;exact⟨rfl,ha h o1 H1 δ σ S1 _ _ (he.mono e1) s1 d1 fun o2 H2 S2 xs vs e2 s2 x2 d2=>hr h o2 H2 S2 (.d (.str z)) _ xs vs R Q s2 (HasX.mono (x:=.d (.str z)) e2 x1) x2 d2 (c.pre (e1.trans e2))⟩
theorem sY{H:Hp}:∀{ns:List Str}{vs:List V},HasL H (ns.map jy) vs->vs=ns.map V.str
 | [],vs,h=>zx.mp h
 |n::ns,vs,h=>by
  obtain⟨v,r,rfl,h1,h2⟩:=zo.mp h;rw[hV.mp h1,sY h2];rfl
def hW:XV->List XV->Sto->RX->Prop:=fun x xs S R=>asS x fun z=>arg1 xs fun y=>∃ds,cA S y=some ds/\∃zs:List Str,ds=zs.map jy/\z.length<=16/\zs.length<=1000/\(∀y∈zs,y.length<=1000)/\R (.d (.str (PySem.Txt.join z zs))) S
theorem Ai{K:bn}:RM (yP K) hW:=fun h o H S x v xs vs R Q hs hx p q c=>by
 replace q:=uV q;obtain⟨z,rfl,q⟩:=q;obtain⟨y,rfl,ds,e,zs,rfl,h1,h2,h3,q1⟩:=cL q;obtain⟨u,rfl,hu⟩:=hxs1 p;obtain⟨a,ws,rfl,ea,l⟩:=bE hs e hu;rw[sY l]at ea;exact⟨z,a,zs,eR hx,rfl,.of ea,h1,h2,h3,c o H S _ _ Ex.refl hs (xS _) q1⟩
def f6:D2:=fun x y S R=>asL S x fun ds=>asL S y fun es=>ds.length+es.length<=1000/\R (.l S.length) (S++[ds++es])
theorem Dr:RO i3 f6:=fun h o H S x y v u R Q hs hx hy q c=>by
 obtain⟨ds,e0,es,e1,hl,q⟩:=q;obtain⟨a,vs,rfl,ea,la⟩:=bE hs e0 hx;obtain⟨b,us,rfl,eb,lb⟩:=bE hs e1 hy;exact⟨a,b,vs,us,rfl,rfl,ea,eb,by rw[la.length,lb.length];exact ji (small1000 hl),xE hs (la.append lb) c q⟩
def vB:V->List V->Hp->VK->Prop:=fun x vs H Q=>∃(d:be) (ds:List be) (j:Nat),Has H (.list ds) x/\(∃v,vs=[v]/\Has H d v)/\dq d=true/\dq (.list ds)=true/\ds.length<=1000/\(∃e,ds[j]?=some e/\jb e d=true)/\(∀m e,m<j->ds[m]?=some e->jb e d=false)/\Q (.int j) H
theorem D8{X:Cx}(hu:X.A.units+64<cLine):MtR X "list.index" vB:=by
 intro zc s σ H x vs v us Q I rx rv h;obtain⟨d,ds,j,hl,⟨y,rfl,hy⟩,sd,se,ae,⟨e,ej,he⟩,ac,q⟩:=h;obtain⟨s1,s2⟩:=BH se;obtain⟨u,rfl,r1⟩:=rv.one;obtain⟨as,q1⟩:=Has.reads I d y u hy (fw sd) r1;obtain⟨bs,q2⟩:=Has.reads I (.list ds) x v hl (by simpa only[ja]using s1) rx;have hm:X.A.units+1+min (kl ds) d.depth<cLine:=by
  have:=Nat.min_le_left (kl ds) d.depth;omega
 cases q2 with
 | @list l o vs n xs as₁ h1 h2 h3 h4=>
  have hn:vs.size=ds.length:=by simpa using SeqAt.ReadsAll.length _ _ _ h4
  have z:=SeqAt.readsAll_map _ _ _ s1 h4;have p:∀(m:Nat) (hm:m<vs.size) e,ds[m]?=some e->SeqAt.readOf s.heap vs[m]=e:=fun m hm e h=>by
   rw[<- z,gf]at h;have:vs.toList[m]?=some vs[m]:=by simp[hm]
   rw[this]at h;exact fe h
  have hj:j<vs.size:=by rw[hn];exact(List.getElem?_eq_some_iff.mp ej).1
  obtain⟨cls,dd,data,sl⟩:=o;simp only at h2 h3;subst h2 h3;refine call_meets PySem.F.slot_list_index ⟨_,h1,rfl⟩ PySem.F.entry_list_index (PySem.F.args_list_index_2 _ _)
   (SeqAt.list_indexAt l vs n dd sl u (fun y=>jb (SeqAt.readOf s.heap y) d) j hj yw ?_ ?_) ⟨h1,SeqAt.items_eqAt h4 q1 s1 (fw sd) hm,⟨.int j,H,I.tok _,⟨_,rfl⟩,q⟩⟩
  ·show jb (SeqAt.readOf s.heap vs[j]) d=true;rw[p j hj e ej];exact he
  ·intro m hm aa;show jb (SeqAt.readOf s.heap vs[m]) d=false;have em:ds[m]?=some ds[m]:=eg yw;rw[p m hm _ em];exact ac m _ aa em
def gQ:XV->List XV->Sto->RX->Prop:=fun x xs S R=>arg1 xs fun y=>∃d,bZ S y=some d/\∃ds,cA S x=some ds/\dq d=true/\dq (.list ds)=true/\ds.length<=1000/\∃j,(∃e,ds[j]?=some e/\jb e d=true)/\(∀m e,m<j->ds[m]?=some e->jb e d=false)/\R (.d (.int (j:Nat))) S
theorem AL:RM vB gQ:=fun h o H S x v xs vs R Q hs hx p q c=>by
 obtain⟨y,rfl,d,e1,ds,e2,s1,s2,h1,j,h2,h3,q1⟩:=cL q;obtain⟨u,rfl,hu⟩:=hxs1 p;have hl:Has H (.list ds) v:=fU (x:=x) hs (by
  unfold cA at e2;split at e2
  ·cases e2;rfl
  ·rename_i k;show (S[k]?).map PyData.list=_;rw[e2];rfl
  ·cases e2) hx
 exact⟨d,ds,j,hl,⟨u,rfl,fU hs e1 hu⟩,s1,s2,h1,h2,h3,c o H S _ _ Ex.refl hs (xI _) q1⟩
def fE(rd:XV->List XV->Sto->RX->Prop)(e:DE)(a:DA):DE:=fun δ S R=>e δ S fun x S1=>∃ds,cA S1 x=some ds/\a δ S1 fun xs S2=>rd x xs S2 R
theorem qD{K:bn}{r:V->List V->Hp->VK->Prop}{rd:XV->List XV->Sto->RX->Prop}{te:TE}{de:DE}{tl:TA}{dl:DA}(hr:RM r rd)(p:RE te de)(ha:RA tl dl):RE (tBM K "list" r te tl) (fE rd de dl):=fun h o H δ σ S R Q he hs q c=>
 p h o H δ σ S _ _ he hs q fun o1 H1 S1 x v e1 s1 x1 ⟨ds,ez,d1⟩=>by
  obtain⟨a,ws,rfl,ea,_⟩:=bE s1 ez x1;exact⟨qM ea,ha h o1 H1 δ σ S1 _ _ (he.mono e1) s1 d1 fun o2 H2 S2 xs vs e2 s2 x2 d2=>hr h o2 H2 S2 x _ xs vs R Q s2 (x1.mono e2) x2 d2 (c.pre (e1.trans e2))⟩
abbrev Dy (a:Addr) (m:Nat):DEnds:={ nx:=fun δ _=>δ[0]?=some (some (.o (.ref a)))/\δ.length=m+1,ct:=fun δ _=>δ[0]?=some (some (.o (.ref a)))/\δ.length=m+1,rt:=fun _ _=>False }
end
section
open Sem (wp)
def ItK(t:Bool)(h:Heap)(j a:Addr)(k:Nat):Prop:=match t with
 |true=>h.IsTupleIter j a k
 |false=>h.IsListIter j a k
def SqK(t:Bool)(h:Heap)(a:Addr)(xs:Array bc):Prop:=match t with
 |true=>h.IsTuple a xs
 |false=>h.IsList a xs
theorem ItK.at{t:Bool}{h g:Heap}{j a:Addr}{k:Nat}(q:ItK t h j a k)(f:∀o,h.get? j=some o->g.get? j=some o):ItK t g j a k:=by
 cases t
 ·exact Heap.IsListIter.at (show h.IsListIter j a k from q) f
 ·exact Heap.IsTupleIter.at (show h.IsTupleIter j a k from q) f
theorem ItK.here{t:Bool}{h:Heap}{j a:Addr}{k:Nat}(q:ItK t h j a k):∃o,h.get? j=some o/\∀v,o.data≠.cell v:=by
 cases t<;>(obtain⟨o,e,c,d⟩:=q;exact⟨o,e,fun v z=>by rw[d]at z;cases z⟩)
theorem SqK.at{t:Bool}{h g:Heap}{a:Addr}{xs:Array bc}(q:SqK t h a xs)(f:∀o,h.get? a=some o->g.get? a=some o):SqK t g a xs:=by
 cases t<;>(obtain⟨o,e,r⟩:=q;exact⟨o,f o e,r⟩)
theorem SqK.here{t:Bool}{h:Heap}{a:Addr}{xs:Array bc}(q:SqK t h a xs):∃o,h.get? a=some o:=by
 cases t<;>(obtain⟨o,e,r⟩:=q;exact⟨o,e⟩)
section
variable {prog:bw}{w:df}{A:cw}{E:bc->bd->Prop}{s:bd}
theorem qR{t:Bool}{j a:Addr}{k:Nat}{xs:Array bc}{x:bc}{Q:bc->bd->Prop}(hj:ItK t s.heap j a k)(ha:SqK t s.heap a xs)(hx:xs[k]?=some x)
  (hQ:∀g,ItK t g j a (k+1)->fc j s.heap g->Q x { s with heap:=g }):bq (model prog w) A (dn (.ref j)) Q E s:=by
 cases t
 ·exact wpAny_nextOf_list_item hj ha hx hQ
 ·exact Am hj ha hx hQ
theorem vN{t:Bool}{j a:Addr}{k:Nat}{xs:Array bc}{Q:bc->bd->Prop}(hh:A.handled=none)(hj:ItK t s.heap j a k)(ha:SqK t s.heap a xs)(hx:xs[k]?=none)
  (hE:∀g e,Heap.ExtBut j s.heap g->(∃o,g.get? e=some o/\o.cls=.type "StopIteration")->E (.ref e) { s with heap:=g }):bq (model prog w) A (dn (.ref j)) Q E s:=by
 cases t
 ·exact wpAny_nextOf_list_end hh hj ha hx hE
 ·exact FQ hh hj ha hx hE
theorem AF{t:Bool}{a:Addr}{xs:Array bc}{Q:bc->bd->Prop}(ha:SqK t s.heap a xs)(hQ:Q (.ref s.heap.objs.size) { s with heap:=s.heap.push { cls:=.type (if t then "tuple_iterator" else "list_iterator"),data:=.fields #[.ref a,.int 0 0] } }):bq (model prog w) A (pyIter (.ref a)) Q E s:=by
 cases t
 ·exact wpAny_pyIter_list ha hQ
 ·exact wpAny_pyIter_tuple ha hQ
theorem rN{T:Addr}{c d x:bc}{k:Nat}{Q:Unit->bd->Prop}(hT:ke s.heap T c d)(hQ:∀g,g.get? T=some { cls:=.type "tuple",data:=.seq ((#[c,d]:Array bc).setIfInBounds k x) }->fc T s.heap g->Q () { s with heap:=g }):
  bq (model prog w) A (updateSeq T (·.setIfInBounds k x)) Q E s:=wpAny_updateSeq_pair hT hQ
structure ZAp(z p r i j a b:Addr):Prop where
 pz:p≠z
 rz:r≠z
 iz:i≠z
 jz:j≠z
 pr:p≠r
 pi:p≠i
 pj:p≠j
 ri:r≠i
 rj:r≠j
 ij:i≠j
 az:a≠z
 ar:a≠r
 ai:a≠i
 aj:a≠j
 bz:b≠z
 br:b≠r
 bi:b≠i
 bj:b≠j
theorem Dl{t u:Bool}{z p r i j a b:Addr}{k m:Nat}{xs ys:Array bc}{x y c d:bc}{Q:bc->bd->Prop}(D:ZAp z p r i j a b)(hz:IsZip s.heap z p r .none)(hp:ke s.heap p (.ref i) (.ref j))(hr:ke s.heap r c d)
  (hi:ItK t s.heap i a k) (hj:ItK u s.heap j b m) (ha:SqK t s.heap a xs) (hb:SqK u s.heap b ys) (hx:xs[k]?=some x) (hy:ys[m]?=some y)
  (hQ:∀g,IsZip g z p r (ix s.heap.objs.size)->ke g r x y->ItK t g i a (k+1)->ItK u g j b (m+1)->ke g s.heap.objs.size x y ->
   (∀q o,q≠z->q≠r->q≠i->q≠j->s.heap.get? q=some o->g.get? q=some o)->Q (.ref s.heap.objs.size) { s with heap:=g }):
  bq (model prog w) A (je.«zip.__next__» ⟨[.ref z],[]⟩) (fun fn s'=>∃v,fn=.done (.ret v)/\Q v s') E s:=by
 obtain⟨h0,gs,dr,tk,os⟩:=s;show bq _ _ (field (.ref z) 2 >>= _) _ _ ⟨h0,gs,dr,tk,os⟩;refine bb (cy hz rfl (x:=.bool false) rfl ?_);show bq _ _ (field (.ref z) 3 >>= _) _ _ ⟨h0,gs,dr,tk,os⟩;refine bb (cy hz rfl (x:=.ref p) rfl (bb (ig hp rfl ?_)));show bq _ _ (Builtin.SmallTypes.ownedTupleIsFree (.ref z) >>= _) _ _ ⟨h0,gs,dr,tk,os⟩;refine bb ?_;unfold Builtin.SmallTypes.ownedTupleIsFree;refine bb (cy hz rfl (x:=.none) rfl (bo ?_));simp only[if_true];refine bb (wpAny_rule (bb (cy hz rfl (x:=.ref r) rfl (bb (jc hz yv fun g1 z1 b1=>?_)))));replace z1:IsZip g1 z p r .ellipsis:=z1;replace b1:fc z h0 g1:=b1;refine bb ?_;simp only[List.zipIdx_cons,List.zipIdx_nil,forIn_cons,List.forIn_nil];refine bb (bb (wpAny_onRaise ?_));show bq _ _ (dn (.ref i) >>= _) _ _ ⟨g1,gs,dr,tk,os⟩;refine bb (qR (s:=⟨g1,gs,dr,tk,os⟩) (hi.at fun o e=>b1.extBut i o D.iz e) (ha.at fun o e=>b1.extBut a o D.az e) hx fun g2 i2 b2=>bo ?_);replace b2:fc i g1 g2:=b2;have r2:ke g2 r c d:=b2.extBut r _ D.ri (b1.extBut r _ D.rz hr);refine bb (ig (s:=⟨g2,gs,dr,tk,os⟩) r2 rfl (bb (rN (s:=⟨g2,gs,dr,tk,os⟩) r2 fun g3 r3 b3=>?_)));replace r3:ke g3 r x d:=r3;replace b3:fc r g2 g3:=b3;refine bb (wpAny_letGo (bo (bb (bb (wpAny_onRaise ?_)))));show bq _ _ (dn (.ref j) >>= _) _ _ ⟨g3,gs,dr,tk,os⟩;have aa:∀q o,q≠z->q≠r->q≠i->h0.get? q=some o->g3.get? q=some o:=fun q o n1 n2 n3 e=>b3.extBut q o n2 (b2.extBut q o n3 (b1.extBut q o n1 e));refine bb (qR (s:=⟨g3,gs,dr,tk,os⟩) (hj.at fun o e=>aa j o D.jz (dy D.rj) (dy D.ij) e) (hb.at fun o e=>aa b o D.bz D.br D.bi e) hy fun g4 j4 b4=>bo ?_);replace b4:fc j g3 g4:=b4;have r4:ke g4 r x d:=b4.extBut r _ D.rj r3;refine bb (ig (s:=⟨g4,gs,dr,tk,os⟩) r4 rfl (bb (rN (s:=⟨g4,gs,dr,tk,os⟩) r4 fun g5 r5 b5=>?_)));replace r5:ke g5 r x y:=r5;replace b5:fc r g4 g5:=b5;refine bb (wpAny_letGo (bo (bo (bb (ig (s:=⟨g5,gs,dr,tk,os⟩) r5 rfl (bb (wpAny_newTuple ?_)))))));have sz:g5.objs.size=h0.objs.size:=by rw[b5.1,b4.1,b3.1,b2.1,b1.1]
 have z5:IsZip g5 z p r .ellipsis:=b5.extBut z _ (dy D.rz) (b4.extBut z _ (dy D.jz) (b3.extBut z _ (dy D.rz) (b2.extBut z _ (dy D.iz) z1)));have k5:∀q o,q≠z->q≠r->q≠i->q≠j->h0.get? q=some o->g5.get? q=some o:=fun q o n1 n2 n3 n4 e=>b5.extBut q o n2 (b4.extBut q o n4 (aa q o n1 n2 n3 e));have i5:ItK t g5 i a (k+1):=ItK.at i2 fun o e=>b5.extBut i o (dy D.ri) (b4.extBut i o D.ij (b3.extBut i o (dy D.ri) e));have j5:ItK u g5 j b (m+1):=ItK.at j4 fun o e=>b5.extBut j o (dy D.rj) e;have zl:z<g5.objs.size:=cv z5;show bq _ _ (Builtin.SmallTypes.ownedTupleHandOut (.ref z) (.ref g5.objs.size) >>= _) _ _ _;refine bb ?_;unfold Builtin.SmallTypes.ownedTupleHandOut;have z6:IsZip (g5.push { cls:=.type "tuple",data:=.seq #[x,y] }) z p r .ellipsis:=bg _ z5;refine bb (jc z6 yv fun g7 z7 b7=>?_);replace z7:IsZip g7 z p r (ix g5.objs.size):=z7;replace b7:fc z (g5.push { cls:=.type "tuple",data:=.seq #[x,y] }) g7:=b7;refine jc z7 yv fun g8 z8 b8=>?_;replace z8:IsZip g8 z p r (ix g5.objs.size):=z8;replace b8:fc z g7 g8:=b8;have up:∀q o,q≠z->g5.get? q=some o->g8.get? q=some o:=fun q o n e=>b8.extBut q o n (b7.extBut q o n (bg _ e));have t8:ke g8 g5.objs.size x y:=b8.extBut _ _ (ne_of_gt zl) (b7.extBut _ _ (ne_of_gt zl) (bu _ rfl));rw[sz]at z8 t8;refine bo ⟨_,rfl,?_⟩;show Q (.ref g5.objs.size) _;rw[sz];exact hQ g8 z8 (up r _ D.rz r5) (i5.at fun o e=>up i o D.iz e) (j5.at fun o e=>up j o D.jz e) t8 fun q o n1 n2 n3 n4 e=>up q o n1 (k5 q o n1 n2 n3 n4 e)
theorem FU{t u:Bool}{z p r i j a b:Addr}{k m:Nat}{xs ys:Array bc}{c d:bc}{Q:Fin->bd->Prop}(hh:A.handled=none)(D:ZAp z p r i j a b)(hz:IsZip s.heap z p r .none)(hp:ke s.heap p (.ref i) (.ref j))(hr:ke s.heap r c d)
  (hi:ItK t s.heap i a k) (hj:ItK u s.heap j b m) (ha:SqK t s.heap a xs) (hb:SqK u s.heap b ys) (hend:xs[k]?=none\/ys[m]?=none)
  (hE:∀g e,(∀q o,q≠z->q≠r->q≠i->q≠j->s.heap.get? q=some o->g.get? q=some o)->(∃o,g.get? e=some o/\o.cls=.type "StopIteration")->E (.ref e) { s with heap:=g }):
  bq (model prog w) A (je.«zip.__next__» ⟨[.ref z],[]⟩) Q E s:=by
 obtain⟨h0,gs,dr,tk,os⟩:=s;show bq _ _ (field (.ref z) 2 >>= _) _ _ ⟨h0,gs,dr,tk,os⟩;refine bb (cy hz rfl (x:=.bool false) rfl ?_);show bq _ _ (field (.ref z) 3 >>= _) _ _ ⟨h0,gs,dr,tk,os⟩;refine bb (cy hz rfl (x:=.ref p) rfl (bb (ig hp rfl ?_)));show bq _ _ (Builtin.SmallTypes.ownedTupleIsFree (.ref z) >>= _) _ _ ⟨h0,gs,dr,tk,os⟩;refine bb ?_;unfold Builtin.SmallTypes.ownedTupleIsFree;refine bb (cy hz rfl (x:=.none) rfl (bo ?_));simp only[if_true];refine bb (wpAny_rule (bb (cy hz rfl (x:=.ref r) rfl (bb (jc hz yv fun g1 z1 b1=>?_)))));replace z1:IsZip g1 z p r .ellipsis:=z1;replace b1:fc z h0 g1:=b1;refine bb ?_;simp only[List.zipIdx_cons,List.zipIdx_nil,forIn_cons,List.forIn_nil];refine bb (bb (wpAny_onRaise ?_));show bq _ _ (dn (.ref i) >>= _) _ _ ⟨g1,gs,dr,tk,os⟩;have aa:∀{g:Heap}{e:Addr}{o:Obj},IsZip g z p r .ellipsis->g.get? e=some o->o.cls=.type "StopIteration"->e≠z:=fun h1 h2 h3 w=>by
  subst w;rw[h1]at h2;cases h2;simp at h3
 cases hx:xs[k]? with
 |none=>
  refine bb (vN (s:=⟨g1,gs,dr,tk,os⟩) hh (hi.at fun o e=>b1.extBut i o D.iz e) (ha.at fun o e=>b1.extBut a o D.az e) hx fun g2 e b2 he=>?_);obtain⟨oe,e1,e2⟩:=he;have z2:IsZip g2 z p r .ellipsis:=b2 z _ (dy D.iz) z1;exact jc z2 yv fun g3 _ b3=>hE g3 e (fun q o n1 _ n3 _ w=>b3.extBut q o n1 (b2 q o n3 (b1.extBut q o n1 w))) ⟨oe,b3.extBut e oe (aa z2 e1 e2) e1,e2⟩
 |some x=>
  have hy:ys[m]?=none:=hend.elim (fun w=>by rw[hx]at w;cases w) id;refine bb (qR (s:=⟨g1,gs,dr,tk,os⟩) (hi.at fun o e=>b1.extBut i o D.iz e) (ha.at fun o e=>b1.extBut a o D.az e) hx fun g2 i2 b2=>bo ?_);replace b2:fc i g1 g2:=b2;have r2:ke g2 r c d:=b2.extBut r _ D.ri (b1.extBut r _ D.rz hr);refine bb (ig (s:=⟨g2,gs,dr,tk,os⟩) r2 rfl (bb (rN (s:=⟨g2,gs,dr,tk,os⟩) r2 fun g3 r3 b3=>?_)));replace b3:fc r g2 g3:=b3;refine bb (wpAny_letGo (bo (bb (bb (wpAny_onRaise ?_)))));show bq _ _ (dn (.ref j) >>= _) _ _ ⟨g3,gs,dr,tk,os⟩;have ac:∀q o,q≠z->q≠r->q≠i->h0.get? q=some o->g3.get? q=some o:=fun q o n1 n2 n3 e=>b3.extBut q o n2 (b2.extBut q o n3 (b1.extBut q o n1 e));refine bb (vN (s:=⟨g3,gs,dr,tk,os⟩) hh (hj.at fun o e=>ac j o D.jz (dy D.rj) (dy D.ij) e) (hb.at fun o e=>ac b o D.bz D.br D.bi e) hy fun g4 e b4 he=>?_);obtain⟨oe,e1,e2⟩:=he;have z4:IsZip g4 z p r .ellipsis:=b4 z _ (dy D.jz) (b3.extBut z _ (dy D.rz) (b2.extBut z _ (dy D.iz) z1));exact jc z4 yv fun g5 _ b5=>hE g5 e (fun q o n1 n2 n3 n4 w=>b5.extBut q o n1 (b4 q o n4 (ac q o n1 n2 n3 w))) ⟨oe,b5.extBut e oe (aa z4 e1 e2) e1,e2⟩
abbrev g6 (t:Bool) (h:Heap) (a:Addr):Heap:=h.push { cls:=.type (if t then "tuple_iterator" else "list_iterator"),data:=.fields #[.ref a,.int 0 0] }
abbrev fB (t u:Bool) (h:Heap) (a b:Addr):Heap:=(g6 t h a).push { cls:=.type (if u then "tuple_iterator" else "list_iterator"),data:=.fields #[.ref b,.int 0 0] }
abbrev fQ (t u:Bool) (h:Heap) (a b:Addr):Heap:=(fB t u h a b).push { cls:=.type "tuple",data:=.seq #[.ref h.objs.size,.ref (g6 t h a).objs.size] }
abbrev gG (t u:Bool) (h:Heap) (a b:Addr):Heap:=(fQ t u h a b).push { cls:=.type "tuple",data:=.seq #[.none,.none] }
abbrev qT (t u:Bool) (h:Heap) (a b:Addr):Heap:=(gG t u h a b).push { cls:=.type "zip",data:=.fields #[.none,.bool false,.bool false,.ref (fB t u h a b).objs.size,.ref (fQ t u h a b).objs.size] }
theorem Bz(t u:Bool)(a b:Addr)(xs ys:Array bc):Meets (je.«zip.__new__» ⟨[.type "zip",.ref a,.ref b],[]⟩) (fun _ R s=>SqK t s.heap a xs/\SqK u s.heap b ys /\
   ∀g,IsZip g (s.heap.objs.size+4) (s.heap.objs.size+2) (s.heap.objs.size+3) .none->ke g (s.heap.objs.size+2) (.ref s.heap.objs.size) (.ref (s.heap.objs.size+1))->ke g (s.heap.objs.size+3) .none .none ->
    ItK t g s.heap.objs.size a 0->ItK u g (s.heap.objs.size+1) b 0->(∀q o,s.heap.get? q=some o->g.get? q=some o)->R (.ok (.ret (.ref (s.heap.objs.size+4)))) { s with heap:=g }):=
 .of_wp fun prog w A R s p=>by
  obtain⟨g0,gs,dr,tk,os⟩:=s;obtain⟨ha,hb,p⟩:=p;have sub:=sub_zip;have hA:SqK t (Shared.heap ⟨g0,gs,dr,tk,os⟩) a xs:=ha;have hB:SqK u (Shared.heap ⟨g0.push { cls:=.type (if t then "tuple_iterator" else "list_iterator"),data:=.fields #[.ref a,.int 0 0] },gs,dr,tk,os⟩) b ys:=SqK.at hb fun o e=>bg _ e
  wp_walk using AF hA,AF hB
  refine⟨_,rfl,?_⟩;have z1:(g6 t g0 a).objs.size=g0.objs.size+1:=size_push ..;have z2:(fB t u g0 a b).objs.size=g0.objs.size+2:=by rw[size_push,z1]
  have z3:(fQ t u g0 a b).objs.size=g0.objs.size+3:=by rw[size_push,z2]
  have z4:(gG t u g0 a b).objs.size=g0.objs.size+4:=by rw[size_push,z3]
  have f1:=bu g0 (o:={ cls:=.type (if t then "tuple_iterator" else "list_iterator"),data:=.fields #[.ref a,.int 0 0] }) (by cases t<;>rfl);have f2:=bu (g6 t g0 a) (o:={ cls:=.type (if u then "tuple_iterator" else "list_iterator"),data:=.fields #[.ref b,.int 0 0] }) (by cases u<;>rfl);have f3:=bu (fB t u g0 a b) (o:={ cls:=.type "tuple",data:=.seq #[.ref g0.objs.size,.ref (g6 t g0 a).objs.size] }) rfl;have f4:=bu (fQ t u g0 a b) (o:={ cls:=.type "tuple",data:=.seq #[.none,.none] }) rfl;have f5:=bu (gG t u g0 a b) (o:={ cls:=.type "zip",data:=.fields #[.none,.bool false,.bool false,.ref (fB t u g0 a b).objs.size,.ref (fQ t u g0 a b).objs.size] }) rfl;have c1:∀q o,g0.get? q=some o->(g6 t g0 a).get? q=some o:=fun q o e=>bg _ e;have c2:∀q o,(g6 t g0 a).get? q=some o->(fB t u g0 a b).get? q=some o:=fun q o e=>bg _ e;have c3:∀q o,(fB t u g0 a b).get? q=some o->(fQ t u g0 a b).get? q=some o:=fun q o e=>bg _ e;have c4:∀q o,(fQ t u g0 a b).get? q=some o->(gG t u g0 a b).get? q=some o:=fun q o e=>bg _ e;have c5:∀q o,(gG t u g0 a b).get? q=some o->(qT t u g0 a b).get? q=some o:=fun q o e=>bg _ e;have y1:=c5 _ _ (c4 _ _ (c3 _ _ (c2 _ _ f1)));have y2:=c5 _ _ (c4 _ _ (c3 _ _ f2));have y3:=c5 _ _ (c4 _ _ f3);have y4:=c5 _ _ f4;have y5:(qT t u g0 a b).get? (gG t u g0 a b).objs.size=some { cls:=.type "zip",data:=.fields #[.none,.bool false,.bool false,.ref (fB t u g0 a b).objs.size,.ref (fQ t u g0 a b).objs.size] }:=f5;have fin:R (.ok (.ret (.ref (gG t u g0 a b).objs.size))) ⟨qT t u g0 a b,gs,dr,tk,os⟩:=by
   rw[z4,z2,z3]at y5;rw[z2,z1]at y3;rw[z3]at y4;rw[z1]at y2;rw[z4];refine p _ y5 y3 y4 ?_ ?_ fun q o e=>c5 q o (c4 q o (c3 q o (c2 q o (c1 q o e))))
   ·cases t<;>exact⟨_,y1,rfl,rfl⟩
   ·cases u<;>exact⟨_,y2,rfl,rfl⟩
  exact fin
theorem Em{t u:Bool}{a b:Addr}{xs ys:Array bc}{Q:bc->bd->Prop}(ha:SqK t s.heap a xs)(hb:SqK u s.heap b ys)
  (hyp:∀g,IsZip g (s.heap.objs.size+4) (s.heap.objs.size+2) (s.heap.objs.size+3) .none->ke g (s.heap.objs.size+2) (.ref s.heap.objs.size) (.ref (s.heap.objs.size+1))->ke g (s.heap.objs.size+3) .none .none ->
    ItK t g s.heap.objs.size a 0->ItK u g (s.heap.objs.size+1) b 0->(∀q o,s.heap.get? q=some o->g.get? q=some o)->Q (.ref (s.heap.objs.size+4)) { s with heap:=g }):bq (model prog w) A (call (.type "zip") [.ref a,.ref b]) Q E s:=by
 refine callType_new F.called_zip dz (F.typeCall_zip_2 _ _) (F.newCall_zip_2 _ _) (fun ob=>F.args_object_init_3 ob _ _) F.entry_zip_new (Bz t u a b xs ys) ⟨ha,hb,fun g h1 h2 h3 h4 h5 h6=>?_⟩;exact⟨⟨_,h1,rfl⟩,hyp g h1 h2 h3 h4 h5 h6⟩
end
def Itz(S1 S2:Hp->Addr->List V->Prop)(a b:Addr):It:=
 ⟨fun i H=>∃xs ys x y,S1 H a xs/\S2 H b ys/\xs[i]?=some x/\ys[i]?=some y,fun i H x H'=>∃p v u,H p=none/\x=.ref p/\H'=upd H p (.tup [v,u])/\(∀xs,S1 H a xs->xs[i]?=some v)/\(∀ys,S2 H b ys->ys[i]?=some u),fun i H=>∃xs ys,S1 H a xs/\S2 H b ys/\(xs.length<=i\/ys.length<=i)⟩
def SqV(K:bn)(t:Bool)(H:Hp)(a:Addr)(xs:List V):Prop:=match t with
 |true=>SqT K H a xs
 |false=>SqL K H a xs
theorem Inv.seqK{X:Cx}{zc:List (Addr×Obj)}{σ:St}{H:Hp}{s:bd}{t:Bool}{a:Addr}{xs:List V}(I:Inv X zc σ H s)(h:SqV X.K t H a xs):∃z:List bc,Vals xs z/\SqK t s.heap a z.toArray/\∀ys,SqV X.K t H a ys->ys=xs:=by
 cases t
 ·obtain⟨z,rv,p,_⟩:=I.list h;exact⟨z,rv,p.isList,fun ys hy=>I.list_inj hy h⟩
 ·obtain⟨z,rv,p,_⟩:=I.tuple h;exact⟨z,rv,p,fun ys hy=>I.tuple_inj hy h⟩
theorem C1{P:bw}{w:df}{K:bn}{elts:List Expr}{n:Nat}{pos:Pos}(t u:Bool)(z p r i j a b:Addr)(D:ZAp z p r i j a b):Turn P w K (.Tuple elts n pos) (Itz (SqV K t) (SqV K u) a b) [z,p,r,i,j] z
  (fun k h=>IsZip h z p r .none/\ke h p (.ref i) (.ref j)/\(∃c d,ke h r c d)/\ItK t h i a k/\ItK u h j b k) where
 mem:=by simp
 obj:=fun k h ⟨h1,h2,⟨c,d,h3⟩,h4,h5⟩ q hq=>by
  simp only[gy,fi,or_false]at hq;rcases hq with rfl|rfl|rfl|rfl|rfl
  ·exact⟨_,h1,fun v e=>by cases (show Data.fields _=Data.cell v from e)⟩
  ·exact⟨_,h2,fun v e=>by cases (show Data.seq _ _=Data.cell v from e)⟩
  ·exact⟨_,h3,fun v e=>by cases (show Data.seq _ _=Data.cell v from e)⟩
  ·exact h4.here
  ·exact h5.here
 keep:=fun k h h' ⟨h1,h2,⟨c,d,h3⟩,h4,h5⟩ f=>⟨f z yv _ h1,f p yv _ h2,⟨c,d,f r yv _ h3⟩,h4.at fun o e=>f i yv o e,h5.at fun o e=>f j yv o e⟩
 item:=by
  intro X hP hw hK hc k zc s σ H E I hf st hg;subst hP hw hK;obtain⟨xs,ys,x,y,q1,q2,ex,ey⟩:=hg;obtain⟨ai,rv,sq,inj⟩:=I.seqK q1;obtain⟨ah,ac,af,aa⟩:=I.seqK q2;obtain⟨v1,e1,r1⟩:=rv.get ex;obtain⟨v2,e2,r2⟩:=ac.get ey;obtain⟨h1,h2,⟨c,d,h3⟩,h4,h5⟩:=st;have ty:s.TypeIs (.ref z) "zip":=⟨_,h1,rfl⟩;unfold pyNext;refine bb (ko (fr (name:=jx "__next__") ty F.slot_zip_next (gw F.slot_zip_next ty F.entry_zip_next
   (Dl D h1 h2 h3 h4 h5 sq af (by simpa using e1) (by simpa using e2) fun g a1 a2 a3 a4 a5 kk=>bo ⟨_,rfl,?_⟩) (F.args_zip_next_1 _))))
  refine wpAny_letOwnedTupleGo_zip (s:={ s with heap:=g }) a1 fun g' z' b'=>?_;have lt:∀{q o},s.heap.get? q=some o->s.heap.objs.size≠q:=fun e=>ne_of_gt (cv e);have b'':fc z g g':=b';have pT:ke g' s.heap.objs.size v1 v2:=b''.extBut _ _ (lt h1) a5;have hn:=I.hok.fresh (cq s.heap.objs.size);have ag:∀q o,q∉[z,r,i,j]->s.heap.get? q=some o->g'.get? q=some o:=fun q o hq e=>by
   simp only[gy,fi,or_false,not_or]at hq;exact b''.extBut q o hq.1 (kk q o hq.1 hq.2.1 hq.2.2.1 hq.2.2.2 e)
  have I1:Inv X zc σ (upd H s.heap.objs.size (.tup [x,y])) { s with heap:=g' }:=I.turnLaid (t':=s.toks) (ch:=[z,r,i,j]) ag (fun q hq=>hf q (by
   simp only[gy,fi,or_false]at hq ⊢;rcases hq with h|h|h|h
   ·exact .inl h
   ·exact .inr (.inr (.inl h))
   ·exact .inr (.inr (.inr (.inl h)))
   ·exact .inr (.inr (.inr (.inr h))))) (cq _) ⟨⟨by show 2<=bt;decide,_,pT,rfl⟩,[v1,v2],.cons r1 (.cons r2 .nil),⟨_,pT,rfl,_,rfl⟩⟩
  have ae:∀q,q∈[z,p,r,i,j]->q≠s.heap.objs.size:=fun q hq w=>by
   simp only[gy,fi,or_false]at hq;obtain⟨o1,w1,_⟩:=h4.here;obtain⟨o2,w2,_⟩:=h5.here;rcases hq with h|h|h|h|h
   ·exact lt h1 (w.symm.trans h)
   ·exact lt h2 (w.symm.trans h)
   ·exact lt h3 (w.symm.trans h)
   ·exact lt w1 (w.symm.trans h)
   ·exact lt w2 (w.symm.trans h)
  refine⟨.ref s.heap.objs.size,_,I1,rfl,⟨_,x,y,hn,rfl,rfl,fun zs hz=>by rw[inj zs hz];exact ex,fun zs hz=>by rw[aa zs hz];exact ey⟩,⟨z',ag p _ (by simp[D.pz,D.pr,D.pi,D.pj]) h2,⟨_,_,b''.extBut r _ D.rz a2⟩,a3.at fun o e=>b''.extBut i o D.iz e,a4.at fun o e=>b''.extBut j o D.jz e⟩,fun q hq=>?_⟩;rw[zu (ae q hq)];exact(hf q hq).1
 done:=by
  intro X hP hw hK hc k zc s σ H E I hf st hg;subst hP hw hK;obtain⟨xs,ys,q1,q2,hl⟩:=hg;obtain⟨ai,rv,sq,inj⟩:=I.seqK q1;obtain⟨ah,ac,af,aa⟩:=I.seqK q2;obtain⟨h1,h2,⟨c,d,h3⟩,h4,h5⟩:=st;have l1:=rv.length;have l2:=ac.length;have ty:s.TypeIs (.ref z) "zip":=⟨_,h1,rfl⟩;unfold pyNext;refine bb (ko (fr (name:=jx "__next__") ty F.slot_zip_next (gw F.slot_zip_next ty F.entry_zip_next
   (FU (I.ok.hd hc) D h1 h2 h3 h4 h5 sq af (hl.elim (fun h=>.inl (by simp;omega)) fun h=>.inr (by simp;omega)) fun g e kk he=>?_) (F.args_zip_next_1 _))))
  obtain⟨o,ho,aj⟩:=he;refine bb (wpAny_isInstance (T:="StopIteration") (b:=true) ⟨o,ho,aj⟩ isSubtype_stop (bo ⟨rfl,?_⟩));refine I.turnedN (t':=s.toks) (ch:=[z,r,i,j]) (fun q o hq e=>?_) fun q hq=>hf q (by
   simp only[gy,fi,or_false]at hq ⊢;rcases hq with h|h|h|h
   ·exact .inl h
   ·exact .inr (.inr (.inl h))
   ·exact .inr (.inr (.inr (.inl h)))
   ·exact .inr (.inr (.inr (.inr h))))
  simp only[gy,fi,or_false,not_or]at hq;exact kk q o hq.1 hq.2.1 hq.2.2.1 hq.2.2.2 e
 self:=fun _ _ _ _ _ st h=>wpAny_pyIter_zip st.1 h
theorem nne{a b:Nat}(h:a<b\/b<a):(show Addr from a)≠(show Addr from b):=fun e=>by
 have e':a=b:=e;omega
theorem BY(N a b:Nat)(ha:a<N)(hb:b<N):ZAp (N+4) (N+2) (N+3) N (N+1) a b:=by
 constructor<;>exact nne yw
theorem FD(N q:Nat)(hq:q=N+4\/q=N+2\/q=N+3\/q=N\/q=N+1):N<=q:=yw
section
variable {X:Cx}{elts:List Expr}{n:Nat}{tpos:Pos}
theorem CH:fk "zip" = some (.type "zip"):=by decide +kernel
def wZ(K:bn)(ta:TA):TI:=fun σ H R=>ta σ H fun vs H1=>∃a b t u,vs=[.ref a,.ref b]/\(∃xs,SqV K t H1 a xs)/\(∃ys,SqV K u H1 b ys)/\R (Itz (SqV K t) (SqV K u) a b) H1
theorem wB{e1 e2:Expr}{ta:TA}{p pos:Pos}(hg:Gl X "zip")(hm:X.mg "zip" = none)(ha:PA X [e1,e2] ta)(hs:bv [e1,e2] X.env=[(false,eval e1 X.env),(false,eval e2 X.env)]:=by rfl)(aa:bv [e2] X.env=[(false,eval e2 X.env)]:=by rfl):
  PI X (.Tuple elts n tpos) (.Call (.Name "zip" p) [e1,e2] [] pos) (wZ X.K ta):=by
 intro zc s σ H R I h;refine Call_ (fD I hg hm CH (fz (thn (ha pos zc s σ H _ I h) fun us s1 ⟨vs,H1,I1,r1,q1⟩=>?_) (by rw[hs,aa]) (by rw[aa];rfl)));obtain⟨a,b,t,u,e,⟨xs,q1⟩,⟨ys,q2⟩,q⟩:=q1;subst e;cases r1 with
 |cons r rr=>
  cases rr with
  |cons r' rr=>
   cases rr;cases r;cases r';obtain⟨ae,rv,sq,_⟩:=I1.seqK q1;obtain⟨ac,af,z,_⟩:=I1.seqK q2;refine Em sq z fun g h1 h2 h3 h4 h5 k=>?_;refine wpAny_pyIter_zip (s:={ s1 with heap:=g }) h1 ?_
   have I2:Inv X zc σ H1 { s1 with heap:=g }:=I1.kept (t':=s1.toks) k;obtain⟨oa,fa⟩:=sq.here;obtain⟨ob,fb⟩:=z.here;have la:=cv fa;have lb:=cv fb;have D:ZAp (s1.heap.objs.size+4) (s1.heap.objs.size+2) (s1.heap.objs.size+3) s1.heap.objs.size (s1.heap.objs.size+1) a b:=BY _ _ _ la lb;refine⟨_,[s1.heap.objs.size+4,s1.heap.objs.size+2,s1.heap.objs.size+3,s1.heap.objs.size,s1.heap.objs.size+1],_,_,H1,rfl,I2,C1 t u _ _ _ _ _ a b D,⟨h1,h2,⟨_,_,h3⟩,h4,h5⟩,fun q hq=>?_,q⟩;have hl:s1.heap.objs.size<=q:=by
    simp only[gy,fi,or_false]at hq;exact FD _ _ hq
   exact I1.fpOk hl (I1.hok.fresh hl)
end
def aX:List be->List be->List be
 |d::ds,e::es=>.tuple [d,e]::aX ds es
 |_,_=>[]
theorem pE:∀(ds es:List be) (k:Nat) (x:be),(aX ds es)[k]?=some x->∃d e,ds[k]?=some d/\es[k]?=some e/\x=.tuple [d,e]
 | [],_,_,_,h=>by simp[aX]at h
 |_::_,[],_,_,h=>by simp[aX]at h
 |d::ds,e::es,0,x,h=>by
  have e':PyData.tuple [d,e]=x:=by simpa[aX]using h
  exact⟨d,e,rfl,rfl,e'.symm⟩
 |d::ds,e::es,k+1,x,h=>by
  obtain⟨d',e',h1,h2,h3⟩:=pE ds es k x (by simpa[aX]using h);exact⟨d',e',by simpa using h1,by simpa using h2,h3⟩
theorem vG:∀(ds es:List be),(aX ds es).length=min ds.length es.length
 | [],_=>by simp[aX]
 |_::_,[]=>by simp[aX]
 |d::ds,e::es=>by simp[aX,vG ds es];try omega
theorem yX{α β:Type}(f:α->be)(g:β->be):∀(xs:List α) (ys:List β),aX (xs.map f) (ys.map g)=(xs.zip ys).map fun q=>.tuple [f q.1,g q.2]
 | [],_=>by simp[aX]
 |_::_,[]=>by simp[aX]
 |x::xs,y::ys=>by simp[aX,yX f g xs ys]
def fR(a:DA):DI:=fun δ S R=>a δ S fun xs S1=>arg2 xs fun x y=>∃ds,cI x=some ds/\∃es,cI y=some es/\R (aX ds es) S1
theorem sR{K:bn}{h o:List Addr}{H:Hp}{x:XV}{v:V}{ds:List be}(e:cI x=some ds)(q:HasX h o H x v):∃t a ws,v=.ref a/\HasL (vx h o H) ds ws/\∀{o2 H2},ExH h o H o2 H2->SqV K t H2 a ws:=by
 unfold cI at e;split at e
 ·cases e;obtain⟨a,ws,rfl,ea,l⟩:=zZ.mp (show Has (vx h o H) (.list ds) v from q);exact⟨false,a,ws,rfl,l,fun e2=>(SqL.of (zH _ _ (e2.vx _ _ ea)):SqL K _ a ws)⟩
 ·cases e;obtain⟨a,ws,rfl,ea,l⟩:=zX.mp (show Has (vx h o H) (.tuple ds) v from q);exact⟨true,a,ws,rfl,l,fun e2=>(SqT.of (zH _ _ (e2.vx _ _ ea)):SqT K _ a ws)⟩
 ·cases e
theorem tI{K:bn}{ta:TA}{da:DA}(ha:RA ta da):RI (wZ K ta) (fR da):=fun h o H δ σ S R Q he hs q c=>
 ha h o H δ σ S _ _ he hs q fun o1 H1 S1 xs vs e1 s1 x1 d0=>by
  obtain⟨x,y,rfl,ds,hd,es,ae,d1⟩:=lM d0;obtain⟨v,u,rfl,hv,hu⟩:=hxs2 x1;obtain⟨t,a,ws,rfl,l,k1⟩:=sR (K:=K) hd hv;obtain⟨t',b,zs,rfl,l',k2⟩:=sR (K:=K) ae hu;have hl:=l.length;have ag:=l'.length;refine⟨a,b,t,t',rfl,⟨ws,k1 ExH.refl⟩,⟨zs,k2 ExH.refl⟩,c o1 H1 S1 _ _ e1 s1 ⟨fun i o2 H2 e2 hi=>⟨ws,zs,k1 e2,k2 e2,by rw[vG]at hi;omega⟩,fun i d o2 H2 e2 hi=>?_,fun i d o2 H2 x H3 S2 e2 s2 hi y=>?_⟩ d1⟩
  ·obtain⟨d',e',h1,h2,rfl⟩:=pE ds es i d hi;obtain⟨u1,aa,_⟩:=l.get h1;obtain⟨u2,z,_⟩:=l'.get h2;exact⟨ws,zs,u1,u2,k1 e2,k2 e2,aa,z⟩
  ·obtain⟨d',e',h1,h2,rfl⟩:=pE ds es i d hi;obtain⟨u1,aa,af⟩:=l.get h1;obtain⟨u2,z,ac⟩:=l'.get h2;obtain⟨p,v,u,hp,rfl,rfl,y1,y2⟩:=y;have f1:=y1 ws (k1 e2);have f2:=y2 zs (k2 e2);rw[aa]at f1;rw[z]at f2;cases f1;cases f2;exact⟨Same.laid hp,zX.mpr ⟨p,_,rfl,s2.laid hp,zo.mpr ⟨_,_,rfl,(af.mono e2.vx).mono (jA (Same.laid hp)),zo.mpr ⟨_,_,rfl,(ac.mono e2.vx).mono (jA (Same.laid hp)),zx.mpr rfl⟩⟩⟩⟩
end
section
open Sem (wp)
section
variable {S:Sto}{P:Sto->List be->Prop}{a b c d:List be}{x:List be}
theorem eY{S0:Sto}:(∃T ds,S0++[x]=T++[ds]/\P T ds)↔P S0 x:=by
 constructor
 ·rintro⟨T,ds,e,q⟩;obtain⟨rfl,e2⟩:=List.append_inj' e rfl;cases e2;exact q
 ·exact fun q=>⟨S0,x,rfl,q⟩
theorem lS:(∃T ds,[a]=T++[ds]/\P T ds)↔P [] a:=eY (S0:=[])
theorem k6:(∃T ds,[a,b]=T++[ds]/\P T ds)↔P [a] b:=eY (S0:=[a])
theorem k9:(∃T ds,[a,b,c]=T++[ds]/\P T ds)↔P [a,b] c:=eY (S0:=[a,b])
end
section
variable {n k:Nat}{ds:List be}{d:be}{v:V}
theorem kX:frz n ds (some (.d d))=some (.d d):=rfl
theorem mQ:frz n ds (some (.l k))=if k=n then some (.d (.list ds))else some (.l k):=rfl
end
section
variable {α:Type}{n:Nat}{g:DG}{tt:DT}{te:DE}{fin:Sto->Prop}{S0:Sto}{caps:XE}
theorem v9{h:α->be}{f:α->be}(P:XE->Prop)(hn:S0.length=n)(l:List α)(τ:XE)(hP:P τ)(hl:l.length<=1000)
  (el:∀x∈l,∀ τ acc (R:XE->RX),P τ->(∀ τ',P τ'->R τ' (.d (f x)) (S0++[acc]))->g (.d (h x)) τ (S0++[acc]) fun τ1 S1=>te τ1 S1 (R τ1)) (hf:fin (S0++[l.map f])):bN n g aH te fin (l.map h) τ (S0++[[]]):=by
 have go:∀(l:List α) (acc:List be) (τ:XE),P τ->acc.length+l.length<=1000->(∀x∈l,∀ τ acc (R:XE->RX),P τ->(∀ τ',P τ'->R τ' (.d (f x)) (S0++[acc]))->g (.d (h x)) τ (S0++[acc]) fun τ1 S1=>te τ1 S1 (R τ1)) ->
   fin (S0++[acc++l.map f])->bN n g aH te fin (l.map h) τ (S0++[acc]):=by
  intro l;induction l with
  |nil=>intro acc τ _ _ _ h;rw[map_nil,gu]at h;exact h
  |cons x l ih=>
   intro acc τ hP hl el hh;show g (.d (h x)) τ (S0++[acc]) fun τ1 S1=>aH τ1 S1 fun b S2=>if b=true then te τ1 S2 fun x S3=>asD x fun e=>∃acc,S3[n]?=some acc/\acc.length<1000/\bN n g aH te fin (l.map h) τ1 (S3.set n (acc++[e]))else bN n g aH te fin (l.map h) τ1 S2
   simp only[aH,↓reduceIte];rw[fm]at hl;refine el x dm τ acc (fun τ1 x S3=>asD x fun e=>∃acc,S3[n]?=some acc/\acc.length<1000/\bN n g aH te fin (l.map h) τ1 (S3.set n (acc++[e]))) hP fun τ' p=>?_;refine⟨acc,by rw[<- hn,bp],yw,?_⟩;rw[wW hn];refine ih (acc++[f x]) τ' p (by rw[bx,fj];omega) (fun e m=>el e (ck _ m)) ?_;rw[append_assoc];exact hh
 exact go l [] τ hP (by simpa using hl) el (by simpa using hf)
theorem cmp1{h:α->be}(f:α->be)(hn:S0.length=n)(l:List α){u:Option XV}(hl:l.length<=1000)
  (el:∀x∈l,∀(u:Option XV) acc (R:XE->RX),(∀u',R (u'::caps) (.d (f x)) (S0++[acc]))->g (.d (h x)) (u::caps) (S0++[acc]) fun τ1 S1=>te τ1 S1 (R τ1)) (hf:fin (S0++[l.map f])):bN n g aH te fin (l.map h) (u::caps) (S0++[[]]):=
 v9 (fun τ=>∃u,τ=u::caps) hn l _ ⟨u,rfl⟩ hl (fun x m τ acc R ⟨u,e⟩ k=>by subst e;exact el x m u acc R fun u'=>k _ ⟨u',rfl⟩) hf
theorem cmp2{h:α->be}(f:α->be)(hn:S0.length=n)(l:List α){u v:Option XV}(hl:l.length<=1000)
  (el:∀x∈l,∀(u v:Option XV) acc (R:XE->RX),(∀u' v',R (u'::v'::caps) (.d (f x)) (S0++[acc]))->g (.d (h x)) (u::v::caps) (S0++[acc]) fun τ1 S1=>te τ1 S1 (R τ1)) (hf:fin (S0++[l.map f])):bN n g aH te fin (l.map h) (u::v::caps) (S0++[[]]):=
 v9 (fun τ=>∃u v,τ=u::v::caps) hn l _ ⟨u,v,rfl⟩ hl (fun x m τ acc R ⟨u,v,e⟩ k=>by subst e;exact el x m u v acc R fun u' v'=>k _ ⟨u',v',rfl⟩) hf
end
end
section
section
variable {X:Cx}{e ek:Expr}{te tk:TE}{pos p2:Pos}
def CS(K:bn):V->Hp->VK->Prop:=fun x H Q=>∃a xs,x=.ref a/\SqL K H a xs/\∀p,H p=none->Q (.ref p) (upd H p (.lst xs.reverse))
def uM(K:bn)(te tk:TE):TE:=fun σ H Q=>te σ H fun x H1=>tk σ H1 fun y H2=>y=.int (-1)/\CS K x H2 Q
theorem Vals.rev{xs:List V}{us:List bc}(r:Vals xs us):Vals xs.reverse us.reverse:=by
 induction r with
 |nil=>exact .nil
 |cons h _ ih=>
  rw[ky,ky];exact ih.append (.cons h .nil)
theorem FT(he:PE X e te)(hk:PE X ek tk):PE X (.Subscript e (.Slice none none (some ek) p2) pos) (uM X.K te tk):=by
 intro zc s σ H Q I h;refine Subscript_ (thn (he zc s σ H _ I h) fun v s1 ⟨x,H1,I1,r1,q1⟩=>?_);refine wpAny_Slice ?_;rw[evalPart_none];refine bo (bo ?_);rw[evalPart_some];refine thn (hk zc s1 σ H1 _ I1 q1) fun vk s3 ⟨y,H3,I3,ry,q3⟩=>?_;obtain⟨rfl,a,xs,rfl,hx,q⟩:=q3;obtain⟨t,rfl⟩:=ry;cases r1;have I4:Inv X zc σ H3 { s3 with heap:=s3.heap.push { cls:=.type "slice",data:=.fields #[.none,.none,.int (-1) t] } }:=I3.kept (t':=s3.toks) fun b ob q=>bg _ q;obtain⟨z,r,ht,hz⟩:=I4.list hx;have p:=r.length;show bq (model X.prog X.w) X.A (subscriptTail e (.Slice none none (some ek) p2) (.ref a) (.ref s3.heap.objs.size)) (EP X zc σ Q) X.xe { s3 with heap:=s3.heap.push { cls:=.type "slice",data:=.fields #[.none,.none,.int (-1) t] } };refine tail_any (ops:=[.ref a,.ref s3.heap.objs.size]) ht.isList.typeIs slot_list_getitem.lookup ?_ (by with_unfolding_all rfl);refine wpAny_getItem_list_slice ht.isList (Heap.IsSliceOf.new ..) .none .none (.int (-1) t) dz ?_ (by rw[cm]<;>omega);rw[W.krv_pick];refine⟨.ref _,_,I4.laid (t':=s3.toks) (o:=.lst xs.reverse) (fun b ob q=>bg _ q) (cq _) ?_,rfl,q _ (I4.hok.fresh (cq _))⟩;exact⟨by rw[length_reverse];exact hz,_,0,r.rev,bu _ rfl⟩
end
def qP(x:XV)(S:Sto)(R:RX):Prop:=match x with
 | .d (.list ds)=>R (.d (.list ds.reverse)) S
 | .l k=>∃ds,S[k]?=some ds/\R (.d (.list ds.reverse)) S
 |_=>False
def fN(e k:DE):DE:=fun δ S R=>e δ S fun x S1=>k δ S1 fun y S2=>y=.d (.int (-1))/\qP x S2 R
theorem CZ{K:bn}{te tk:TE}{de dk:DE}(z:RE te de)(aa:RE tk dk):RE (uM K te tk) (fN de dk):=fun h o H δ σ S R Q he hs q c=>
 z h o H δ σ S _ _ he hs q fun o1 H1 S1 x v e1 s1 x1 d1=>aa h o1 H1 δ σ S1 _ _ (he.mono e1) s1 d1 fun o2 H2 S2 y u e2 s2 y2 d2=>by
  obtain⟨rfl,d2⟩:=d2;refine⟨aS y2,?_⟩;have x2:=x1.mono e2;unfold qP at d2;split at d2
  ·obtain⟨p,vs,rfl,ea,l⟩:=bE s2 (x:=.d (.list _)) rfl x2;exact⟨p,vs,rfl,.of ea,iC s2 l.rev (Cn.pre c (e1.trans e2)) d2⟩
  ·obtain⟨ds,e0,d2⟩:=d2;obtain⟨p,vs,rfl,ea,l⟩:=bE s2 (x:=.l _) e0 x2;exact⟨p,vs,rfl,.of ea,iC s2 l.rev (Cn.pre c (e1.trans e2)) d2⟩
  ·exact d2.elim
section
variable {S:Sto}{R:RX}{ds:List be}{k:Nat}
theorem jW:qP (.d (.list ds)) S R=R (.d (.list ds.reverse)) S:=rfl
end
end
section
@[irreducible] def QSs (X:Cx) (st:List Stmt) (t:TS):Prop:=PSs X st t
theorem QSs.out{X:Cx}{st:List Stmt}{t:TS}(h:QSs X st t):PSs X st t:=by unfold QSs at h;exact h
@[irreducible] def QA (X:Cx) (es:List Expr) (t:TA):Prop:=PA X es t
theorem QA.out{X:Cx}{es:List Expr}{t:TA}(h:QA X es t):PA X es t:=by unfold QA at h;exact h
theorem QA.mk{X:Cx}{es:List Expr}{t:TA}(h:PA X es t):QA X es t:=by unfold QA;exact h
theorem n5{X:Cx}:QA X [] iF:=QA.mk zd
theorem zQ{X:Cx}{e:Expr}{es:List Expr}{te:TE}{t:TA}(ha:PE X e te)(hr:QA X es t)(hs:bv (e::es) X.env=(false,eval e X.env)::bv es X.env:=by rfl):QA X (e::es) (iS te t):=QA.mk (za ha hr.out hs)
theorem n9{X:Cx}{es:List Expr}{t:TA}{pos:Pos}(h:QA X es t):PE X (.List es pos) (iI t):=bA h.out
@[irreducible] def QS (X:Cx) (st:Stmt) (t:TS):Prop:=PS X st t
theorem QS.out{X:Cx}{st:Stmt}{t:TS}(h:QS X st t):PS X st t:=by unfold QS at h;exact h
end
section
section
variable {prog:bw}{w:df}{A:cw}{E:bc->bd->Prop}{s:bd}
abbrev gL (acc:Array bc) (c:Nat):Obj:={ cls:=.type "list",dict:=none,data:=.seq acc c,slots:=#[] }
abbrev pB (lo hi:Int):Obj:={ cls:=.type "longrange_iterator",data:=.fields #[ix lo,ix (ib lo hi 1),ix 1] }
abbrev IntsFrom (lo:Int) (acc:Array bc) (n:Nat):Prop:=ItemsOf (fun i v=>∃t,v=.int (lo+(i:Nat)*1) t) acc n
theorem Dh{R:Result->bd->Prop}{lo:Int}{n L I:Nat}{res:bc}{c0 ag:Nat}{h0:Heap}(hh:A.handled=none)(hn:n<=1000)(ne:L≠I)
  (hI:IsLongIter h0 I (lo+((0:Nat):Int)*1) ((n:Int)-((0:Nat):Int)) 1) (hL:h0.get? L=some (gL #[] c0))
  (hR:∀h' tk acc c,(∀b o,b≠L->b≠I->h0.get? b=some o->h'.get? b=some o)->h'.get? L=some (gL acc c)->IntsFrom lo acc n->R (.ok (.ret res)) { s with heap:=h',toks:=tk }):
  ku (model prog w) A (.builtin "list.extend.loop" ⟨[.ref L,.ref I,res],[]⟩) R { s with heap:=h0,toks:=ag }:=by
 have ac:=(Walks.longrange (prog:=prog) (w:=w) (A:=A.in1) hh I lo 1 n).toS;have aa:n<=bt:=by rw[jv];omega
 have ae:L∉[I]:=by simpa using ne
 refine codeAny_extend_loopS ac aa L ae res n 0 _ #[] c0 rfl (zero_le _) hI hL (ItemsOf.nil _) ?_;intro s' acc c p af z;rw[Moved.eq_with p];refine hR s'.heap s'.toks acc c (fun b o b1 b2 e=>p.heap b o ?_ e) af z;simp only[gy,fi,or_false,not_or];exact⟨b1,b2⟩
theorem AU{R:Result->bd->Prop}{r L:Addr}{lo hi:Int}{t u v:Tok}{n:Nat}(hh:A.handled=none)(hr:IsRange s.heap r lo hi 1 t u v)(ak:Builtin.Range.small lo hi 1=false)(hn:ib lo hi 1=(n:Int))(hl:n<=1000)
  {c0:Nat} (hL:s.heap.get? L=some (gL #[] c0))
  (hR:∀h' tk acc c,(∀b o,b≠L->s.heap.get? b=some o->h'.get? b=some o)->h'.get? L=some (gL acc c)->IntsFrom lo acc n->R (.ok (.ret .none)) { s with heap:=h',toks:=tk }):
  bq (model prog w) A.in1 (Builtin.List.listExtendWith (.ref L) (.ref r) .none)
   (fun f z=>match f with
    | .done g=>R (.ok g) z
    | .again c=>c.quiet=true/\ku (model prog w) A c R z) (fun e z=>R (.error e) z) s:=by
 have ae:L≠r:=fun e=>by
  rw[e,hr]at hL;simp at hL
 have al:L<s.heap.objs.size:=cv hL;have ne:L≠s.heap.objs.size:=ie al;have ag:Builtin.List.listSameRef (.ref L) (.ref r)=false:=by simp[Builtin.List.listSameRef,ae]
 have k1:(ls "range" == ls "list")=false:=by decide
 have k2:(ls "range" == ls "tuple")=false:=by decide
 unfold Builtin.List.listExtendWith;refine bb (wpAny_typeOf (T:="range") ⟨_,hr,rfl⟩ ?_);simp only[ag,k1,k2,Bool.or_false,Bool.false_eq_true,if_false];refine bb (wpAny_pyIter_longrange hr ak ?_);have ah:IsLongIter (s.heap.push (pB lo hi)) s.heap.objs.size (lo+((0:Nat):Int)*1) ((n:Int)-((0:Nat):Int)) 1:=by
  show IsLongIter _ _ _ _ _;rw[<- hn];simpa using bu _ rfl
 have ac:=bg (pB lo hi) hL;refine bb (ic (wpAny_hint_range (n:=n) (bg _ hr) hn yw ?_));have go:∀{h0:Heap}{c0 af:Nat},IsLongIter h0 s.heap.objs.size (lo+((0:Nat):Int)*1) ((n:Int)-((0:Nat):Int)) 1->h0.get? L=some (gL #[] c0)->(∀b o,b≠L->s.heap.get? b=some o->h0.get? b=some o) ->
   ku (model prog w) A (.builtin "list.extend.loop" ⟨[.ref L,.ref s.heap.objs.size,.none],[]⟩) R { s with heap:=h0,toks:=af }:=fun {h0 c0 af} a1 a2 a3=>
  Dh hh hl ne a1 a2 fun h' tk acc c q1 q2 q3=>hR h' tk acc c (fun b o nb e=>q1 b o nb (ie (cv e)) (a3 b o nb e)) q2 q3
 have aa:=plainId_quiet F.plain_extend_loop;refine wpAny_ite_split (fun _=>?_) fun _=>bo ⟨aa _,go ah ac fun b o _ e=>bg _ e⟩;refine bb (wpAny_rule (bb ?_));show bq _ _ (updateSeq L (·.push .none) >>= fun _=>updateSeq L (·.pop)) _ _ _;refine bb (wpAny_updateSeq ac rfl ?_);have ai:=ft (jo (·.push cu)) ac rfl;refine wpAny_updateSeq (hz:=by seq_fits) ai rfl ?_;have aj:=ft (jo (·.pop)) ai rfl;have p:∀b o,b≠L->(s.heap.push (pB lo hi)).get? b=some o->(((s.heap.push (pB lo hi)).update L (jo (·.push cu))).update L (jo (·.pop))).get? b=some o:=fun b o nb e=>
  (fu _ _ (dy nb)).trans ((fu _ _ (dy nb)).trans e)
 exact bo ⟨aa _,go (p _ _ (dy ne) ah) aj fun b o nb e=>p b o nb (bg _ e)⟩
theorem Bs{R:Result->bd->Prop}{r L:Addr}{lo hi:Int}{t u v:Tok}{n:Nat}(hh:A.handled=none)(hr:IsRange s.heap r lo hi 1 t u v)(ac:Builtin.Range.small lo hi 1=false)(hn:ib lo hi 1=(n:Int))(hl:n<=1000)
  (hL:s.heap.get? L=some { cls:=.type "list",data:=.seq #[] })
  (hR:∀h' tk acc c,(∀b o,b≠L->s.heap.get? b=some o->h'.get? b=some o)->h'.get? L=some (gL acc c)->IntsFrom lo acc n->R (.ok (.ret .none)) { s with heap:=h',toks:=tk }):
  bq (model prog w) A.in1 (je.«list.__init__» ⟨[.ref L,.ref r],[]⟩)
   (fun f z=>match f with
    | .done g=>R (.ok g) z
    | .again c=>c.quiet=true/\ku (model prog w) A c R z) (fun e z=>R (.error e) z) s:=by
 have aa:L≠r:=fun e=>by
  rw[e,hr]at hL;simp at hL
 show bq _ _ (do
  let was <- Builtin.List.listItems (.ref L)
  Builtin.List.listUpdate (.ref L) (fun _=>#[])
  letGo was.toList.reverse
  Builtin.List.listExtendWith (.ref L) (.ref r) .none) _ _ s
 unfold Builtin.List.listItems;refine bb (bb (ig hL rfl (bo ?_)));show bq _ _ (updateSeq L (fun _=>#[]) >>= fun _=>letGo _ >>= fun _=>Builtin.List.listExtendWith (.ref L) (.ref r) .none) _ _ s;refine bb (wpAny_updateSeq hL rfl ?_);have ae:=ft (jo (fun _=>(#[]:Array bc))) hL rfl;have p:∀b o,b≠L->s.heap.get? b=some o->(s.heap.update L (jo (fun _=>(#[]:Array bc)))).get? b=some o:=fun b o nb e=>(fu _ _ (dy nb)).trans e;refine bb (wpAny_letGo ?_);refine AU hh (p r _ (dy aa) hr) ac hn hl ae fun h' tk acc c q1 q2 q3=>?_;exact hR h' tk acc c (fun b o nb e=>q1 b o nb (p b o nb e)) q2 q3
theorem EU{Q:bc->bd->Prop}{r:Addr}{lo hi:Int}{t u v:Tok}{n:Nat}(hh:A.handled=none)(hr:IsRange s.heap r lo hi 1 t u v)(hn:ib lo hi 1=(n:Int))(hl:n<=1000)
  (hQ:∀h' tk acc c,(∀b o,s.heap.get? b=some o->h'.get? b=some o)->h'.get? s.heap.objs.size=some (gL acc c)->IntsFrom lo acc n->Q (.ref s.heap.objs.size) { s with heap:=h',toks:=tk }):
  bq (model prog w) A (call (.type "list") [.ref r]) Q E s:=by
 cases sm:Builtin.Range.small lo hi 1 with
 |true=>exact call_list_range hh hr sm hn yw hQ
 |false=>
  refine callType_codes (Q₁:=fun ob z=>ob=.ref s.heap.objs.size/\z = { s with heap:=s.heap.push { cls:=.type "list",data:=.seq #[] } }) F.called_list (F.typeCall_list_1 _) F.entry_list_init (code_list_new _ ⟨rfl,rfl⟩) ?_;rintro ob z ⟨rfl,rfl⟩;have hL:(s.heap.push { cls:=.type "list",data:=.seq #[] }).get? s.heap.objs.size=some { cls:=.type "list",data:=.seq #[] }:=bu _ rfl;refine⟨⟨_,hL,rfl⟩,F.args_list_init_2 _ _,?_⟩;refine Bs (A:=A.in1) hh (bg _ hr) sm hn hl hL fun h' tk acc c q1 q2 q3=>⟨rfl,hQ h' tk acc c (fun b o e=>?_) q2 q3⟩;exact q1 b o (ie (cv e)) (bg _ e)
end
def uH(ta:TA):TE:=fun σ H Q=>ta σ H fun vs H1=>∃i j:Int,vs=[.int i,.int j]/\(j-i).toNat<=1000/\∀l,H1 l=none->Q (.ref l) (upd H1 l (.lst ((fy (j-i).toNat).map fun k:Nat=>V.int (i+k))))
theorem u8:∀(xs:List V) (us:List bc),xs.length=us.length->(∀(k:Nat) (x:V) (u:bc),xs[k]?=some x->us[k]?=some u->RelV x u)->Vals xs us
 | [],[],_,_=>.nil
 |x::xs,u::us,hl,h=>.cons (h 0 x u rfl rfl) (u8 xs us (by simpa using hl) fun k y v e1 e2=>h (k+1) y v e1 e2)
 | [],_::_,hl,_=>by simp at hl
 |_::_,[],hl,_=>by simp at hl
theorem Cl{lo:Int}:∀{n:Nat}{acc:Array bc},IntsFrom lo acc n->Vals ((fy n).map fun k:Nat=>V.int (lo+k)) acc.toList:=by
 intro n acc h;obtain⟨hz,hv⟩:=h;refine u8 _ _ (by simp[hz]) fun k x u ex eu=>?_;rw[gf]at ex;have hk:k<n:=by
  have:=(List.getElem?_eq_some_iff.mp eu).1;simpa[hz]using this
 rw[List.getElem?_range hk]at ex;cases ex;obtain⟨tk,rfl⟩:=hv k u (by simpa using eu);exact⟨tk,by rw[Int.mul_one]⟩
theorem v5{X:Cx}{a b:Expr}{ta:TA}{p p' pos pos':Pos}(hc:X.calm=true)(aa:Gl X "list")(z:X.mg "list" = none)(hg:Gl X "range")(hm:X.mg "range" = none)(ha:PA X [a,b] ta)
  (hs:bv [a,b] X.env=[(false,eval a X.env),(false,eval b X.env)]:=by rfl) (hs2:bv [b] X.env=[(false,eval b X.env)]:=by rfl)
  (hs3:bv [.Call (.Name "range" p) [a,b] [] pos] X.env=[(false,eval (.Call (.Name "range" p) [a,b] [] pos) X.env)]:=by rfl):
  PE X (.Call (.Name "list" p') [.Call (.Name "range" p) [a,b] [] pos] [] pos') (uH ta):=by
 intro zc s σ H Q I h;refine io (fD I aa z tW ?_ dz dz);refine fz ?_ (by rw[hs3];rfl) rfl;rw[hs3];show bq _ _ (spliced ((false,eval (.Call (.Name "range" p) [a,b] [] pos) X.env) :: [])) _ _ s;refine Calls.spliced_cons (Call_ (fD I hg hm boot_range (fz (thn (ha pos zc s σ H _ I h) fun us s1 ⟨vs,H1,I1,r1,q1⟩=>?_) (by rw[hs,hs2]) (by rw[hs2];rfl))));obtain⟨i,j,e,hl,q⟩:=q1;subst e;cases r1 with
 |cons r rr=>
  cases rr with
  |cons r' rr=>
   cases rr;obtain⟨t,rfl⟩:=r;obtain⟨t',rfl⟩:=r';refine call_range_2 (Calls.spliced_nil ?_);have I2:=I1.kept (h':=s1.heap.push { cls:=.type "range",data:=.fields #[.int i t,.int j t',.int 1 s1.toks] }) (t':=s1.toks+1) fun b o e=>bg _ e;have en:ib i j 1=(((j-i).toNat:Nat):Int):=by rw[rangeSize_one];split<;>omega
   refine EU (I2.ok.hd hc) (IsRange.new ..) en hl fun h' tk acc c kp e it=>?_;have hv:=Cl it;refine⟨.ref _,_,I2.laid (t':=tk) kp (cq _) (show ObjOk X.prog X.w _ h' _ (.lst _)from⟨?_,acc.toList,c,hv,?_⟩),rfl,q _ (I2.hok.fresh (cq _))⟩
   ·rw[cp,List.length_range,jv];omega
   ·simpa using e
def fM(a:DA):DE:=fun δ S R=>a δ S fun xs S1=>arg2 xs fun x y=>asI x fun i=>asI y fun j=>(j-i).toNat<=1000/\R (.d (.list (dG i (j-i).toNat))) S1
theorem Bp{ta:TA}{da:DA}(ha:RA ta da):RE (uH ta) (fM da):=fun h o H δ σ S R Q he hs q c=>
 ha h o H δ σ S _ _ he hs q fun o1 H1 S1 xs vs e1 s1 x1 d0=>by
  obtain⟨x,y,rfl,d2⟩:=lM d0;obtain⟨i,rfl,d3⟩:=aW d2;obtain⟨j,rfl,hl,d4⟩:=aW d3;obtain⟨v,u,rfl,hv,hu⟩:=hxs2 x1;rw[aS hv,aS hu];have l:=vF (H:=vx h o1 H1) ((fy (j-i).toNat).map fun k:Nat=>i+k);rw[map_map,map_map]at l;exact⟨i,j,rfl,hl,iC s1 l (c.pre e1) d4⟩
end
end L2
namespace L2
open PySem PySem.Spec PyProof.Rows
section
def m7:D3:=fun x i j S R=>asT x fun ds=>R (.d (.tuple (aL ds i j))) S
end
section
def wD:R2:=fun x y H Q=>∃a b,x=.bl a/\y=.bl b/\Q (.bl (decide (a=b))) H
theorem DX{X:Cx}:OpR X (km .Is) wD:=by
 intro zc s σ H x y v u Q I rx ry h;obtain⟨a,b,rfl,rfl,q⟩:=h;cases rx;cases ry;exact wpAny_is_plain (by cases a<;>cases b<;>rfl) (FW I q (by cases a<;>cases b<;>rfl))
def gS:D2:=fun x y S R=>asB x fun a=>asB y fun b=>R (.d (.bool (decide (a=b)))) S
theorem Ed:RO wD gS:=fun h o H S x y v u R Q hs hx hy q c=>by
 replace q:=fW q;obtain⟨a,rfl,q⟩:=q;replace q:=fW q;obtain⟨b,rfl,q⟩:=q;exact⟨a,b,dJ hx,dJ hy,c o H S _ _ Ex.refl hs (xB _) q⟩
end
section
@[irreducible] def QE (X:Cx) (e:Expr) (t:TE):Prop:=PE X e t
theorem QE.out{X:Cx}{e:Expr}{t:TE}(h:QE X e t):PE X e t:=by unfold QE at h;exact h
end
end L2
namespace L2
open PySem PySem.Spec PyProof.Rows
section
def j6:D2:=fun x y S R=>asT x fun ds=>asT y fun es=>∃ns,ds=ns.map cz/\∃ms,es=ms.map cz/\R (.d (.bool (HT.lexLt ns ms))) S
end
section
theorem A9(f:Array bc->Array bc)(o:Obj):(gk f o).dict=o.dict:=by
 unfold gk;split<;>rfl
def RecAt(h base:Heap)(e:Addr)(cls:bc)(dx:Option Addr)(a0 fl:bc):Prop:=
 ∃oe vs T oT ts,h.get? e=some oe/\oe.cls=cls/\oe.dict=dx/\oe.data=.fields vs/\(vs[0]?=some a0/\vs[2]?=some .none)/\vs[1]?=some (.ref T)/\base.get? T=none/\T≠e/\h.get? T=some oT/\oT.data=.fields ts/\ts[3]?=some fl
structure NotedD(base:Heap)(l:List Env)(e:Addr)(cls:bc)(dx:Option Addr)(a0 fl:bc)(h h':Heap):Prop where
 stays:base.StaysIn h'
 frames:h'.FunFrames base l
 rcd:RecAt h' base e cls dx a0 fl
 upto:h.UpToSlots h'
def FlyD(base:Heap)(l:List Env)(e:Addr)(cls:bc)(dx:Option Addr)(a0:bc)(h:Heap):Prop:=base.StaysIn h/\base.get? e=none/\h.FunFrames base l/\RecAt h base e cls dx a0 .none
def HeldD(base:Heap)(l:List Env)(e:Addr)(cls:bc)(dx:Option Addr)(a0:bc)(L:Addr)(h:Heap):Prop:=base.StaysIn h/\base.get? e=none/\h.FunFrames base l/\RecAt h base e cls dx a0 (ix L)
theorem FlyD.there{base h:Heap}{l:List Env}{e:Addr}{cls a0:bc}{dx:Option Addr}(x:FlyD base l e cls dx a0 h):∃ob,h.get? e=some ob/\ob.cls=cls/\ob.dict=dx:=
 let ⟨_,_,_,oe,_,_,_,_,he,hc,hd,_⟩:=x;⟨oe,he,hc,hd⟩
theorem FlyD.first{base h:Heap}{l:List Env}{e:Addr}{cls a0:bc}{dx:Option Addr}(x:FlyD base l e cls dx a0 h):∃oe vs,h.get? e=some oe/\oe.cls=cls/\oe.data=.fields vs/\vs[0]?=some a0:=
 let ⟨_,_,_,oe,vs,_,_,_,he,hc,_,hd,h0,_⟩:=x;⟨oe,vs,he,hc,hd,h0.1⟩
theorem FlyD.first2{base h:Heap}{l:List Env}{e:Addr}{cls a0:bc}{dx:Option Addr}(x:FlyD base l e cls dx a0 h):∃oe vs,h.get? e=some oe/\oe.cls=cls/\oe.data=.fields vs/\vs[2]?=some .none:=
 let ⟨_,_,_,oe,vs,_,_,_,he,hc,_,hd,h0,_⟩:=x;⟨oe,vs,he,hc,hd,h0.2⟩
section
variable {M:Model}{A:cw}{E:bc->bd->Prop}{s:bd}
theorem vL{base:Heap}{env:Env}{outer:List Env}{L e:Addr}{oe:Obj}{vs:Array bc}{aa a0:bc}{p:Bool}{Q:Unit->bd->Prop}
  (hfr:A.frames=some (env::outer)) (hl:s.heap.FunFrames base (env::outer)) (hf:env.frame=some L)
  (he:s.heap.get? e=some oe) (hkb:base.StaysIn s.heap) (hen:base.get? e=none) (hd:oe.data=.fields vs) (hsz:1<vs.size) (h0:vs[0]?=some a0/\vs[2]?=some .none)
  (h:∀h',NotedD base (env::outer) e oe.cls oe.dict a0 (ix L) s.heap h'->Q () { s with heap:=h' }):
  bq M A (do let a <- frameOf env;let pl <- entryPlaceOf L p;let b <- EntryCells.newEntry aa a .none (ix L) .none pl;setField (.ref e) 1 b) Q E s:=by
 have ne:e∉(env::outer).filterMap (·.frame):=fun hm=>by
  obtain⟨_,o,ho,nf⟩:=hl.mem hm;rw[he]at ho;cases ho;exact nf vs hd
 refine bb (wpAny_frameOf_fun hfr hl hf fun h1 k1=>?_);refine bb (wpAny_entryPlaceOf fun pl ac=>?_);unfold EntryCells.newEntry newFields;refine bb (fg ?_ (ac.sizeOk5 _ _ _ _ _));have e1:h1.get? e=some oe:=(k1.2.1 e ne).trans he;have b1:base.StaysIn h1:=fun b o q=>(k1.2.1 b fun hm=>by rw[(hl.mem hm).1]at q;cases q).trans (hkb b o q);generalize hT:({ cls:=.type "traceback",dict:=none,data:=.fields ([aa,.ref L,.none,ix L,.none]++(if pl.isEmpty then bh 6 cu else pl)).toArray }:Obj)=tb;have dT:∃ts,tb.data=.fields ts/\ts[3]?=some (ix L):=by
  subst hT;exact⟨_,rfl,yv⟩
 obtain⟨ts,dT,zT⟩:=dT;have fT:tb.isFreed=false:=gi dT;have e2:=bg (h:=h1) tb e1;refine ii e2 hd hsz (h _ ?_);have nT:h1.objs.size≠e:=ne_of_gt (cv e1);have d3:=ge hd (·.setIfInBounds 1 (cg h1.objs.size));have e3:=ft (gk (·.setIfInBounds 1 (cg h1.objs.size))) e2 (gi d3);have t3:=(fu (h1.push tb) (gk (·.setIfInBounds 1 (cg h1.objs.size))) (dy nT)).trans (bu h1 fT);have keep:∀b o,b≠e->h1.get? b=some o->((h1.push tb).update e (gk (·.setIfInBounds 1 (cg h1.objs.size)))).get? b=some o:=fun b o nb q=>by
  rw[fu _ _ (dy nb)];exact bg _ q
 have nr:∀b o,s.heap.get? b=some o->(∀vs,o.data≠.fields vs)->b≠e:=fun b o q nf z=>by
  rw[z,he]at q;cases q;exact nf vs hd
 refine⟨fun b o q=>keep b o (fun z=>by rw[z,hen]at q;cases q) (b1 b o q),hl.of_keeps fun b o q nf=>?_,?_,fun b o q nf=>?_⟩
 ·obtain⟨sl,z⟩:=k1.2.2 b o q;exact⟨_,keep b _ (nr b o q nf) z,rfl⟩
 ·exact⟨_,_,h1.objs.size,_,_,e3,Obj.cls_mapFields _ _,A9 _ _,d3,⟨by rw[Array.getElem?_setIfInBounds_ne dz];exact h0.1,by rw[Array.getElem?_setIfInBounds_ne dz];exact h0.2⟩,by simp[hsz],b1.fresh,nT,t3,dT,zT⟩
 ·obtain⟨sl,z⟩:=k1.2.2 b o q;exact⟨sl,keep b _ (nr b o q nf) z⟩
theorem oJ{base:Heap}{l:List Env}{e:Addr}{cls a0 fl:bc}{dx:Option Addr}{Q:Unit->bd->Prop}(ag:base.StaysIn s.heap)(af:base.get? e=none)(hl:s.heap.FunFrames base l)(ht:RecAt s.heap base e cls dx a0 fl)
  (h:∀h',FlyD base l e cls dx a0 h'->s.heap.UpToSlots h'->Q () { s with heap:=h' }):bq M A (setFlight (.ref e) none) Q E s:=by
 obtain⟨oe,vs,T,oT,ts,he,hc,hx,hd,h0,h1,ac,ae,hT,aa,h3⟩:=ht;have z3:3<ts.size:=(Array.getElem?_eq_some_iff.mp h3).1;have p:∀b,b≠T->(s.heap.update T (gk (·.setIfInBounds 3 ((none:Option Addr).elim cu fun f=>ix f)))).get? b=s.heap.get? b:=fun b hb=>fu _ _ (dy hb);have nr:∀b o,s.heap.get? b=some o->(∀vs,o.data≠.fields vs)->b≠T:=fun b o q nf z=>by
  rw[z,hT]at q;cases q;exact nf ts aa
 unfold setFlight;refine bb (cy he hd h1 ?_);rw[dw (show (cg T != cu)=true from by simp)];refine ii hT aa z3 (h _ ⟨fun b o q=>(p b fun z=>by rw[z,ac]at q;cases q).trans (ag b o q),af,hl.of_keeps fun b o q nf=>⟨o,(p b (nr b o q nf)).trans q,rfl⟩,?_⟩ fun b o q nf=>⟨o.slots,(p b (nr b o q nf)).trans q⟩);exact⟨oe,vs,T,_,_,(p e (dy ae)).trans he,hc,hx,hd,h0,h1,ac,ae,ft _ hT (gi (ge aa _)),ge aa _,by simp[z3]⟩
theorem FF{base:Heap}{env:Env}{outer:List Env}{L e:Addr}{oe:Obj}{vs:Array bc}{a0:bc}{Q:Unit->bd->Prop}
  (hfr:A.frames=some (env::outer)) (hl:s.heap.FunFrames base (env::outer)) (hf:env.frame=some L)
  (he:s.heap.get? e=some oe) (hkb:base.StaysIn s.heap) (hen:base.get? e=none) (hd:oe.data=.fields vs) (h1:vs[1]?=some .none) (h0:vs[0]?=some a0/\vs[2]?=some .none)
  (h:∀h',NotedD base (env::outer) e oe.cls oe.dict a0 (ix L) s.heap h'->Q () { s with heap:=h' }):bq M A (noteFrame (.ref e) env) Q E s:=by
 unfold noteFrame;simp only[hf];refine bb (cy he hd h1 ?_);rw[cf dz];exact vL hfr hl hf he hkb hen hd (Array.getElem?_eq_some_iff.mp h1).1 h0 h
theorem xU{base:Heap}{env:Env}{outer:List Env}{L e:Addr}{cls a0:bc}{dx:Option Addr}{Q:Unit->bd->Prop}
  (hfr:A.frames=some (env::outer)) (hl:s.heap.FunFrames base (env::outer)) (hf:env.frame=some L) (ht:RecAt s.heap base e cls dx a0 .none) (hkb:base.StaysIn s.heap) (hen:base.get? e=none)
  (h:∀h',NotedD base (env::outer) e cls dx a0 (ix L) s.heap h'->Q () { s with heap:=h' }):bq M A (noteFrame (.ref e) env) Q E s:=by
 obtain⟨oe,vs,T,oT,ts,he,rfl,rfl,hd,h0,h1,ac,ae,hT,aa,h3⟩:=ht;unfold noteFrame;simp only[hf];refine bb (cy he hd h1 ?_);rw[dw (show (cg T != cu)=true from by simp)];refine bb (cy hT aa h3 ?_);rw[cf (show ¬((cu==ix L)=true)from by simp[ix])];refine bb (ii hT aa (Array.getElem?_eq_some_iff.mp h3).1 ?_);have p:∀b,b≠T->(s.heap.update T (gk (·.setIfInBounds 3 cu))).get? b=s.heap.get? b:=fun b hb=>fu _ _ (dy hb);have nr:∀b o,s.heap.get? b=some o->(∀vs,o.data≠.fields vs)->b≠T:=fun b o q nf z=>by
  rw[z,hT]at q;cases q;exact nf ts aa
 refine vL hfr (hl.of_keeps fun b o q nf=>⟨o,(p b (nr b o q nf)).trans q,rfl⟩) hf ((p e (dy ae)).trans he)
  (fun b o q=>(p b fun z=>by rw[z,ac]at q;cases q).trans (hkb b o q)) hen hd (Array.getElem?_eq_some_iff.mp h1).1 h0
  fun h' x=>h h' ⟨x.stays,x.frames,x.rcd,fun b o q nf=>x.upto b o ((p b (nr b o q nf)).trans q) nf⟩
theorem Cf{base:Heap}{env:Env}{outer:List Env}{L e:Addr}{cls a0:bc}{dx:Option Addr}{Q:Unit->bd->Prop}(p:A.frames=some (env::outer))(hf:env.frame=some L)(z:FlyD base (env::outer) e cls dx a0 s.heap)
  (hQ:∀h',FlyD base outer e cls dx a0 h'->s.heap.UpToSlots h'->Q () { s with heap:=h' }):bq M A (leaving env (.ref e)) Q E s:=by
 obtain⟨f1,f2,f3,f4⟩:=z;unfold leaving;refine bb (xU p f3 hf f4 f1 f2 fun h' x=>?_);refine oJ (s:={ s with heap:=h' }) x.stays f2 x.frames x.rcd fun h2 y u=>hQ h2 ⟨y.1,y.2.1,?_,y.2.2.2⟩ (x.upto.trans u);obtain⟨_,_,k⟩:=y.2.2.1;exact k
theorem BC{base:Heap}{env:Env}{outer:List Env}{L e:Addr}{oe:Obj}{vs:Array bc}{a0:bc}{Q:Unit->bd->Prop}
  (hfr:A.frames=some (env::outer)) (hl:s.heap.FunFrames base (env::outer)) (hf:env.frame=some L)
  (he:s.heap.get? e=some oe) (hkb:base.StaysIn s.heap) (hen:base.get? e=none) (hd:oe.data=.fields vs) (h1:vs[1]?=some .none) (h0:vs[0]?=some a0/\vs[2]?=some .none)
  (hQ:∀h',FlyD base outer e oe.cls oe.dict a0 h'->s.heap.UpToSlots h'->Q () { s with heap:=h' }):bq M A (leaving env (.ref e)) Q E s:=by
 unfold leaving;refine bb (FF hfr hl hf he hkb hen hd h1 h0 fun h' x=>?_);refine oJ (s:={ s with heap:=h' }) x.stays hen x.frames x.rcd fun h2 y u=>hQ h2 ⟨y.1,y.2.1,?_,y.2.2.2⟩ (x.upto.trans u);obtain⟨_,_,k⟩:=y.2.2.1;exact k
theorem Bn{base:Heap}{env:Env}{outer:List Env}{L e:Addr}{cls a0:bc}{dx:Option Addr}{Q:Unit->bd->Prop}(p:A.frames=some (env::outer))(hf:env.frame=some L)(z:FlyD base (env::outer) e cls dx a0 s.heap)
  (hQ:∀h',HeldD base (env::outer) e cls dx a0 L h'->s.heap.UpToSlots h'->Q () { s with heap:=h' }):bq M A (noteFrame (.ref e) env) Q E s:=by
 obtain⟨f1,f2,f3,f4⟩:=z;exact xU p f3 hf f4 f1 f2 fun h' x=>hQ h' ⟨x.stays,f2,x.frames,x.rcd⟩ x.upto
theorem F3{base:Heap}{l:List Env}{e L:Addr}{cls a0:bc}{dx:Option Addr}{Q:Unit->bd->Prop}(hh:HeldD base l e cls dx a0 L s.heap)(hQ:∀h',FlyD base l e cls dx a0 h'->s.heap.UpToSlots h'->Q () { s with heap:=h' }):bq M A (setFlight (.ref e) none) Q E s:=by
 obtain⟨f1,f2,f3,f4⟩:=hh;exact oJ f1 f2 f3 f4 hQ
theorem CU{base:Heap}{l:List Env}{e:Addr}{cls a0:bc}{dx:Option Addr}{Q:Unit->bd->Prop}(hh:FlyD base l e cls dx a0 s.heap)(hQ:∀h',FlyD base l e cls dx a0 h'->s.heap.UpToSlots h'->Q () { s with heap:=h' }):bq M A (setFlight (.ref e) none) Q E s:=by
 obtain⟨f1,f2,f3,f4⟩:=hh;exact oJ f1 f2 f3 f4 hQ
end
theorem HOk.stays{P:bw}{w:df}{H:Hp}{h h':Heap}(x:HOk P w H h)(k:∀b u,H b=some u->∀o,h.get? b=some o->h'.get? b=some o):HOk P w H h':=fun a o e=>
 (x a o e).stay (fun b u hb q=>by
  rcases hb with rfl|hb
  ·exact k _ _ e _ q
  ·exact k _ _ hb _ q) (fun _ q=>q) fun _ _ q=>q
theorem ObjOk.obj{P:bw}{w:df}{H:Hp}{h:Heap}{a:Addr}{o:HO}(x:ObjOk P w H h a o):∃u,h.get? a=some u:=by
 cases o with
 |lst xs=>obtain⟨_,_,_,_,e⟩:=x;exact⟨_,e⟩
 |tup xs=>obtain⟨_,_,_,o,e,_⟩:=x;exact⟨_,e⟩
 |dK kvs=>obtain⟨_,_,_,_,o,_,_,e,_⟩:=x;exact⟨_,e⟩
 |dT kvs=>obtain⟨_,_,_,_,o,_,_,e,_⟩:=x;exact⟨_,e⟩
 |set S n=>obtain⟨o,_,_,_,e,_⟩:=x;exact⟨_,e⟩
 |ins C dx fs=>obtain⟨_,_,_,e,_⟩:=x;exact⟨_,e⟩
 |own y=>exact x
 |xd fs=>obtain⟨_,⟨_,_,_,e,_⟩,_⟩:=x;exact⟨_,e⟩
 |rng lo hi=>obtain⟨_,_,_,e⟩:=x;exact⟨_,e⟩
 |frz ob u=>obtain⟨e,_⟩:=x;exact⟨_,e⟩
 |tbl ps=>obtain⟨_,e,_⟩:=x;exact⟨_,e⟩
 |met f y=>exact⟨_,(show h.get? a=some _ from x)⟩
 |ext φ=>obtain⟨_,e,_⟩:=x;exact e
structure Fly(P:bw)(w:df)(outer:List Env)(H:Hp)(s:bd)(H':Hp)(a C:Addr)(dx:Option Addr)(s':bd):Prop where
 os:s'.os=s.os
 bare:AllBare s'.gens
 un:Un (frs outer) [] H H' s.heap s'.heap
 hok:HOk P w H' s'.heap
 fl:∃B t,FlyD B outer a (.ref C) dx (.ref t) s'.heap/\(∀b o,s.heap.get? b=some o->H b=none->b∉frs outer->B.get? b=some o)/\(∀b o,s.heap.get? b=some o->b∈frs outer\/∃o',B.get? b=some o')/\∀b u,H' b=some u->∃o,B.get? b=some o
def CX1(P:bw)(w:df):CXT:=fun outer H s E e s'=>∃H' a C dx,e=.ref a/\Fly P w outer H s H' a C dx s'/\E (.ref C) (some a) (upd H' a (exO a C dx))
section
variable {P:bw}{w:df}{K:bn}{mg:Str->Option bc}{base:Heap}{N:List Str}{qual:Str}{scope:Scope}{f:Addr}{cd:bc}{A:cw}{outer:List Env}{s:bd}{H:Hp}{E:XK}
theorem pass1:Passes (CX1 P w) (bG (CX1 P w) P w K mg base N qual scope f cd A outer s H E) E:=fun zc σ Hc sc e s' I hx=>by
 obtain⟨H',a,C,dx,rfl,F,hE⟩:=hx;obtain⟨B,t,fl,kB,eB,tB⟩:=F.fl;have aa:(A.deeper (gh qual scope s.heap.objs.size f cd)).frames=some (gh qual scope s.heap.objs.size f cd::outer):=I.ok.frames;have nl:∀b o,s.heap.get? b=some o->b∉frs outer->b∉frs (gh qual scope s.heap.objs.size f cd::outer):=fun b o q hb z=>by
  rcases mem_cons.mp (show b∈s.heap.objs.size::frs outer from z)with e|e
  ·exact absurd (cv q) (by rw[e];exact iy _)
  ·exact hb e
 have nx:∀b:Addr,b∉([]:List Addr):=fun b=>by simp
 have kp:∀b o,s.heap.get? b=some o->H b=none->b∉frs outer->B.get? b=some o:=fun b o q n hb=>kB b o (I.base.keep b o q n hb (nx b)) (I.base.free b o q n (nx b)) (nl b o q hb);have ep:∀b o,s.heap.get? b=some o->b∈frs outer\/∃o',B.get? b=some o':=fun b o q=>by
  by_cases hb:b∈frs outer
  ·exact .inl hb
  ·obtain⟨o1,q1⟩:=I.base.there b o q (nx b);rcases eB b o1 q1 with z|z
   ·exact absurd z (nl b o q hb)
   ·exact .inr z
 show bq _ _ (leaving (gh qual scope s.heap.objs.size f cd) (.ref a)) _ _ s';refine Cf aa rfl fl fun h' p sm=>⟨H',a,C,dx,rfl,⟨F.os.trans I.os,F.bare,⟨fun b o q n hb _=>p.1 b o (kp b o q n hb),fun b o q n hb _=>?_,fun b o q n _=>?_,fun b o q _=>?_,fun b xs q=>F.un.tups b xs (I.base.tups b xs q),fun b o u q=>F.un.frzs b o u (I.base.frzs b o u q),fun b ps q=>?_⟩,
  F.hok.stays fun b u e o q=>?_,B,t,p,kp,ep,tB⟩,hE⟩
 ·obtain⟨sl,q1⟩:=I.base.slot b o q n hb (nx b);obtain⟨ae,q2⟩:=F.un.any q1 (I.base.free b o q n (nx b)) (nx b);obtain⟨_,o3,q3,nf⟩:=fl.2.2.1.mem (show b∈frs (gh qual scope s.heap.objs.size f cd::outer)from ck _ hb);rw[q2]at q3;cases q3;obtain⟨ac,q4⟩:=sm b _ q2 nf;exact⟨ac,q4⟩
 ·obtain⟨o1,q1⟩:=I.base.there b o q (nx b);exact F.un.free b o1 q1 (I.base.free b o q n (nx b)) (nx b)
 ·rcases ep b o q with z|⟨o',z⟩
  ·obtain⟨_,o3,q3,_⟩:=p.2.2.1.mem (show b∈frs outer from z);exact⟨o3,q3⟩
  ·exact⟨o',p.1 b o' z⟩
 ·exact F.un.tbls b _ (I.base.tbls b ps q)
 ·obtain⟨o',z⟩:=tB b u e;have:=fl.1 b o' z;rw[q]at this;cases this;exact p.1 b o z
end
end
section
def veB:List bc:=[.type "ValueError",.type "Exception",.type "BaseException",.type "object"]
theorem Cy{K:bn}{h:Heap}{N:Addr}{mg:Str->Option bc}{n:Str}{v:bc}(X:K.In h)(G:h.Ns N mg)(e:W.nsIn K N n=some (some v)):mg n=some v:=by
 obtain⟨o,es,ep,ho,hd,_,hf⟩:=G;unfold W.nsIn at e;split at e
 ·rename_i c d p n' sl q;have:=X _ _ q;rw[ho]at this;cases this;cases hd;split at e
  ·rename_i en he;cases e;rw[<- hf];unfold nsFind findBy;rw[<- Array.find?_toList,he];rfl
  ·split at e<;>cases e
 ·cases e
structure ExCls(K:bn)(C:Addr)(ini:Option bc):Prop where
 ob:∀h,K.In h->∃bm N nm qn bs hd sn sub ab col dd k0 k1 k2 k3 k5 mN,h.get? C=some (excClassObj nm qn C N bs bm hd sn sub ab col dd k0 k1 k2 k3 k5 "ValueError.__new__")/\h.Ns N mN/\mN "__init__" = ini/\OwnTail h veB bm/\∀D,W.mroIn K C D=some ((cg C::bm).contains D)
 ty:(me K C).isSome=true/\W.typeIn K (.ref C)=some (.type "type")
theorem exc_of_in{K:bn}{C:Addr}(q:W.excIn K C veB "ValueError.__new__" = true):ExCls K C none:=by
 unfold W.excIn at q;split at q
 ·rename_i dd cd sl ho;split at q
  ·rename_i C' bm k0 k1 k2 k3 n k5 hm hs;simp only[gx,beq_iff_eq,Bool.not_eq_true']at q;obtain⟨⟨⟨⟨⟨rfl,rfl⟩,p⟩,ht⟩,hok⟩,z⟩:=q;obtain⟨nm,bs,mro,ns,qn,hd,sn,sub,ab,col,del⟩:=cd;dsimp only at hm p hok z;subst hm p;have aa:sl = #[k0,k1,k2,k3,some (.builtin "ValueError.__new__"),k5]:=by
    obtain⟨l⟩:=sl;simp only at hs;rw[hs]
   subst aa;refine⟨fun h X=>⟨bm,ns,nm,qn,bs,hd,sn,sub,ab,col,dd,k0,k1,k2,k3,k5,h.nsMap ns,X _ _ ho,.of_isNs (W.isNs_of_in X hok),W.ns_none_of X (.of_isNs (W.isNs_of_in X hok)) z,W.tail_of_in X ht,fun D=>?_⟩,?_,?_⟩
   ·unfold W.mroIn me;rw[ho];rfl
   ·unfold me;rw[ho];rfl
   ·show Option.map (fun x:Obj=>x.cls) (K.lookup C')=_;rw[ho];rfl
  ·cases q
 ·cases q
section
variable {K:bn}{h:Heap}{C G:Addr}{ini iniG:Option bc}
variable {M:Model}{A:cw}{E:bc->bd->Prop}{g:Array GenState}{d:Drawn}{t:Nat}{os:OsState}{e:Addr}{oe:Obj}{Q:Bool->bd->Prop}
theorem AT(X:K.In h)(qC:ExCls K C ini)(qG:ExCls K G iniG)(he:h.get? e=some oe)(z:oe.cls=.ref C)(p:W.mroIn K C (.ref G)=some true)(hq:Q true ⟨h,g,d,t,os⟩):bq M A (excMatches (.ref e) (.ref G)) Q E ⟨h,g,d,t,os⟩:=by
 obtain⟨tl,N,nm,qn,bs,hd,sn,sub,ab,col,dd,k0,k1,k2,k3,k5,mN,hC,_,_,T,mr⟩:=qC.ob h X;obtain⟨aa,N',an,ah,ak,al,ai,ae,ag,af,aj,j0,j1,j2,j3,j5,am,hG,_,_,T',_⟩:=qG.ob h X;replace p:(cg C::tl).contains (.ref G)=true:=by rw[mr]at p;exact fe p
 have ac:(cg G::aa).contains (.type "BaseException")=true:=by rw[List.contains_cons,T'.hasType (b:=true) (by decide +kernel),Bool.or_true]
 have f:=tc_notTuple;unfold excMatches
 repeat (first|(with_reducible refine gb he ?_;rw[z])|with_reducible refine gb hG ?_|(with_reducible refine wpAny_isSubtype_exc hG ?_;rw[ac])|(with_reducible refine wpAny_isSubtype_exc hC ?_;rw[p])|wp_step)
 exact hq
end
end
section
def PEX(X:Cx)(e:Expr)(t:XK->TE):Prop:=∀(zc:List (Addr×Obj)) (s:bd) (σ:St) (H:Hp) (Q:VK) (Ex:XK) (E':bc->bd->Prop),Inv X zc σ H s->t Ex σ H Q ->
 (∀H1 s1 v s',Inv X zc σ H1 s1->CX1 X.prog X.w X.stack H1 s1 Ex v s'->E' v s')->bq (model X.prog X.w) X.A (eval e X.env) (EP X zc σ Q) E' s
def PSX(X:Cx)(st:Stmt)(t:XK->TS):Prop:=∀(zc:List (Addr×Obj)) (s:bd) (σ:St) (H:Hp) (D:Ends) (Ex:XK) (E':bc->bd->Prop),Inv X zc σ H s->t Ex D σ H ->
 (∀H1 s1 v s',Inv X zc σ H1 s1->CX1 X.prog X.w X.stack H1 s1 Ex v s'->E' v s')->bq (model X.prog X.w) X.A (exec st X.env) (SP X zc D) E' s
section
variable {X:Cx}{k:Nat}{f:Addr}{fd:iq}{ps:List Str}{sp:Sp}{x:Str}{p pos:Pos}{e e1:Expr}{es:List Expr}{t:TA}{te:TE}{tx:XK->TE}
theorem FI(hx:∀e s,X.xe e s->False)(F:FnOk X.prog X.w X.K X.mg X.base (CX1 X.prog X.w) k f fd ps sp)(hr:Room k X.A)(hg:Gl X x)(hm:X.mg x=some (.ref f))(hk:ki X.K (.ref f)=true)(hb:Binds X.K fd ps [])
  (ha:PA X (e::es) t) (hdb:(x==("__debug__":Str))=false:=by decide) (he:bv (e::es) X.env=(false,eval e X.env)::bv es X.env:=by rfl) (hpl:(js pos (bv es X.env)).any (·.1)=false:=by rfl):
  PEX X (.Call (.Name x p) (e::es) [] pos) (fun Ex σ H Q=>t σ H fun vs H1=>sp vs H1 Q Ex):=by
 intro zc s σ H Q Ex E' I h hX;refine io (iV I hg hm ?_ hdb);refine W.callWith_K (h₀:=X.base) I.ok.mod.kin hk (gr (ha pos zc s σ H _ I h) (fun us s1 ⟨vs,H1,I1,r,q⟩=>⟨I1.kIn,?_⟩) fun _ _ z=>(hx _ _ z).elim) he hpl;have hl:us.length=ps.length:=by rw[<- r.length];exact F.len _ _ _ _ q
 have aa:=hb s1 us I1.kIn (by rw[gu];exact hl);rw[gu]at aa;refine wpAny_call (kv (F.run X.A X.stack s1 H1 ⟨us,[]⟩ us vs Q Ex hr I1.env0 aa r q) fun r s' hq=>?_);cases r with
 |error e=>exact hX H1 s1 e s' I1 hq
 |ok fl=>
  cases fl with
  |ret u=>exact I1.after hq
  |next=>exact dh hq
  |brk=>exact dh hq
  |cont=>exact dh hq
theorem CV(he:PEX X e tx)(hs:swapsWith e none pos.line X.env=pure false:=by rfl):PSX X (.Expr e pos) (fun Ex=>oQ (tx Ex)):=by
 intro zc s σ H D Ex E' I h hX;exact wpAny_Expr_any (thn (he zc s σ H _ Ex E' I h hX) fun v s1 ⟨x,H1,I1,r1,q1⟩=>⟨σ,H1,I1,q1⟩) I.quiet hs
end
theorem uL{P:bw}{w:df}{H:Hp}{h:Heap}{a C:Addr}{o:Obj}(e:h.get? a=some o)(c:o.cls=.ref C)(hf:∃vs,o.data=.fields vs/\vs[2]?=some .none):ObjOk P w H h a (exO a C o.dict):=
 ⟨⟨o,e,c,rfl,hf⟩,⟨o,e⟩,fun h1 h2 ⟨o,e,c,d⟩ k=>⟨o,k o e,c,d⟩⟩
abbrev Cx.suite (X:Cx) (a:Addr):Cx:={ X with A:=X.A.mark (some (.ref a)),calm:=false,xe:=fun _ _=>False }
theorem Cx.Ok.suite{X:Cx}(ok:X.Ok)(a:Addr):(X.suite a).Ok:=
 ⟨ok.mod,ok.kind,ok.glob,ok.blt,ok.above,ok.inj,ok.has,ok.cab,(fun z=>Bool.noConfusion z),ok.frames,ok.stk,ok.exf,ok.bs,ok.bsz,ok.noex,ok.exfs,ok.funs,ok.frf⟩
section
variable {X:Cx}{zc:List (Addr×Obj)}{σ:St}{H:Hp}{s:bd}{a:Addr}
theorem Inv.suite(I:Inv X zc σ H s)(a:Addr):Inv (X.suite a) zc σ H s:=⟨I.ok.suite a,I.os,I.bare,I.base,I.loc,I.cell,I.free,I.freeC,I.pin,I.hok,I.len⟩
theorem Inv.unsuite(I:Inv (X.suite a) zc σ H s)(ok:X.Ok):Inv X zc σ H s:=⟨ok,I.os,I.bare,I.base,I.loc,I.cell,I.free,I.freeC,I.pin,I.hok,I.len⟩
theorem Inv.gone{h':Heap}{m':Str->Option bc}{t':Nat}(I:Inv X zc σ H s)(hn:h'.Ns X.env.locals m')(sb:fc X.env.locals s.heap h'):Inv X zc (bh X.N.length none) H { s with heap:=h',toks:=t' }:=by
 have ne:∀b o,X.s₀.heap.get? b=some o->b≠X.env.locals:=fun b o e=>ie (ef (cv e) I.ok.above);refine⟨I.ok,I.os,I.bare,⟨fun b o e n hb hx=>?_,fun b o e n hb hx=>?_,I.base.free,fun b o e hx=>?_,I.base.tups,I.base.frzs,I.base.tbls⟩,⟨m',hn,fun i x v _ e2 _=>?_⟩,fun x c e=>?_,I.free,I.freeC,fun p hp=>?_,I.hok.stays fun b u e o q=>?_,yv⟩
 ·exact(sb.2 b (ne b o e)).trans (I.base.keep b o e n hb hx)
 ·obtain⟨sl,q⟩:=I.base.slot b o e n hb hx;exact⟨sl,(sb.2 b (ne b o e)).trans q⟩
 ·obtain⟨o',q⟩:=I.base.there b o e hx;exact⟨o',(sb.2 b (ne b o e)).trans q⟩
 ·rw[List.getElem?_replicate]at e2;split at e2<;>cases e2
 ·obtain⟨v,o,ho,hd⟩:=I.cell x c e;exact⟨v,o,(sb.2 c (I.cne x c e)).trans ho,hd⟩
 ·obtain⟨e,n,z,nf,d⟩:=I.pin p hp;exact⟨(sb.2 _ z).trans e,n,z,nf,d⟩
 ·refine(sb.2 b ?_).trans q;rintro rfl;rw[I.free]at e;cases e
end
end
section
structure RoomN(k:Nat)(A:cw):Prop where
 dp:A.depth+3*k+5<recursionLimit
 un:A.units+16*k+200<cLine
theorem Room.suite{k:Nat}{A:cw}(r:Room k A)(a:Addr):RoomN k (A.mark (some (.ref a))):=⟨r.dp,r.un⟩
theorem RoomN.mono{j k:Nat}{A:cw}(r:RoomN k A)(h:j<=k):RoomN j A:=⟨by have:=r.dp;omega,by have:=r.un;omega⟩
theorem RoomN.deeper{k:Nat}{A:cw}(r:RoomN (k+1) A)(env:Env):RoomN k (A.deeper env):=
 ⟨by have:=r.dp;show A.depth+1+3*k+5<_;omega,by have:=r.un;show A.units+3+16*k+200<_;omega⟩
theorem RoomN.depth{k:Nat}{A:cw}(r:RoomN k A):A.depth<recursionLimit:=by have:=r.dp;omega
theorem RoomN.units{k:Nat}{A:cw}(r:RoomN k A):A.units+64<cLine:=by have:=r.un;omega
structure FnOkN(P:bw)(w:df)(K:bn)(mg:Str->Option bc)(base:Heap)(CX:CXT)(k:Nat)(f:Addr)(fd:iq)(ps:List Str)(sp:Sp):Prop where
 len:∀vs H Q E,sp vs H Q E->vs.length=ps.length
 run:∀(A:cw) (outer:List Env) (s:bd) (H:Hp) (args:Args) (us:List bc) (vs:List V) (Q:VK) (E:XK),RoomN k A->Env0 P w K mg base A outer s H->BindsTo s fd args (ps.zip us)->Vals vs us->sp vs H Q E ->
  ku (model P w) A (.call (.ref f) args) (CR CX outer P w H s Q E) s
abbrev cxN (P:bw) (w:df) (K:bn) (mg:Str->Option bc) (base:Heap) (N:List Str) (qual:Str) (scope:Scope) (f:Addr) (cd:bc) (A:cw) (outer:List Env) (s:bd) (H:Hp):Cx:=
 { bG CX0 P w K mg base N qual scope f cd A outer s H E0 with calm:=false,xe:=fun _ _=>False }
section
variable {P:bw}{w:df}{K:bn}{mg:Str->Option bc}{base:Heap}{k:Nat}
theorem AJ{f:Addr}{name qual:Str}{aa:Arguments}{ac:List Stmt}{scope:Scope}{dV kV af pm p ct oc:bc}{an od:Option Addr}
  {osl:Array (Option bc)}{N ps:List Str}{sp:Sp} (lk:K.lookup f=some ⟨oc,od,.func (ly name qual aa ac scope dV kV af pm an p ct),osl⟩) (hcd:W.codeIn K p qual=true) (S:FnScope N ps scope)
  (len:∀vs H Q E,sp vs H Q E->vs.length=ps.length)
  (hbody:∀(A:cw) (outer:List Env) (s:bd) (H:Hp) (vs:List V) (Q:VK) (E:XK),RoomN k (A.deeper (gh qual scope s.heap.objs.size f p))->sp vs H Q E ->
   ∃t,PSs (cxN P w K mg base N qual scope f p A outer s H) ac t/\t { nx:=fun _ H'=>Q .non H',rt:=Q } (start N vs) H):
  FnOkN P w K mg base CX0 (k+1) f (ly name qual aa ac scope dV kV af pm an p ct) ps sp:=by
 refine⟨len,fun A outer s H args us vs Q E hr e0 hb r ag=>?_⟩;have hl:=len _ _ _ _ ag;have KX:K.In s.heap:=e0.mod.kin.keeps fun b o e=>(e0.bs b o e).1;have ah:s.heap.NoLimit:=e0.mod.nolimit.keeps fun b o e=>(e0.bs b o e).1;have ae:∀y∈ps.zip us,scope.names.lookup y.1=some .local\/(scope.names.lookup y.1=some .cell/\((cellsFrom (s.heap.objs.size+1) scope.names []).lookup y.1).isSome=true):=fun⟨n,v⟩ hy=>by
  rcases S.par n (of_mem_zip hy).1 with q|q
  ·exact .inl q
  ·exact .inr ⟨q,kx _ _ _ (.inl q)⟩
 refine codeAny_call_function hr.depth (KX _ _ lk) rfl S.co S.gen rfl (W.codeRec_of KX hcd) (hb _ _ _ _ ?_);refine wpAny_newFunctionEnv_cells S.kind ae fun env he s1 x=>?_;subst he;refine⟨ah.keeps x.toInCall.keep,codeAny_func ?_⟩;obtain⟨t,ht,hq⟩:=hbody A outer s H vs Q E (hr.deeper _) ag;have e1:Env0 P w K mg base { A with handled:=none } outer s H:=⟨e0.frames,e0.mod,e0.bs,e0.bsz,e0.funs,e0.frf,e0.hok,e0.bare⟩;have I0:Inv (bG CX0 P w K mg base N qual scope f p { A with handled:=none } outer s H E0) [] (start N vs) H s1:=qI S rfl e1 hl r x;have I:Inv (cxN P w K mg base N qual scope f p A outer s H) [] (start N vs) H s1:=
  ⟨⟨I0.ok.mod,I0.ok.kind,I0.ok.glob,I0.ok.blt,I0.ok.above,I0.ok.inj,I0.ok.has,I0.ok.cab,(fun z=>Bool.noConfusion z),Around.frames_deeper e0.frames,I0.ok.stk,I0.ok.exf,I0.ok.bs,I0.ok.bsz,I0.ok.noex,I0.ok.exfs,I0.ok.funs,I0.ok.frf⟩,
   I0.os,I0.bare,I0.base,I0.loc,I0.cell,I0.free,I0.freeC,I0.pin,I0.hok,I0.len⟩
 refine gr (ht [] s1 (start N vs) H _ I hq) (fun fl s' hs=>?_) fun e s' hs=>hs.elim;have fin:∀{σ':St}{H':Hp}{v:V}{u:bc},Inv (cxN P w K mg base N qual scope f p A outer s H) [] σ' H' s'->RelV v u->Q v H'->CE outer P w H s Q u s':=
  fun {σ' H' v u} J rv q=>⟨v,H',J.os,J.bare,J.base,J.hok,rv,q⟩
 cases fl with
 |ret u=>
  obtain⟨v,σ',H',J,rv,q⟩:=hs;exact fin J rv q
 |next=>
  obtain⟨σ',H',J,q⟩:=hs;exact fin (v:=V.non) (u:=cu) J rfl q
 |brk=>
  obtain⟨_,_,_,q⟩:=hs;exact dh q
 |cont=>
  obtain⟨_,_,_,q⟩:=hs;exact dh q
end
structure DfN(P:bw)(w:df)(K:bn)(mg:Str->Option bc)(base:Heap)(x:Str)(ps:List Str)(k:Nat)(sp:Sp):Prop where
 ex:∃f fd,FnOkN P w K mg base CX0 k f fd ps sp/\mg x=some (.ref f)/\ki K (.ref f)=true/\Binds K fd ps []
section
variable {P:bw}{w:df}{K:bn}{mg:Str->Option bc}{base:Heap}{x:Str}{st:Stmt}{N ps:List Str}{k:Nat}
theorem DfN.dN{q:PN}(D:Dd K mg x st ps)(S:FnScope N ps (zg st))(n:Nat)(hn:N.length=ps.length+n)
  (hbody:∀(f:Addr) (p:bc) (A:cw) (outer:List Env) (s:bd) (H:Hp),RoomN k (A.deeper (gh x (zg st) s.heap.objs.size f p)) ->
   ∃t dt,PSs (cxN P w K mg base N x (zg st) f p A outer s H) (bL st) t/\RS t dt/\∀xs S R,q xs S R->dt (aG S.length R) (xs.map some++bh n none) S):DfN P w K mg base x ps (k+1) (spN ps q):=by
 obtain⟨f,fd,F,hm,hb⟩:=D.ex;have kp:=F.kp;obtain⟨oc,od,kV,ae,pm,an,p,ct,ac,rfl,lk,aa⟩:=F.ex;refine⟨f,_,AJ lk aa S (fun vs H Q E h=>h.1) fun A outer s H vs Q E hr ⟨hl,h,o,S',xs,R,z,hx,hq,c⟩=>?_,hm,kp,hb⟩;obtain⟨t,dt,h1,h2,h3⟩:=hbody f p A outer s H hr;refine⟨t,h1,h2 h o H _ _ S' _ _ ?_ z (h3 xs S' R hq) (eok z c)⟩;have e:N.length-vs.length=n:=yw
 unfold start;rw[e];exact oH hx
end
section
variable {X:Cx}{x:Str}{ps:List Str}{k j:Nat}{pos pos':Pos}{e:Expr}{es:List Expr}{t:TA}
theorem qW{q:PN}(D:DfN X.prog X.w X.K X.mg X.base x ps k (spN ps q))(hr:RoomN j X.A)(hk:k<=j)(ha:PA X (e::es) t)(hg:Gl X x:=by rfl)(z:(x==("__debug__":Str))=false:=by decide)
  (q1:bv (e::es) X.env=(false,eval e X.env)::bv es X.env:=by rfl) (q2:((js pos (bv es X.env)).any fun x=>x.fst)=false:=by rfl):PE X (.Call (.Name x pos') (e::es) [] pos) (fO (spN ps q) [] E0 t):=by
 obtain⟨f,fd,F,hm,kp,hb⟩:=D.ex;intro zc s σ H Q I h;refine io (iV I hg hm ?_ z);refine W.callWith_K (h₀:=X.base) I.ok.mod.kin kp (thn (ha pos zc s σ H _ I h) fun us s1 ⟨vs,H1,I1,r,q5⟩=>⟨I1.kIn,?_⟩) q1 q2;have q':spN ps q vs H1 Q E0:=by simpa using q5
 have hl:us.length=ps.length:=by rw[<- r.length];exact F.len _ _ _ _ q'
 have p:=hb s1 us I1.kIn (by rw[gu];exact hl);rw[gu]at p;refine wpAny_call (kv (F.run X.A X.stack s1 H1 ⟨us,[]⟩ us vs Q E0 (hr.mono hk) I1.env0 p r q') fun r s' hq=>?_);cases r with
 |error e=>exact hq.elim
 |ok fl=>
  cases fl with
  |ret u=>exact I1.after hq
  |next=>exact dh hq
  |brk=>exact dh hq
  |cont=>exact dh hq
end
end
end L2
namespace L2
open PySem PySem.Spec PySem.Calls PyProof.Rows PySem.W PySem.Builtin PySem.Builtin.ObjectAttr PySem.Builtin.Getset_descriptor
section
variable {prog:bw}{w:df}{A:cw}{E:bc->bd->Prop}{h:Heap}{g:Array GenState}{d:Drawn}{t:Nat}{os:OsState}{K:bn}{x C:Addr}{ox:Obj}{od:Option Obj}{name:Str}{tk:Tok}
theorem Dm{tp:bc}{R:Result->bd->Prop}(X:K.In h)(T0:∀M,Looks M h (typeOf (.ref x)) (.ref C))(hm:mroIn K C (.type "object")=some true)
  (hr:R (.ok (.ret (.ref C))) ⟨h,g,d,t,os⟩):ku (model prog w) A (.call (.builtin "getset_descriptor.__get__") ⟨[.builtin "object.__class__",.ref x,tp],[]⟩) R ⟨h,g,d,t,os⟩:=by
 have L0:=T0 (model prog w);have L1:=looks_mroIn (M:=model prog w) X hm;refine codeAny_call_builtin KF.slot_gs.plain KF.entry_gs (KF.slot_gs.check _ _ _ _ _ _ _ _ KF.type_class (KF.args_gs _ _ _) ?_);unfold je.«getset_descriptor.__get__» descrGet;rw[dga_obj];refine bb (bo ?_);unfold descrGetter descrCheckInstance descrNameAndClass isInstance;simp only[KF.owner_class]
 repeat lk
 refine⟨Code.quiet_builtin _ (by decide +kernel),codeAny_builtin KF.entry_class ?_⟩;unfold je.«object.__class__» shownTypeOf
 repeat lk
 exact hr
theorem CW{M:Model}{a gt:bc}(X:K.In h)(ha:findIn K (.ref C) name=some (some a))(hg:specialIn K a "__get__" = some (some gt))(hd:takesIn K a=some true):Looks M h (find (.ref x) (.ref C) name) (.bind gt a):=by
 have L1:=looks_findIn (M:=M) X ha;have L2:Looks M h (getOf (some a)) (some gt):=looks_specialIn X hg;refine L1.andThen (L2.andThen ?_);have L3:=looks_takesIn (M:=M) X hd;exact(show Looks M h (dataDescriptor? (some a) (some gt)) (some (gt,a))from L3.andThen .now).andThen (Looks.tag .now)
theorem Aj{M:Model}{p:bc}{Q:Unit->bd->Prop}(X:K.In h)(T0:∀M,Looks M h (typeOf (.ref x)) (.ref C))(hB:mroIn K C (.type "BaseException")=some true)(hq:Q () ⟨h,g,d,t,os⟩):
  bq M A (checkBuiltinCall "BaseException.__getattribute__" ⟨[.ref x,p],[]⟩) Q E ⟨h,g,d,t,os⟩:=by
 have hk:builtinKind "BaseException.__getattribute__" = some .slot:=by decide +kernel
 have z:splitId "BaseException.__getattribute__" = some ("BaseException","__getattribute__"):=by decide +kernel
 have ha:=F.args_bexc_ga (.ref x) p;simp only[checkBuiltinCall,hk,z];refine bb ?_;have L0:=T0 M;have L1:=looks_mroIn (M:=M) X hB;have L2:Looks M h (isInstance (.ref x) (.type "BaseException")) true:=L0.andThen L1;refine L2.at ?_
 repeat (any_goals (first|assumption|wp_step))
theorem AH{v:bc}{Q:Fin->bd->Prop}(X:K.In h)(T0:∀M,Looks M h (typeOf (.ref x)) (.ref C))(hf:Looks (model prog w) h (find (.ref x) (.ref C) name) (.value v))(hq:Q (.done (.ret v)) ⟨h,g,d,t,os⟩):
  bq (model prog w) A (je.«object.__getattribute__» ⟨[.ref x,.str name tk],[]⟩) Q E ⟨h,g,d,t,os⟩:=by
 have L0:=T0 (model prog w);have L1:=hf;unfold je.«object.__getattribute__»
 repeat (any_goals (first|assumption|with_reducible refine L0.at ?_|with_reducible refine L1.at ?_|wp_step))
theorem Bu{Q:Fin->bd->Prop}(X:K.In h)(T0:∀M,Looks M h (typeOf (.ref x)) (.ref C))(hm:mroIn K C (.type "object")=some true)(hf:Looks (model prog w) h (find (.ref x) (.ref C) "__class__") (.bind (.builtin "getset_descriptor.__get__") (.builtin "object.__class__")))
  (hq:Q (.done (.ret (.ref C))) ⟨h,g,d,t,os⟩):bq (model prog w) A (je.«object.__getattribute__» ⟨[.ref x,.str "__class__" tk],[]⟩) Q E ⟨h,g,d,t,os⟩:=by
 have L0:=T0 (model prog w);have L1:=hf;unfold je.«object.__getattribute__»
 repeat (any_goals (first|assumption|with_reducible refine L0.at ?_|with_reducible refine L1.at ?_|(refine wpAny_call (Dm X T0 hm ?_))|wp_step))
structure ExAt(K:bn)(C:Addr):Prop where
 ga:findIn K (.ref C) "__getattribute__" = some (some (.builtin "BaseException.__getattribute__"))
 gn:findIn K (.ref C) "__getattr__" = some none
 base:mroIn K C (.type "BaseException")=some true
theorem wP{v:bc}{z p:Bool}{Q:bc->bd->Prop}(X:K.In h)(T0:∀M,Looks M h (typeOf (.ref x)) (.ref C))(F0:ExAt K C)
  (en:∀(A:cw) (Q:Fin->bd->Prop) (E:bc->bd->Prop),Q (.done (.ret v)) ⟨h,g,d,t,os⟩->bq (model prog w) A (je.«object.__getattribute__» ⟨[.ref x,.str name tk],[]⟩) Q E ⟨h,g,d,t,os⟩)
  (hv:handedIn v=true) (hq:Q v ⟨h,g,d,t,os⟩):bq (model prog w) A (getAttrBy (.ref x) (.str name tk) z p) Q E ⟨h,g,d,t,os⟩:=by
 have f3:=F.attrBase_ValueError.ga.bind (.ref x);have hx0:(p&&onTheHeap (Value.builtin "BaseException.__getattribute__"))=false:=by cases p<;>rfl
 have aa:(Value.builtin "BaseException.__getattribute__" == Value.builtin "object.__getattribute__")=false:=by decide +kernel
 have ac:(onTheHeap (cg C)&&Value.builtin "BaseException.__getattribute__" == Value.builtin "object.__getattribute__")=false:=by rw[aa];rfl
 have L0:=T0 (model prog w);have L1:=looks_findIn (M:=model prog w) X F0.ga;have L2:=looks_findIn (M:=model prog w) X F0.gn
 repeat (any_goals (first|assumption|with_reducible refine L0.at ?_|with_reducible refine L1.at ?_|with_reducible refine L2.at ?_|wp_step))
 exact codeAny_call_builtin F.attrBase_ValueError.ga.plain F.entry_bexc_ga (Aj X T0 F0.base (en _ _ _ (handed_on hv hq)))
theorem Ch{Q:Option bc->bd->Prop}(X:K.In h)(T0:∀M,Looks M h (typeOf (.ref x)) (.ref C))(F0:ExAt K C)(hm:mroIn K C (.type "object")=some true)(hf:Looks (model prog w) h (find (.ref x) (.ref C) "__class__") (.bind (.builtin "getset_descriptor.__get__") (.builtin "object.__class__")))
  (hq:Q (some (.ref C)) ⟨h,g,d,t+1,os⟩):bq (model prog w) A (getAttr? (.ref x) "__class__") Q E ⟨h,g,d,t,os⟩:=by
 unfold getAttr? getAttrBy?;refine bb (wpAny_mkText (bb (ko (wP (t:=t+1) X T0 F0 (fun A Q E q=>Bu X T0 hm hf q) rfl ?_))));exact bo hq
theorem DQ{v:bc}{p:Bool}{Q:bc->bd->Prop}(X:K.In h)(T0:∀M,Looks M h (typeOf (.ref x)) (.ref C))(F0:ExAt K C)(hf:Looks (model prog w) h (find (.ref x) (.ref C) name) (.value v))(hv:handedIn v=true)
  (hq:Q v ⟨h,g,d,t+1,os⟩):bq (model prog w) A (getAttr (.ref x) name p) Q E ⟨h,g,d,t,os⟩:=by
 unfold getAttr;exact bb (wpAny_mkText (wP (t:=t+1) X T0 F0 (fun A Q E q=>AH X T0 hf q) hv hq))
end
end L2
namespace L2
open PySem PySem.Spec PySem.Calls PyProof.Rows
structure SpK(K:bn):Prop where
 hn:W.specialIn K (.builtin "object.__class__") "__get__" = some (some (.builtin "getset_descriptor.__get__"))
 ht:W.takesIn K (.builtin "object.__class__")=some true
def exM(C:Addr):List bc:=[.ref C,.ref 24,.type "ValueError",.type "Exception",.type "BaseException",.type "object"]
structure ExK(K:bn)(C:Addr):Prop where
 ty:W.typeIn K (.ref C)=some (.type "type")
 ga:lc K (.ref C) "__getattribute__" = some (some (.builtin "BaseException.__getattribute__"))
 gn:lc K (.ref C) "__getattr__" = some none
 cls:lc K (.ref C) "__class__" = some (some (.builtin "object.__class__"))
 mro:∃cd,me K C=some cd/\cd.mro=exM C
theorem ExK.mk'{K:bn}{C:Addr}{cd:ClassData}(a:W.typeIn K (.ref C)=some (.type "type"))(b:lc K (.ref C) "__getattribute__" = some (some (.builtin "BaseException.__getattribute__")))(c:lc K (.ref C) "__getattr__" = some none)
  (d:lc K (.ref C) "__class__" = some (some (.builtin "object.__class__"))) (e:me K C=some cd) (f:cd.mro=exM C):ExK K C:=⟨a,b,c,d,cd,e,f⟩
section
variable {K:bn}{x C D:Addr}
theorem ExK.mroIn(E:ExK K C)(v:bc):W.mroIn K C v=some ((exM C).contains v):=by
 obtain⟨cd,h1,h2⟩:=E.mro;unfold W.mroIn;rw[h1];show (if cd.mro.isEmpty=true then none else some (cd.mro.contains v))=_;rw[h2];rfl
theorem ExK.at_(E:ExK K C):ExAt K C:=⟨E.ga,E.gn,(E.mroIn _).trans rfl⟩
def IsEx(x C:Addr)(h:Heap):Prop:=∃o,h.get? x=some o/\o.cls=.ref C
theorem IsEx.ty{h:Heap}(p:IsEx x C h)(M:Model):W.Looks M h (typeOf (.ref x)) (.ref C):=by
 obtain⟨o,e,c⟩:=p;exact c▸(W.Looks.ld e).andThen .now
theorem Bo(E0:ExK K C)(S0:SpK K):W.KitX K (.ref x) (.ref C) (IsEx x C) where
 ty:=fun M h _ p=>p.ty M
 it:=fun M h X _=>by
  obtain⟨cd,hc,_⟩:=E0.mro;unfold me at hc;split at hc
  ·rename_i c' d' aa ae ho;intro A' Q' E' s' k q;unfold isType loadHead;exact bb (wpAny_loadPart (k _ _ (X _ _ ho)) (bo q))
  ·cases hc
 ne:=fun h tp dd af n sl X ac=>by
  obtain⟨cd,hc,_⟩:=E0.mro;refine Bool.eq_false_iff.mpr fun q=>?_;have e:C=tp:=Value.ref.inj (beq_iff_eq.mp q);subst e;unfold me at hc;split at hc
  ·rename_i c' d' aa ae ho;have z:=(X _ _ ho).symm.trans ac;cases z
  ·cases hc
 ca:=fun {prog w A E Q s} X p k=>by
  obtain⟨h,g,d,t,os⟩:=s;exact Ch X p.ty E0.at_ ((E0.mroIn _).trans rfl) (CW X E0.cls S0.hn S0.ht) k
def excs:List Addr:=[37,49,61,73,85,104,123,142,161,180]
def exc0:List Addr:=[37,49,61,73,85]
structure Exs(K:bn):Prop where
 sp:SpK K
 all:∀C∈excs,ExK K C
 cl:∀C∈exc0,ExCls K C none
 ci:∀C∈excs,∃ini,ExCls K C ini
theorem Exs.kit(E:Exs K)(hC:C∈excs)(hD:D∈excs):W.kitOne K (.ref C) (.ref D)=some (decide (C=D)):=by
 have EC:=E.all C hC;have ED:=E.all D hD;obtain⟨ac,p,_⟩:=ED.mro;unfold W.kitOne;by_cases h:C=D
 ·subst h;rw[dw yv,decide_eq_true rfl]
 ·rw[cf (by simpa using h),gl h];show (if ((me K D).isSome&&W.typeIn K (.ref D)==some (.type "type"))=true then W.mroIn K C (.ref D)else none)=_;rw[p,ED.ty,dw yv,EC.mroIn];have aa:D≠24:=by
   rintro rfl
   revert hD
   decide
  have:(exM C).contains (.ref D)=false:=by
   unfold exM;simp only[List.contains_cons,List.contains_nil,Bool.or_false,Bool.or_eq_false_iff];refine⟨beq_eq_false_iff_ne.mpr fun z=>h (Value.ref.inj z).symm,beq_eq_false_iff_ne.mpr fun z=>aa (Value.ref.inj z),?_⟩;simp
  rw[this]
theorem Exs.kitV(E:Exs K)(hC:C∈excs):W.kitOne K (.ref C) (.type "ValueError")=some true:=by
 have EC:=E.all C hC;unfold W.kitOne;rw[cf yv];show (if W.kitMeta "ValueError" = true then W.mroIn K C (.type "ValueError")else none)=_;rw[dw (by decide +kernel),EC.mroIn];rfl
end
def t9(K:bn):List V->Hp->VK->Prop:=fun xs H Q=>∃a C d c b,xs=[.ref a,c]/\H a=some (exO a C d)/\ExK K C/\SpK K/\(∀u,RelV c u->W.kitOne K (.ref C) u=some b)/\Q (.bl b) H
theorem cR{X:Cx}:CallR X (.builtin "isinstance") (t9 X.K):=by
 intro zc s σ H xs us Q I r h;obtain⟨a,C,d,c,b,rfl,ha,E0,S0,hk,q⟩:=h;obtain⟨u,w',rfl,ru,p⟩:=vals2 r;cases (show u=cg a from ru);obtain⟨⟨o,e,hc,_⟩,_⟩:=(show ObjOk X.prog X.w H s.heap a (exO a C d)from I.hok a _ ha);exact jt (Bo E0 S0) I.kIn ⟨o,e,hc⟩ (hk _ p) (fun z=>nomatch z) fun tk=>⟨.bl b,H,I.tok tk,rfl,q⟩
def b9:List XV->Sto->RX->Prop:=fun xs S R=>arg2 xs fun x y=>∃C fs c,x=.x C fs/\y=.o c/\C∈excs/\((∃D,c=.ref D/\D∈excs/\R (.d (.bool (decide (C=D)))) S)\/(c=.ty "ValueError"/\R (.d (.bool true)) S))
theorem cP{K:bn}(E:Exs K):RC (t9 K) b9:=fun h o H S xs vs R Q hs hx q c=>by
 obtain⟨x,y,rfl,C,fs,k,rfl,rfl,hC,q1⟩:=lM q;obtain⟨v,u,rfl,z,p⟩:=hxs2 hx;obtain⟨a,d,rfl,ha,_⟩:=z;cases (show u=k from p);rcases q1 with ⟨D,rfl,hD,q2⟩|⟨rfl,q2⟩
 ·exact⟨a,C,d,_,_,rfl,zH _ _ ha,E.all C hC,E.sp,fun u ru=>by cases (show u=cg D from ru);exact E.kit hC hD,c o H S _ _ Ex.refl hs (xB _) q2⟩
 ·exact⟨a,C,d,_,_,rfl,zH _ _ ha,E.all C hC,E.sp,fun u ru=>by cases (show u=ls "ValueError" from ru);exact E.kitV hC,c o H S _ _ Ex.refl hs (xB _) q2⟩
def tY:V->List V->Hp->VK->Prop:=fun x vs H Q=>∃bs:List Bool,Has H (.list (bs.map jm)) x/\vs=[.bl true]/\Q (.int (bs.countP id)) H
theorem D7{X:Cx}:MtR X "list.count" tY:=by
 intro zc s σ H x vs v us Q I rx rv h;obtain⟨bs,hl,rfl,q⟩:=h;obtain⟨u,rfl,r1⟩:=rv.one;cases (show u=Value.bool true from r1);have cl:ja (.list (bs.map jm))=true:=fw (v8 (rQ fun _ _=>(w6:Shp 0 _))).ok;obtain⟨as,q2⟩:=Has.reads I (.list (bs.map jm)) x v hl cl rx;cases q2 with
 | @list l o vs n xs as₁ h1 h2 h3 h4=>
  refine count_list_bools (vs:=vs.toList) ⟨o,h1,h2,n,by simpa using h3⟩ h4 (by simp[Shape.has]) ?_;refine⟨.int (bs.countP id),H,I.tok _,⟨s.toks,?_⟩,q⟩;have:∀bs:List Bool,countIn (.bool true) (bs.map jm)=(bs.countP id:Int):=fun bs=>by
   induction bs with
   |nil=>rfl
   |cons b bs ih=>
    rw[im,List.countP_cons];show (if same (.bool b) (.bool true)then (1:Int)else 0)+countIn (.bool true) (bs.map jm)=_;rw[ih];cases b
    ·show (0:Int)+_=_;simp
    ·show (1:Int)+_=_;simp;omega
  rw[this]
def gW:XV->List XV->Sto->RX->Prop:=fun x xs S R=>arg1 xs fun y=>y=.d (.bool true)/\∃ds,cA S x=some ds/\∃bs:List Bool,ds=bs.map jm/\R (.d (.int (bs.countP id))) S
theorem D1:RM tY gW:=fun h o H S x v xs vs R Q hs hx p q c=>by
 obtain⟨y,rfl,rfl,ds,e2,bs,rfl,q1⟩:=cL q;obtain⟨u,rfl,hu⟩:=hxs1 p;have hl:Has H (.list (bs.map jm)) v:=fU (x:=x) hs (by
  unfold cA at e2;split at e2
  ·cases e2;rfl
  ·rename_i k;show (S[k]?).map PyData.list=_;rw[e2];rfl
  ·cases e2) hx
 cases dJ hu;exact⟨bs,hl,rfl,c o H S _ _ Ex.refl hs (xI _) q1⟩
def gR(q:PN)(da:DA):DE:=fun δ S R=>da δ S fun xs S1=>∃C fs,xs=[.x C fs]/\q [.x C fs] [] (ret0 S1 R)
theorem hxE{h o:List Addr}{H:Hp}{C:Addr}{fs:List (Str×be)}{v:V}(hx:HasX h o H (.x C fs) v):HasX (h++o) [] H (.x C fs) v:=by
 have e:vx (h++o) [] H=vx h o H:=fP fun b=>by simp
 show HasE (vx (h++o) [] H) C fs v;rw[e];exact hx
theorem Cr{ps:List Str}{q:PN}{tl:TA}{dl:DA}(hp:ps.length=1)(ha:RA tl dl):RE (fO (spN ps q) [] E0 tl) (gR q dl):=fun h o H δ σ S R Q he hs d c=>
 ha h o H δ σ S _ _ he hs d fun o1 H1 S1 xs vs e1 s1 x1 ⟨C,fs,p,d1⟩=>by
  subst p;obtain⟨v,rfl,hv⟩:=hxs1 x1;refine⟨by simp[hp],h++o1,[],[],[.x C fs],_,rep0 s1,⟨v,[],rfl,hxE hv,rfl⟩,d1,cn0 s1 (c.pre e1)⟩
end L2
namespace L2
open PySem PySem.Spec PyProof.Rows
section
abbrev EXD:=Addr->List (Str×be)->Prop
abbrev PX:=List XV->Sto->RX->EXD->Prop
def CnX(h o:List Addr)(H:Hp)(EX:EXD)(E:XK):Prop:=∀o' H' S' C a fs,Ex o H o' H'->RepS h o' H' S'->HasE (vx h o' H') C fs (.ref a)->EX C fs->E (.ref C) (some a) H'
theorem CnX.pre{h o o':List Addr}{H H':Hp}{EX:EXD}{E:XK}(c:CnX h o H EX E)(e:Ex o H o' H'):CnX h o' H' EX E:=fun o2 H2 S2 C a fs e2=>c o2 H2 S2 C a fs (e.trans e2)
def RSx(E:XK)(EX:EXD)(t:TS)(dt:DS):Prop:=∀(h o:List Addr) (H:Hp) (δ:XE) (σ:St) (S:Sto) (En:DEnds) (D:Ends),RepE h o H δ σ->RepS h o H S->dt En δ S->EOk h o H En D->CnX h o H EX E->t D σ H
section
variable {E:XK}{EX:EXD}{t u:TS}{dt du:DS}
theorem sE(ht:RS t dt):RSx E EX t dt:=fun h o H δ σ S En D he hs q c _=>ht h o H δ σ S En D he hs q c
theorem tV(ht:RSx E EX t dt)(hu:RSx E EX u du):RSx E EX (dP t u) (aA dt du):=fun h o H δ σ S En D he hs q c x=>
 ht h o H δ σ S _ _ he hs q ⟨fun o1 H1 δ1 S1 σ1 e1 p z q1=>hu h o1 H1 δ1 σ1 S1 En D p z q1 (c.pre e1) (x.pre e1),c.rt,c.bk,c.ct⟩ x
end
theorem Bm{X:Cx}{st:Stmt}{t:TS}(h:PS X.nox st t):PS X st t:=fun zc s σ H D I hw=>
 gr (h zc s σ H D (I.wish _) hw) (fun _ _ q=>q.unwish) fun _ _ z=>dh z
def spX(ps:List Str)(q:PX):Sp:=fun vs H Q E=>vs.length=ps.length/\∃h o S xs R EX,RepS h o H S/\HasXs h o H xs vs/\q xs S R EX/\Cn h o H R Q/\CnX h o H EX E
structure DfX(P:bw)(w:df)(K:bn)(mg:Str->Option bc)(base:Heap)(x:Str)(ps:List Str)(k:Nat)(sp:Sp):Prop where
 ex:∃f fd,FnOk P w K mg base (CX1 P w) k f fd ps sp/\mg x=some (.ref f)/\ki K (.ref f)=true/\Binds K fd ps []
section
variable {P:bw}{w:df}{K:bn}{mg:Str->Option bc}{base:Heap}{x:Str}{st:Stmt}{N ps:List Str}{k:Nat}
theorem DfX.dN{q:PX}(D:Dd K mg x st ps)(S:FnScope N ps (zg st))(n:Nat)(hn:N.length=ps.length+n)
  (hbody:∀(f:Addr) (p:bc) (A:cw) (outer:List Env) (s:bd) (H:Hp) (E:XK) (EX:EXD),Room k (A.deeper (gh x (zg st) s.heap.objs.size f p)) ->
   ∃t dt,PSs (bG (CX1 P w) P w K mg base N x (zg st) f p A outer s H E) (bL st) t/\RSx E EX t dt/\∀xs S R,q xs S R EX->dt (aG S.length R) (xs.map some++bh n none) S):DfX P w K mg base x ps (k+1) (spX ps q):=by
 obtain⟨f,fd,F,hm,hb⟩:=D.ex;have kp:=F.kp;obtain⟨oc,od,kV,ae,pm,an,p,ct,ac,rfl,lk,aa⟩:=F.ex;refine⟨f,_,yU lk aa S (fun vs H Q E h=>h.1) fun A outer s H vs Q E hr ⟨hl,h,o,S',xs,R,EX,z,hx,hq,c,cx⟩=>?_,hm,kp,hb⟩;obtain⟨t,dt,h1,h2,h3⟩:=hbody f p A outer s H E EX hr;refine⟨t,h1,h2 h o H _ _ S' _ _ ?_ z (h3 xs S' R hq) (eok z c) cx⟩;have e:N.length-vs.length=n:=yw
 unfold start;rw[e];exact oH hx
end
def CN(sp:Sp)(t:TA):XK->TE:=fun Ex σ H Q=>t σ H fun vs H1=>sp vs H1 Q Ex
theorem EH{X:Cx}{q:PX}{x:Str}{ps:List Str}{k j:Nat}{pos pos':Pos}{e:Expr}{es:List Expr}{t:TA}(D:DfX X.prog X.w X.K X.mg X.base x ps k (spX ps q))(hr:Room j X.A)(hk:k<=j)(hx:∀e s,X.xe e s->False)(ha:PA X (e::es) t)(hg:Gl X x:=by rfl)(p:(x==("__debug__":Str))=false:=by decide)
  (q1:bv (e::es) X.env=(false,eval e X.env)::bv es X.env:=by rfl) (q2:((js pos (bv es X.env)).any fun x=>x.fst)=false:=by rfl):PEX X (.Call (.Name x pos') (e::es) [] pos) (CN (spX ps q) t):=by
 obtain⟨f,fd,F,hm,kp,hb⟩:=D.ex;exact FI hx F (hr.mono hk) hg hm kp hb ha p q1 q2
end
section
def gA(kn:DEnds->XE->RX)(m:Nat)(q:PX)(da:DA)(i:Nat)(hd:DS):DS:=fun En δ S=>da δ S fun xs S1=>∃ds,datas xs=some ds/\ds.length=m /\
 q (ds.map XV.d) [] (ret0 S1 (kn En δ)) fun C fs=>C∈excs/\hd { nx:=fun _ _=>False,rt:=En.rt } (δ.set i (some (.x C fs))) S1
def KnOk(kn:DEnds->XE->RX)(kt:Ends->St->VK):Prop:=∀(h o:List Addr) (H:Hp) (δ:XE) (σ:St) (En:DEnds) (D:Ends),RepE h o H δ σ->EOk h o H En D->Cn h o H (kn En δ) (kt D σ)
theorem hxs00{h o:List Addr}{H:Hp}:∀{es:List be}{vs:List V},HasXs h o H (es.map XV.d) vs->HasXs (h++o) [] H (es.map XV.d) vs
 | [],_,q=>q
 |d::ds,vs,⟨v,r,e,hv,l⟩=>⟨v,r,e,hx0 hv,hxs00 l⟩
def knD:DEnds->XE->RX:=fun En δ _ S2=>En.nx δ S2
theorem Dt:KnOk knD (fun D σ _ H1=>D.nx σ H1):=fun h o H δ σ En D he c o' H' S' x v e hs _ q=>c.nx o' H' δ S' σ e (he.mono e) hs q
theorem EF:fk "ValueError" = some (.type "ValueError"):=by decide +kernel
end
end L2
namespace L2
open PySem PySem.Spec PySem.Calls PyProof.Rows PySem.W PySem.Builtin PySem.Builtin.ObjectAttr
theorem Ds(self:bc)(C:Addr):refuseLoop self "__setattr__" (exM C)=pure ():=by
 unfold exM;rw[refuseLoop_ref,refuseLoop_ref];exact F.store_ValueError.passes self
theorem Ba{K:bn}{h:Heap}{C:Addr}{cd:ClassData}(X:K.In h)(e:clsIn K C=some cd):∃c0 dd sl,h.get? C=some ⟨c0,dd,.cls cd,sl⟩:=by
 unfold clsIn at e;split at e
 ·rename_i q;cases e;exact⟨_,_,_,X _ _ q⟩
 ·cases e
section
variable {prog:bw}{w:df}{A:cw}{E:bc->bd->Prop}{h:Heap}{g:Array GenState}{d:Drawn}{t:Nat}{os:OsState}{K:bn}{x C:Addr}{o:Obj}{cd:ClassData}{name:Str}{v:bc}{mA:Str->Option bc}
def XAt(h:Heap)(x:Addr)(o:Obj)(mA:Str->Option bc):Prop:=h.get? x=some o/\(∀c,o.data≠.cls c)/\((o.dict=none/\∀n,mA n=none)\/∃dx,o.dict=some dx/\dx≠x/\h.Ns1 dx mA)
theorem BJ{tk:Tok}{Q:Fin->bd->Prop}{ns:List Str}(X:K.In h)(ah:clsIn K C=some cd)(hm:cd.mro=exM C)(hdct:cd.hasDict=true)(am:findIn K (.ref C) name=some none)(hc:o.cls=.ref C)(I:XAt h x o mA)
  (hq:∀h' tk' dx,XAt h' x { o with dict:=some dx } (fun y=>if y=name then some v else mA y)->(o.dict=some dx\/o.dict=none/\h.objs.size<=dx)->(∀b ob,b≠x->b≠dx->h.get? b=some ob->h'.get? b=some ob)->Q (.done (.ret .none)) ⟨h',g,d,tk',os⟩)
  (hw:Within mA ns) (hsz:ns.length+1<=bt):
  bq (model prog w) A (je.«object.__setattr__» ⟨[.ref x,.str name tk,v],[]⟩) Q E ⟨h,g,d,t,os⟩:=by
 obtain⟨hx,aa,hd⟩:=I;have af:=Ds (.ref x) C;have Lm:Looks (model prog w) h (mroOf (.ref C)) (exM C):=by rw[<- hm];exact(looks_clsIn X ah).andThen .now
 have La:=looks_findIn (M:=model prog w) X am;obtain⟨c0,dd,sl,hC⟩:=Ba X ah;unfold je.«object.__setattr__»
 repeat (first|with_reducible refine gb hC ?_|rw[refuse_eq]|rw[af]|(with_reducible refine gb hx ?_;rw[hc])|with_reducible refine Lm.at ?_|with_reducible refine La.at ?_|wp_step)
 rcases hd with ⟨hdn,hmA⟩|⟨dx,hdx,hne,hns⟩
 ·rw[hdn,cf (by simp[typeHasDict])];split
  ·rename_i z;cases z
  split
  ·rename_i c z;exact absurd z (aa c)
  have ai:(h.push { cls:=.type "dict",data:=.dict #[] }).get? x=some o:=bg _ hx;have ae:x≠h.objs.size:=ie (cv hx);refine bb (wpAny_alloc' (bb (wpAny_update' ai (bo ?_))));have gd:((h.push { cls:=.type "dict",data:=.dict #[] }).update x fun o=>{ cls:=o.cls,dict:=some h.objs.size,data:=o.data,slots:=o.slots }).get? h.objs.size=some { cls:=.type "dict",data:=.dict #[] } :=
   (get?_update_ne _ _ _ _ ae.symm).trans (Heap.get?_push_at rfl rfl)
  have nd:((h.push { cls:=.type "dict",data:=.dict #[] }).update x fun o=>{ cls:=o.cls,dict:=some h.objs.size,data:=o.data,slots:=o.slots }).Ns h.objs.size (fun _=>none):=
   ⟨_,#[],_,gd,rfl,fun e he=>absurd he yv,fun _=>rfl⟩
  show bq _ _ (storeInDict h.objs.size (.str name tk) name v) _ _ _;unfold storeInDict newKeyGuard;refine bb (bo (bb (wpAny_nsSet1 (Heap.Ns1.of_empty nd) fun h' p hs=>?_)));obtain⟨oD,aj,ao,ag,hdD,ac⟩:=p.count (Within.cons name v Within.nil);refine bb (wpAny_lookBehind ag (by rw[hdD];exact pastItsLine_dict (gg ac (by rw[fm,length_nil,jv];omega))) ?_)
  wp_walk
  have an:h'.get? x=some { cls:=o.cls,dict:=some h.objs.size,data:=o.data,slots:=o.slots }:=by
   refine(hs.2 x ae).trans (ft _ ai ?_);have ak:=(Heap.get?_some_iff.mp hx).2;obtain⟨oc,od,al,ap⟩:=o;cases al<;>first|rfl|exact ak
  refine hq h' _ h.objs.size ⟨an,aa,.inr ⟨h.objs.size,rfl,ae.symm,?_⟩⟩ (.inr ⟨hdn,cq _⟩) (fun b ob nb n2 q=>(hs.2 b n2).trans ((get?_update_ne _ _ _ _ nb).trans (bg _ q)));obtain⟨o',es,ep,e1,e2,e3,eu,e4⟩:=p;exact⟨o',es,ep,e1,e2,e3,eu,fun y=>by rw[e4 y];by_cases hy:y=name<;>simp[hy,hmA]⟩
 ·rw[hdx];refine bo ?_;show bq _ _ (storeInDict dx (.str name tk) name v) _ _ _;unfold storeInDict newKeyGuard;refine bb (bo (bb (wpAny_nsSet1 hns fun h' p hs=>?_)));obtain⟨oD,aj,ao,ag,hdD,ac⟩:=p.count (Within.cons name v hw);refine bb (wpAny_lookBehind ag (by rw[hdD];exact pastItsLine_dict (gg ac (by rw[fm];omega))) ?_)
  wp_walk
  have eo:({ o with dict:=some dx }:Obj)=o:=by rw[<- hdx]
  refine hq h' _ dx ?_ (.inl hdx) fun b ob _ nd q=>(hs.2 b nd).trans q;rw[eo];exact⟨(hs.2 x hne.symm).trans hx,aa,.inr ⟨dx,hdx,hne,p⟩⟩
theorem sP{Q:Unit->bd->Prop}{ns:List Str}(X:K.In h)(ae:clsIn K C=some cd)(hm:cd.mro=exM C)(hdct:cd.hasDict=true)(ac:findIn K (.ref C) "__setattr__" = some (some (.builtin "object.__setattr__")))(z:findIn K (.ref C) name=some none)(aa:mroIn K C (.type "object")=some true)(hc:o.cls=.ref C)(I:XAt h x o mA)
  (hq:∀h' p dx,XAt h' x { o with dict:=some dx } (fun y=>if y=name then some v else mA y)->(o.dict=some dx\/o.dict=none/\h.objs.size<=dx)->(∀b ob,b≠x->b≠dx->h.get? b=some ob->h'.get? b=some ob)->Q () ⟨h',g,d,p,os⟩)
  (hw:Within mA ns) (hsz:ns.length+1<=bt):
  bq (model prog w) A (setAttr (.ref x) name v) Q E ⟨h,g,d,t,os⟩:=by
 have hx:=I.1;have SF:=F.store_ValueError;have f3:=SF.slot.bind (.ref x);have L1:=looks_findIn (M:=model prog w) X ac;have T0:∀M,Looks M h (typeOf (.ref x)) (.ref C):=fun M=>hc▸(Looks.ld hx).andThen .now;unfold setAttr callSpecial? specialOf
 repeat (any_goals (first|assumption|(with_reducible refine gb hx ?_;rw[hc])|with_reducible refine L1.at ?_|wp_step))
 refine codeAny_call_builtin SF.slot.plain SF.entry (@check_slot (model prog w) _ _ _ "object.__setattr__" "object" "__setattr__" (.ref x) [.str name t,v] [] _ SF.kind SF.split ((T0 _).andThen (looks_mroIn X aa)) (SF.args (.ref x) (.str name t) v) (BJ X ae hm hdct z hc I (fun h' p dx a b c=>?_) hw hsz));exact bo (bo (hq h' p dx a b c))
end
end L2
namespace L2
open PySem PySem.Spec PySem.Calls PyProof.Rows PySem.W
def exF(t:Addr):Data:=.fields #[.ref t,.none,.none,.none,.bool false,.none]
def exN(a C:Addr)(d:Option Addr)(t:Addr):HO:=.ext fun h=>h.get? a=some { cls:=.ref C,dict:=d,data:=exF t }
theorem sJ{P:bw}{w:df}{H:Hp}{h:Heap}{a C t:Addr}{d:Option Addr}(e:h.get? a=some { cls:=.ref C,dict:=d,data:=exF t }):ObjOk P w H h a (exN a C d t):=⟨e,⟨_,e⟩,fun _ _ q k=>k _ q⟩
theorem wG{P:bw}{w:df}{H:Hp}{h:Heap}{dx:Addr}{fs:List (Str×V)}{mA:Str->Option bc}(n:h.Ns1 dx mA)(r:∀f,RelO (fs.lookup f) (mA f))(wi:PySem.Within mA (fs.map (·.1))):ObjOk P w H h dx (xw dx fs):=
 ⟨⟨mA,n,r,wi⟩,let ⟨o,_,_,e,_⟩:=n;⟨o,e⟩,fun _ _ ⟨mA,n,r,wi⟩ k=>⟨mA,n.at k,r,wi⟩⟩
structure ExI(K:bn)(C:Addr):Prop where
 k:ExK K C
 hd:W.hasDictIn K C=true
 sa:lc K (.ref C) "__setattr__" = some (some (.builtin "object.__setattr__"))
def pC(K:bn)(ta tv:TE)(f:Str):TS:=fun D σ H=>tv σ H fun y H1=>ta σ H1 fun x H2=>∃a C t,x=.ref a/\ExI K C/\NoAttr K C f /\
  ((H2 a=some (exN a C none t)/\∀dx,H2 dx=none->D.nx σ (upd (upd H2 a (exN a C (some dx) t)) dx (xw dx [(f,y)]))) \/
   ∃dx fs,H2 a=some (exN a C (some dx) t)/\H2 dx=some (xw dx fs)/\dx≠a/\fs.length<100/\D.nx σ (upd H2 dx (xw dx (bU f y fs))))
section
variable {X:Cx}{o value:Expr}{f:Str}{pos pos':Pos}{ta tv:TE}
theorem vE(ha:PE X o ta)(hv:PE X value tv)(hs:swapsWith value (some (.Attribute o f pos')) pos.line X.env=pure false):PS X (.Assign [.Attribute o f pos'] value pos) (pC X.K ta tv f):=by
 intro zc s σ H D I h;refine plainObj_wpAny_Assign_Attribute (thn (hv zc s σ H _ I h) fun u s1 ⟨y,H1,I1,ry,q⟩=>thn (ha zc s1 σ H1 _ I1 q) fun ov s2 ⟨x,H2,I2,rx,a,C,t,ex,xi,na,q2⟩=>?_) hs;subst ex;obtain rfl:ov=cg a:=rx;obtain⟨cd,ac,hm⟩:=xi.k.mro;have hdct:cd.hasDict=true:=by
  have:=xi.hd;unfold W.hasDictIn at this;rw[ac]at this;simpa using this
 have ae:mroIn X.K C (.type "object")=some true:=(xi.k.mroIn _).trans (by simp[exM]);obtain⟨hp,g,d,tk,os⟩:=s2;rcases q2 with ⟨ea,q2⟩|⟨dx,fs,ea,ed,ne,hl,q2⟩
 ·obtain⟨e1,_,_⟩:=(show ObjOk X.prog X.w H2 hp a (exN a C none t)from I2.hok a _ ea);refine sP (o:={ cls:=.ref C,dict:=none,data:=exF t }) (mA:=fun _=>none) (ns:=[]) I2.kIn ac hm hdct xi.sa na ae rfl ⟨e1,(fun c z=>by cases z),.inl ⟨rfl,fun _=>rfl⟩⟩ (fun h' aa dx xa od kp=>?_) (fun y z=>absurd rfl z) (by show 1<=bt;rw[jv];omega);obtain⟨x1,_,x2⟩:=xa;have p:hp.objs.size<=dx:=by
   rcases od with z|z
   ·cases z
   ·exact z.2
  obtain⟨af,z,nx,n1⟩:∃d,some dx=some d/\d≠a/\h'.Ns1 d (fun y=>if y=f then some u else none):=by
   rcases x2 with ⟨z,_⟩|z
   ·cases z
   ·exact z
  cases z;have g1:(hp.update a fun o=>{ o with dict:=some dx }).get? a=some { cls:=.ref C,dict:=some dx,data:=exF t }:=ft _ e1 rfl
  have J:=I2.write (x:=a) (e:=a) (o:=exN a C (some dx) t) (h':=hp.update a fun o=>{ o with dict:=some dx }) (t':=tk) (by rw[ea];exact lu) (.inl rfl) (fun b v nb z=>(get?_update_ne _ _ _ _ nb).trans z) ⟨_,g1⟩ (sJ g1);have J2:=J.laid (a:=dx) (o:=xw dx [(f,y)]) (h':=h') (t':=aa) (fun b v z=>?_) (by show (hp.update a _).objs.size<=dx;rw[Heap.size_update];exact p) (wG n1 (fun g=>?_) fun g hg=>?_)
  ·exact⟨σ,_,J2,q2 dx (I2.hok.fresh p)⟩
  ·by_cases nb:b=a
   ·subst nb;rw[g1]at z;cases z;exact x1
   ·have z':hp.get? b=some v:=(get?_update_ne _ _ _ _ nb).symm.trans z;exact kp b v nb (fun e=>absurd (cv z') (by rw[e];exact Nat.not_lt.mpr p)) z'
  ·show RelO ((bU f y []).lookup g) (if g=f then some u else none);rw[sG];by_cases q:g=f
   ·rw[dw q,dw q];exact ry
   ·rw[cf q,cf q];exact lu
  ·by_cases e:g=f
   ·subst e;simp
   ·rw[cf e]at hg;exact absurd rfl hg
 ·obtain⟨e1,_,_⟩:=(show ObjOk X.prog X.w H2 hp a (exN a C (some dx) t)from I2.hok a _ ea);obtain⟨⟨mA,n1,r1,w1⟩,_,_⟩:=(show ObjOk X.prog X.w H2 hp dx (xw dx fs)from I2.hok dx _ ed);refine sP (o:={ cls:=.ref C,dict:=some dx,data:=exF t }) (mA:=mA) (ns:=fs.map (·.1)) I2.kIn ac hm hdct xi.sa na ae rfl ⟨e1,(fun c z=>by cases z),.inr ⟨dx,rfl,ne,n1⟩⟩ (fun h' aa ag xa od kp=>?_) w1 (by rw[cp,jv];omega);obtain rfl:dx=ag:=by
   rcases od with z|z
   ·exact fe z
   ·cases z.1
  obtain⟨x1,_,x2⟩:=xa;obtain⟨af,z,nx,n2⟩:∃d,some dx=some d/\d≠a/\h'.Ns1 d (fun y=>if y=f then some u else mA y):=by
   rcases x2 with ⟨z,_⟩|z
   ·cases z
   ·exact z
  cases z;have J:=I2.write (x:=dx) (e:=dx) (o:=xw dx (bU f y fs)) (h':=h') (t':=aa) (by rw[ed];exact lu) (.inl rfl) (fun b v nb z=>?_) (let ⟨o,_,_,e,_⟩:=n2;⟨o,e⟩) (wG n2 (fun g=>?_) fun g hg=>?_)
  ·exact⟨σ,_,J,q2⟩
  ·by_cases e:b=a
   ·subst e;rw[e1]at z;cases z;exact x1
   ·exact kp b v e nb z
  ·show RelO ((bU f y fs).lookup g) (if g=f then some u else mA g);rw[sG];by_cases q:g=f
   ·rw[dw q,dw q];exact ry
   ·rw[cf q,cf q];exact r1 g
  ·by_cases q:g=f
   ·rw[q];exact(p9 f y fs).1
   ·refine(p9 f y fs).2 g (w1 g fun z=>hg ?_);show (if g=f then some u else mA g)=none;rw[cf q];exact z
end
end L2
namespace L2
open PySem PySem.Spec PySem.Calls PyProof.Rows
section
variable {prog:bw}{w:df}{A:cw}{E:bc->bd->Prop}{h:Heap}{g:Array GenState}{d:Drawn}{t:Nat}{os:OsState}
variable {nm q:Str}{C N:Addr}{bs bm:List bc}{hdct:Bool}{sn:List Str}{sub:List bc}{ab:Bool}{col:Option Bool}{dd:Option Addr}{k0 k1 k2 k3 k5:Option bc}{mN:Str->Option bc}{rest:List bc}{fI:Addr}{oI:Obj}
theorem B4(T:OwnTail h veB bm){Q:Fin->bd->Prop}
  (hC:h.get? C=some (excClassObj nm q C N bs bm hdct sn sub ab col dd k0 k1 k2 k3 k5 "ValueError.__new__")) (hn:h.Ns N mN) (hi:mN "__init__" = some (.ref fI)) (hfI:h.get? fI=some oI) (hfc:oI.cls=.type "function")
  (hq:∀h' e,h.objs.size<=e->Heap.MadeExcOf h h' e (.ref C) rest->bq (model prog w) A (call (.ref fI) (.ref e::rest)) (fun r s'=>r=.none/\Q (.done (.ret (.ref e))) s') E ⟨h',g,d,t,os⟩) (hrest:rest.length<=bt):
  bq (model prog w) A (je.«type.__call__» ⟨.ref C::rest,[]⟩) Q E ⟨h,g,d,t,os⟩:=by
 have Fn:=F.excBase_ValueError;have ac:veB.contains (.type "ValueError")=true:=by decide +kernel
 repeat (first|with_reducible refine gb hC ?_|with_reducible refine wpAny_madeBy_exc hC ?_|wp_step)
 refine codeAny_call_builtin_code (Code.quiet_builtin _ Fn.quiet) (wpAny_check_new_subU Fn ac T hC ?_);refine codeAny_exc_new_subU Fn ac Fn T hC ?_ hrest;show bq _ _ _ _ _ _;generalize hh:((h.push { cls:=.type "tuple",data:=.seq rest.toArray }).push { cls:=.ref C,data:=.fields #[.ref h.objs.size,.none,.none,.none,.bool false,.none] })=h1;have keep:∀b o,h.get? b=some o->h1.get? b=some o:=fun b o e=>by rw[<- hh];exact bg _ (bg _ e)
 have z:=keep _ _ hC;have ae:h1.Ns N mN:=let ⟨o,es,ep,e,r⟩:=hn;⟨o,es,ep,keep _ _ e,r⟩;have aa:=keep _ _ hfI;have p:h1.get? (h.objs.size+1)=some { cls:=.ref C,data:=.fields #[.ref h.objs.size,.none,.none,.none,.bool false,.none] }:=by rw[<- hh];heap_get
 have af:(cg C::bm).contains (.ref C)=true:=by simp
 have T1:=T.keeps keep;unfold isInstance
 repeat (first|with_reducible refine gb p ?_|(with_reducible refine wpAny_isSubtype_exc z ?_;rw[af])|wp_step)
 show bq _ _ (typeLookup (.ref C) _) _ _ _;refine wpAny_typeLookup_tail z ae T1 Fn.mroIs Fn.init.lookup ?_;rw[hi];refine ic (bb ?_);unfold bindSpecial;refine bb (wpAny_typeOf (T:="function") ⟨_,aa,hfc⟩ ?_);rw[dw dz];refine bo (bb (gr (hq h1 (h.objs.size+1) (le_succ _) ⟨keep,Heap.get?_none_of_le (le_succ _),h.objs.size,p,Heap.get?_none_of_le (cq _),?_⟩) (fun r s' hr=>?_) fun _ _ x=>x))
 ·rw[<- hh];exact bg _ (Heap.get?_push_at rfl rfl)
 ·obtain⟨rfl,hQ⟩:=hr
  wp_walk
  exact hQ
theorem BP(T:OwnTail h veB bm){Q:bc->bd->Prop}
  (hC:h.get? C=some (excClassObj nm q C N bs bm hdct sn sub ab col dd k0 k1 k2 k3 k5 "ValueError.__new__")) (hn:h.Ns N mN) (hi:mN "__init__" = some (.ref fI)) (hfI:h.get? fI=some oI) (hfc:oI.cls=.type "function")
  (hq:∀h' e,h.objs.size<=e->Heap.MadeExcOf h h' e (.ref C) rest->bq (model prog w) (A.under (.builtin "type.__call__" ⟨.ref C::rest,[]⟩)) (call (.ref fI) (.ref e::rest)) (fun r s'=>r=.none/\Q (.ref e) s') E ⟨h',g,d,t,os⟩) (hrest:rest.length<=bt):
  bq (model prog w) A (call (.ref C) rest) Q E ⟨h,g,d,t,os⟩:=by
 have f1:=tc_lookup;have f2:=tc_bind (.ref C);have hT:(⟨h,g,d,t,os⟩:bd).TypeIs (.ref C) "type":=⟨_,hC,rfl⟩;refine wpAny_call (codeAny_of_tree ?_);show bq _ _ (callAny (.ref C) _) _ _ _
 repeat (any_goals (first|assumption|with_reducible refine gb hC ?_|wp_step))
 refine⟨rfl,?_⟩;exact codeAny_call_builtin_at (Code.quiet_builtin _ (by decide +kernel)) entry_typeCall (wpAny_check_type_call_sub hC (B4 T hC hn hi hfI hfc (fun h' e hz hm=>hq h' e hz hm) hrest))
end
section
variable {prog:bw}{w:df}{A:cw}{E:bc->bd->Prop}{s:bd}{env:Env}
variable {nm q:Str}{C N:Addr}{bs bm:List bc}{hdct:Bool}{sn:List Str}{sub:List bc}{ab:Bool}{col:Option Bool}{dd:Option Addr}{k0 k1 k2 k3 k5:Option bc}{newId:String}
theorem Ag{M:Model}{x:Sem bc}{Q:Flow->bd->Prop}(p:bm.contains (.type "BaseException")=true)(hh:A.handled=none)
  (h:bq M A x (fun v s1=>∃e t dx,v=.ref e/\s1.heap.get? C=some (excClassObj nm q C N bs bm hdct sn sub ab col dd k0 k1 k2 k3 k5 newId)/\s1.heap.get? e=some { cls:=.ref C,dict:=dx,data:=.fields #[.ref t,.none,.none,.none,.bool false,.none] }/\E (.ref e) s1) E s):
  bq M A (raiseStmt env (some x) none) Q E s:=by
 have z:(cg C::bm).contains (.type "BaseException")=true:=by rw[List.contains_cons,p,Bool.or_true]
 unfold raiseStmt;refine bb (gr h (fun v s1 h1=>?_) fun _ _ x=>x);obtain⟨e,t,dx,rfl,hC,he,hE⟩:=h1;obtain⟨hp,g,d,tk,os⟩:=s1
 repeat (first|with_reducible refine gb he ?_|with_reducible refine gb hC ?_|(with_reducible refine wpAny_isSubtype_exc hC ?_;rw[z])|wp_step)
 exact wpAny_raiseNew_none hh hE
end
end L2
namespace L2
open PySem PySem.Spec PySem.Calls PyProof.Rows
def del(H:Hp)(a:Addr):Hp:=fun b=>if b=a then none else H b
theorem iD{H:Hp}{a b:Addr}(h:b≠a):del H a b=H b:=cf h
theorem Dj{H:Hp}{a:Addr}{o:HO}:upd (del H a) a o=upd H a o:=by
 funext b;unfold upd del;split
 ·rfl
 ·rfl
theorem tP{H:Hp}{a b:Addr}{u:HO}(h:del H a b=some u):b≠a/\H b=some u:=by
 unfold del at h;split at h
 ·cases h
 ·rename_i n;exact⟨n,h⟩
section
variable {P:bw}{w:df}{K:bn}{mg:Str->Option bc}{base:Heap}{N:List Str}{qual:Str}{scope:Scope}{f:Addr}{cd:bc}{A:cw}{outer:List Env}{s:bd}{H:Hp}{E:XK}
theorem BA{zc:List (Addr×Obj)}{σ:St}{Hc:Hp}{s2:bd}{e C t:Addr}{dx:Option Addr}(I:Inv (bG (CX1 P w) P w K mg base N qual scope f cd A outer s H E) zc σ Hc s2)(hn:Hc e=some (exN e C dx t))(af:s.heap.get? e=none)(hE:E (.ref C) (some e) (upd Hc e (exO e C dx))):
  (bG (CX1 P w) P w K mg base N qual scope f cd A outer s H E).xe (.ref e) s2:=by
 have aa:(A.deeper (gh qual scope s.heap.objs.size f cd)).frames=some (gh qual scope s.heap.objs.size f cd::outer):=I.ok.frames;have nl:∀b o,s.heap.get? b=some o->b∉frs outer->b∉frs (gh qual scope s.heap.objs.size f cd::outer):=fun b o q hb z=>by
  rcases mem_cons.mp (show b∈s.heap.objs.size::frs outer from z)with e|e
  ·exact absurd (cv q) (by rw[e];exact iy _)
  ·exact hb e
 have nx:∀b:Addr,b∉([]:List Addr):=fun b=>by simp
 have p:∀b o,s.heap.get? b=some o->b≠e:=fun b o q z=>by
  rw[z,af]at q;cases q
 have nt:∀b xs,Hc b=some (.tup xs)->b≠e:=fun b xs q z=>by
  rw[z,hn]at q;cases q
 have no:∀b y,Hc b=some (.own y)->b≠e:=fun b y q z=>by
  rw[z,hn]at q;cases q
 have stk:s2.heap.FunFrames base (gh qual scope s.heap.objs.size f cd::outer):=I.stack;obtain⟨he,_,_⟩:=(show ObjOk P w Hc s2.heap e (exN e C dx t)from I.hok e _ hn);have ae:∀env∈(gh qual scope s.heap.objs.size f cd::outer),∀b,env.frame=some b->b∈e::frs (gh qual scope s.heap.objs.size f cd::outer):=fun env he b hb=>ck _ (List.mem_filterMap.mpr ⟨env,he,hb⟩);generalize hB:W.hideAll s2.heap (e::frs (gh qual scope s.heap.objs.size f cd::outer))=B;have hd:∀b o,s2.heap.get? b=some o->b≠e->b∉frs (gh qual scope s.heap.objs.size f cd::outer)->B.get? b=some o:=fun b o q n1 n=>by
  rw[<- hB];exact W.hideAll_get _ q fun z=>(mem_cons.mp z).elim n1 n
 have kp:∀b o,s.heap.get? b=some o->H b=none->b∉frs outer->B.get? b=some o:=fun b o q n hb=>hd b o (I.base.keep b o q n hb (nx b)) (p b o q) (nl b o q hb);have ep:∀b o,s.heap.get? b=some o->b∈frs outer\/∃o',B.get? b=some o':=fun b o q=>by
  by_cases hb:b∈frs outer
  ·exact .inl hb
  ·obtain⟨o1,q1⟩:=I.base.there b o q (nx b);exact .inr ⟨o1,hd b o1 q1 (p b o q) (nl b o q hb)⟩
 have tr:∀b u,Hc b=some u->b≠e->∀o,s2.heap.get? b=some o->B.get? b=some o:=fun b u q n1 o q1=>hd b o q1 n1 fun z=>by
  rw[I.stkFree.free b z]at q;cases q
 have ne:B.get? e=none:=by rw[<- hB];exact W.hideAll_none _ dm
 have ff:s2.heap.FunFrames B (gh qual scope s.heap.objs.size f cd::outer):=by rw[<- hB];exact W.funFrames_hide stk ae
 have bs:B.StaysIn s2.heap:=fun b o q=>by
  rw[<- hB]at q;exact W.of_hideAll _ q
 show bq _ _ (leaving (gh qual scope s.heap.objs.size f cd) (.ref e)) _ _ _;refine BC aa ff rfl he bs ne rfl rfl ⟨rfl,rfl⟩ fun h'' fl sm=>⟨del Hc e,e,C,dx,rfl,⟨I.os,I.bare,⟨fun b o q n hb _=>fl.1 b o (kp b o q n hb),fun b o q n hb _=>?_,fun b o q n _=>?_,fun b o q _=>?_,fun b xs q=>?_,fun b o u q=>?_,fun b ps q=>?_⟩,
  fun b u q=>?_,_,t,fl,kp,ep,fun b u q=>?_⟩,by rw[Dj];exact hE⟩
 ·obtain⟨sl,q1⟩:=I.base.slot b o q n hb (nx b);obtain⟨_,o3,q3,nf⟩:=stk.mem (show b∈frs (gh qual scope s.heap.objs.size f cd::outer)from ck _ hb);rw[q1]at q3;cases q3;obtain⟨ac,q4⟩:=sm b _ q1 nf;exact⟨ac,q4⟩
 ·rw[iD (p b o q)];exact I.base.free b o q n (nx b)
 ·rcases ep b o q with z|⟨o',z⟩
  ·obtain⟨_,o3,q3,_⟩:=fl.2.2.1.mem (show b∈frs outer from z);exact⟨o3,q3⟩
  ·exact⟨o',fl.1 b o' z⟩
 ·have q2:=I.base.tups b xs q;rw[iD (nt _ _ q2)];exact q2
 ·have q2:=I.base.frzs b o u q;rw[iD fun z=>by rw[z,hn]at q2;cases q2];exact q2
 ·have q2:=I.base.tbls b ps q;rw[iD fun z=>by rw[z,hn]at q2;cases q2];exact q2
 ·obtain⟨nb,qb⟩:=tP q;refine(I.hok b u qb).stay (fun c v hc q1=>?_) (fun c q1=>by rw[iD (no _ _ q1)];exact q1) (fun c xs q1=>by rw[iD (nt _ _ q1)];exact q1) fun c o u q1=>by rw[iD fun z=>by rw[z,hn]at q1;cases q1];exact q1
  rcases hc with rfl|hc
  ·exact fl.1 _ _ (tr _ _ qb nb _ q1)
  ·exact fl.1 _ _ (tr _ _ hc (no _ _ hc) _ q1)
 ·obtain⟨nb,qb⟩:=tP q;obtain⟨o,q1⟩:=(I.hok b u qb).obj;exact⟨o,tr b u qb nb o q1⟩
end
section
variable {X:Cx}{E:XK}{x:Str}{C fI:Addr}{fd:iq}{ps:List Str}{sp:Sp}{k:Nat}{np cpos pos:Pos}{e:Expr}{es:List Expr}{t:TA}{CX:CXT}
theorem Aa{K:bn}{h h1:Heap}{C:Addr}{ini:Option bc}{o:Obj}(q:ExCls K C ini)(X:K.In h)(X1:K.In h1)(e:h.get? C=some o):h1.get? C=some o:=by
 have z:=q.ty.1;unfold me at z;cases hl:K.lookup C with
 |none=>rw[hl]at z;cases z
 |some o'=>
  have:=X _ _ hl;rw[e]at this;cases this;exact X1 _ _ hl
def qE(E:XK)(C:Addr)(sp:Sp)(t:TA):TS:=fun _ σ H=>t σ H fun vs H1=>∀a tt,H1 a=none->sp (.ref a::vs) (upd H1 a (exN a C none tt)) (fun r H2=>r=.non/\∃dx,H2 a=some (exN a C dx tt)/\E (.ref C) (some a) (upd H2 a (exO a C dx))) fun _ _ _=>False
def RaisesI(X:Cx)(E:XK):Prop:=∀(C:Addr) (zc:List (Addr×Obj)) (σ:St) (H1 H2:Hp) (s1 s2:bd) (e t:Addr) (dx:Option Addr),Inv X zc σ H1 s1->s1.heap.get? e=none->Inv X zc σ H2 s2->H2 e=some (exN e C dx t)->E (.ref C) (some e) (upd H2 e (exO e C dx))->X.xe (.ref e) s2
theorem FS(hc:X.calm=true)(hR:RaisesI X E)(hg:Gl X x)(hm:X.mg x=some (.ref C))(q:ExCls X.K C (some (.ref fI)))(hk:ki X.K (.ref C)=true)(ag:W.typeIn X.K (.ref fI)=some (.type "function"))(F:FnOk X.prog X.w X.K X.mg X.base CX k fI fd ps sp)(al:∀o H s v s',CX o H s (fun _ _ _=>False) v s'->False)(hr:∀us:List bc,Room k (X.A.under (.builtin "type.__call__" ⟨.ref C::us,[]⟩)))(hb:Binds X.K fd ps [])(aa:ps.length<=1000)
  (ha:PA X (e::es) t) (hdb:(x==("__debug__":Str))=false:=by decide) (he:bv (e::es) X.env=(false,eval e X.env)::bv es X.env:=by rfl) (hpl:(js cpos (bv es X.env)).any (·.1)=false:=by rfl):
  PS X (.Raise (some (.Call (.Name x np) (e::es) [] cpos)) none pos) (qE E C sp t):=by
 intro zc s σ H D I h;obtain⟨tl,N,nm,qn,bs,hd,sn,sub,ab,col,dd,k0,k1,k2,k3,k5,mN,hC,hN,a3,T,_⟩:=q.ob _ I.kIn;have p:tl.contains (.type "BaseException")=true:=T.hasType (b:=true) (by decide +kernel);rw[arm_exec_Raise];refine bb (kz (Ag (C:=C) (nm:=nm) (q:=qn) (N:=N) (bs:=bs) (bm:=tl) (hdct:=hd) (sn:=sn) (sub:=sub) (ab:=ab) (col:=col) (dd:=dd) (k0:=k0) (k1:=k1) (k2:=k2) (k3:=k3) (k5:=k5) (newId:="ValueError.__new__") p (I.ok.hd hc) (bb (gr (wpAny_Call_ofName (iV I hg hm ?_ hdb)) (fun v s3 h3=>bb (kz (bo h3))) fun _ _ x=>x))));refine W.callWith_K (h₀:=X.base) I.ok.mod.kin hk (thn (ha cpos zc s σ H _ I h) fun us s1 ⟨vs,H1,I1,r,q1⟩=>⟨I1.kIn,?_⟩) he hpl;obtain⟨as,N1,a0,ay,ar,az,av,aq,ax,ap,a2,l0,l1,l2,l3,l5,au,an,ah,am,T1,_⟩:=q.ob _ I1.kIn;obtain⟨oI,ak,ai⟩:∃oI,s1.heap.get? fI=some oI/\oI.cls=.type "function":=by
  have z:Option.map (fun x:Obj=>x.cls) (X.K.lookup fI)=some (.type "function"):=ag;cases hl:X.K.lookup fI with
  |none=>rw[hl]at z;cases z
  |some o=>rw[hl]at z;exact⟨o,I1.kIn _ _ hl,fe z⟩
 obtain⟨h1,g1,d1,aj,a1⟩:=s1;have ac:us.length<=bt:=by
  have hz:=r.length;have:=F.len _ _ _ _ (q1 h1.objs.size 0 (I1.hok.fresh (cq _)));have aw:ps.length<=1000:=aa;rw[fm]at this;rw[jv];omega
 refine BP T1 an ah am ak ai (fun h' e2 hz mk=>?_) ac;obtain⟨t2,ao,_,_⟩:=mk.there;have J:=I1.laid (a:=e2) (o:=exN e2 C none t2) (h':=h') (t':=aj) mk.keeps hz (sJ ao);have qq:=q1 e2 t2 (I1.hok.fresh hz);have hl:(cg e2::us).length=ps.length:=by
  have:=F.len _ _ _ _ qq;rw[fm]at this ⊢;rw[<- r.length];exact this
 have ae:=hb _ (cg e2::us) J.kIn (by rw[gu];exact hl);rw[gu]at ae;refine wpAny_call (kv (F.run _ X.stack _ _ ⟨cg e2::us,[]⟩ (cg e2::us) (.ref e2::vs) _ _ (hr us) (J.env0.make C us []) ae (.cons rfl r) qq) fun rr s' hq=>?_);cases rr with
 |error v=>exact(al _ _ _ _ _ hq).elim
 |ok fl=>
  cases fl with
  |ret u=>
   obtain⟨y,H2,I2,ry,rfl,dx,af,hE⟩:=J.after hq;cases (show u=cu from ry);obtain⟨e3,_,_⟩:=(show ObjOk X.prog X.w H2 s'.heap e2 (exN e2 C dx t2)from I2.hok e2 _ af);exact⟨rfl,e2,t2,dx,rfl,Aa q I.kIn I2.kIn hC,e3,hR C zc σ H1 H2 _ s' e2 t2 dx I1 mk.new I2 af hE⟩
  |next=>exact dh hq
  |brk=>exact dh hq
  |cont=>exact dh hq
end
theorem B7{P:bw}{w:df}{K:bn}{mg:Str->Option bc}{base:Heap}{N:List Str}{qual:Str}{scope:Scope}{f:Addr}{cd:bc}{A:cw}{outer:List Env}{s:bd}{H:Hp}{E:XK}:
  RaisesI (bG (CX1 P w) P w K mg base N qual scope f cd A outer s H E) E:=fun C zc σ H1 H2 s1 s2 e t dx I1 ne I2 hn hE=>BA I2 hn (by
 cases z:s.heap.get? e with
 |none=>rfl
 |some o=>
  obtain⟨o1,q1⟩:=I1.base.there e o z (fun z=>by cases z);rw[ne]at q1;cases q1) hE
end L2
namespace L2
open PySem PySem.Spec PyProof.Rows
section
def spI(K:bn)(ns:List Str):Sp:=fun vs H Q _=>∃a C t ws,vs=.ref a::ws/\ws.length=ns.length/\ExI K C/\(∀n∈ns,NoAttr K C n)/\H a=some (exN a C none t)/\∀dx,H dx=none->Q .non (upd (upd H a (exN a C (some dx) t)) dx (xw dx (ns.zip ws)))
theorem init2{K:bn}{n m:Str}{N:List Str}{vs:List V}{H:Hp}{Q:VK}{E:XK}(ne:n≠m)(h:spI K [n,m] vs H Q E):dP (pC K (cB 0) (cB 1) n) (pC K (cB 0) (cB 2) m) { nx:=fun _ H'=>Q .non H',rt:=Q } (start N vs) H:=by
 obtain⟨a,C,t,ws,rfl,hl,xi,na,ha,q⟩:=h;obtain⟨w,v,rfl⟩:∃w v,ws=[w,v]:=by
  match ws,hl with
  | [w,v],_=>exact⟨w,v,rfl⟩
 refine⟨w,rfl,_,rfl,a,C,t,rfl,xi,na n yv,.inl ⟨ha,fun dx hd=>?_⟩⟩;have nx:dx≠a:=fun z=>by
  rw[z,ha]at hd;cases hd
 refine⟨v,rfl,_,rfl,a,C,t,rfl,xi,na m yv,.inr ⟨dx,[(n,w)],?_,zJ,nx,yv,?_⟩⟩
 ·rw[zu (dy nx),zJ]
 ·have e:bU m v [(n,w)]=[n,m].zip [w,v]:=by simp[bU,ne]
  show Q .non _;rw[e,ER];exact q dx hd
theorem tX{H:Hp}:∀{ns:List Str}{ds:List be}{vs:List V},HasL H ds vs->∀f dt,(ns.zip ds).lookup f=some dt->∃u,(ns.zip vs).lookup f=some u/\Has H dt u
 | [],_,_,_,f,dt,e=>by simp at e
 |n::ns,[],_,_,f,dt,e=>by simp at e
 |n::ns,d::ds,vs,l,f,dt,e=>by
  obtain⟨v,r,rfl,hv,l'⟩:=zo.mp l;rw[zip_cons_cons,ik]at e;by_cases z:f=n
  ·subst z;simp at e;subst e;exact⟨v,yv,hv⟩
  ·have zz:(f==n)=false:=by simp[z]
   rw[zz]at e;obtain⟨u,e1,e2⟩:=tX l' f dt e;exact⟨u,by rw[zip_cons_cons,ik,zz];exact e1,e2⟩
def gE(EX:EXD)(C:Addr)(ns:List Str)(da:DA):DS:=fun _ δ S=>da δ S fun xs _=>∃ds,datas xs=some ds/\ds.length=ns.length/\EX C (ns.zip ds)
theorem AX{E:XK}{EX:EXD}{K:bn}{C:Addr}{ns:List Str}{ta:TA}{da:DA}(hI:ExI K C)(hn:∀n∈ns,NoAttr K C n)(ha:RA ta da):RSx E EX (qE E C (spI K ns) ta) (gE EX C ns da):=fun h o H δ σ S En D he hs q c x=>
 ha h o H δ σ S _ _ he hs q fun o1 H1 S1 xs vs e1 s1 x1 ⟨ds,ed,hl,hE⟩ a tt na=>by
  have ac:=cQ ed;have hL:=kT x1 ac;refine⟨a,C,tt,vs,rfl,by rw[hL.length];exact hl,hI,hn,zJ,fun dx nd=>⟨rfl,some dx,?_,?_⟩⟩
  ·have ne:dx≠a:=fun z=>by rw[z,zJ]at nd;cases nd
   rw[zu (dy ne),zJ]
  ·have ne:dx≠a:=fun z=>by rw[z,zJ]at nd;cases nd
   have p:H1 dx=none:=by rwa [zu ne]at nd
   have aa:upd H1 dx (xw dx (ns.zip vs)) a=none:=by rw[zu (dy ne)];exact na
   have eH:upd (upd (upd (upd H1 a (exN a C none tt)) a (exN a C (some dx) tt)) dx (xw dx (ns.zip vs))) a (exO a C (some dx))=upd (upd H1 dx (xw dx (ns.zip vs))) a (exO a C (some dx)):=by
    funext b;unfold upd;split
    ·rfl
    ·rfl
   rw[eH];have sU:=(Same.laid (o:=xw dx (ns.zip vs)) p).trans (Same.laid (o:=exO a C (some dx)) aa);have fa:=s1.fresh na;have fd:=s1.fresh p;refine(x.pre e1) o1 _ S1 C a (ns.zip ds) (Ex.of_same sU) (s1.same sU) ⟨a,some dx,rfl,zM.mpr ⟨fa.1,fa.2,zJ⟩,fun f dt l=>?_⟩ hE;obtain⟨u,e2,e3⟩:=tX hL f dt l;exact⟨dx,ns.zip vs,u,rfl,zM.mpr ⟨fd.1,fd.2,by rw[zu ne,zJ]⟩,e2,Has.mono (jA sU) _ _ e3⟩
end
end L2
namespace L2
open PySem PySem.Spec PySem.Calls PyProof.Rows
def tXA(K:bn)(te:TE)(f:Str):TE:=fun σ H Q=>te σ H fun x H1=>∃a C dx vs u,x=.ref a/\H1 a=some (exO a C (some dx))/\H1 dx=some (xw dx vs)/\ExI K C/\NoAttr K C f/\vs.lookup f=some u/\Q u H1
theorem nW{X:Cx}{e:Expr}{te:TE}{f:Str}{pos:Pos}(he:PE X e te)(hb:lg e f X.env (eval e X.env)=eval e X.env):PE X (.Attribute e f pos) (tXA X.K te f):=by
 intro zc s σ H Q I h;refine FK hb (thn (he zc s σ H _ I h) fun u s1 ⟨x,H1,I1,rx,a,C,dx,vs,v,ex,ea,ed,xi,na,l,q⟩=>?_);subst ex;obtain rfl:u=cg a:=rx;obtain⟨hp,g,d,t,os⟩:=s1;obtain⟨⟨o,e1,hc,hd,fv,p,_⟩,_,_⟩:=(show ObjOk X.prog X.w H1 hp a (exO a C (some dx))from I1.hok a _ ea);obtain⟨⟨mA,n1,r1,w1⟩,_,_⟩:=(show ObjOk X.prog X.w H1 hp dx (xw dx vs)from I1.hok dx _ ed);obtain⟨od,ho,hl⟩:=yG n1;have rr:RelO (some v) (mA f):=by rw[<- l];exact r1 f
 obtain⟨w,hw,rv⟩:∃w,mA f=some w/\RelV v w:=by
  cases z:mA f with
  |none=>rw[z]at rr;cases rr
  |some w=>rw[z]at rr;exact⟨w,rfl,rr⟩
 have T0:∀M,W.Looks M hp (typeOf (.ref a)) (.ref C):=fun M=>hc▸(W.Looks.ld e1).andThen .now;exact DQ (v:=w) I1.kIn T0 ⟨xi.k.ga,xi.k.gn,(xi.k.mroIn _).trans (by simp[exM])⟩ (W.looks_find I1.kIn ⟨e1,hc,by unfold W.notCls;rw[p],by rw[hd];exact ho⟩ (W.findObj_own xi.hd na rfl (by rw[hl,hw]))) (Cz rv) ⟨v,H1,I1.tok _,rv,q⟩
structure ExsI(K:bn)(Cs:List Addr)(f:Str):Prop where
 i:∀C∈Cs,ExI K C
 n:∀C∈Cs,NoAttr K C f
def dXA(Cs:List Addr)(de:DE)(f:Str):DE:=fun δ S R=>de δ S fun x S1=>∃C fs d,x=.x C fs/\C∈Cs/\fs.lookup f=some d/\R (.d d) S1
theorem oK{K:bn}{Cs:List Addr}{te:TE}{de:DE}{f:Str}(X0:ExsI K Cs f)(he:RE te de):RE (tXA K te f) (dXA Cs de f):=fun h o H δ σ S R Q hE hs q c=>
 he h o H δ σ S _ _ hE hs q fun o1 H1 S1 x v e1 s1 x1 d1=>by
  obtain⟨C,fs,d,rfl,hC,hl,q1⟩:=d1;obtain⟨a,p,rfl,ha,hf⟩:=(show HasE (vx h o1 H1) C fs v from x1);obtain⟨dx,vs,u,rfl,e2,e3,e4⟩:=hf f d hl;exact⟨a,C,dx,vs,u,rfl,zH _ _ ha,zH _ _ e2,X0.i C hC,X0.n C hC,e3,c o1 H1 S1 (.d d) u e1 s1 e4 q1⟩
end L2
namespace L2
open PySem PySem.Spec PyProof.Rows
section
def pH(o:Obj):Bool:=match o.data with
 | .dict es _=>es.toList.all fun e=>match e.key with | .str _ _=>true|_=>false
 |_=>false
theorem Ap{K:bn}{N:Addr}{o:Obj}(l:K.lookup N=some o)(h:pH o=true):W.nsOkIn K N=true:=by
 unfold W.nsOkIn;rw[l];obtain⟨a,b,c,d⟩:=o;cases c with
 |dict es n=>
  show (es.all fun e=>match e.key with | .str _ _=>true|_=>false)=true;rw[<- Array.all_toList];exact h
 |_=>cases h
theorem exc_ofI{K:bn}{C N fI:Addr}{nm qn:Str}{bs:List bc}{hd:Bool}{sn:List Str}{sub:List bc}{ab:Bool}{col:Option Bool}{dd:Option Addr}{k0 k1 k2 k3 k5:Option bc}
  (l:K.lookup C=some (excClassObj nm qn C N bs (.ref 24::veB) hd sn sub ab col dd k0 k1 k2 k3 k5 "ValueError.__new__")) {oN:Obj} (lN:K.lookup N=some oN) (sN:pH oN=true) (i:W.nsIn K N "__init__" = some (some (.ref fI))) (G:ExCls K 24 none):ExCls K C (some (.ref fI)):=by
 have ok:=Ap lN sN;refine⟨fun h X=>?_,?_,?_⟩
 ·obtain⟨ak,NG,aj,an,am,ah,al,ac,ag,ae,ai,j0,j1,j2,j3,j5,af,hG,aa,p,_,_⟩:=G.ob h X;have z:h.Ns N (h.nsMap N):=.of_isNs (W.isNs_of_in X ok);refine⟨.ref 24::veB,N,nm,qn,bs,hd,sn,sub,ab,col,dd,k0,k1,k2,k3,k5,h.nsMap N,X _ _ l,z,Cy X z i,.own hG aa p .base,fun D=>?_⟩;unfold W.mroIn me;rw[l];rfl
 ·unfold me;rw[l];rfl
 ·show Option.map (fun x:Obj=>x.cls) (K.lookup C)=_;rw[l];rfl
end
section
abbrev Phi:=List Addr->List Addr->Hp->Prop
class Stb (Φ:Phi):Prop where
 st:∀{h o o':List Addr}{H H':Hp},Φ h o H->Ex o H o' H'->Φ h o' H'
def PhX(E:XK)(EX:EXD):Phi:=fun h o H=>CnX h o H EX E
instance {E:XK}{EX:EXD}:Stb (PhX E EX):=⟨fun x e=>CnX.pre x e⟩
def REp(Φ:Phi)(t:TE)(dt:DE):Prop:=∀(h o:List Addr) (H:Hp) (δ:XE) (σ:St) (S:Sto) (R:RX) (Q:VK),RepE h o H δ σ->RepS h o H S->dt δ S R->Cn h o H R Q->Φ h o H->t σ H Q
def RTp(Φ:Phi)(t:TT)(dt:DT):Prop:=∀(h o:List Addr) (H:Hp) (δ:XE) (σ:St) (S:Sto) (R:Bool->Sto->Prop) (Q:Bool->Hp->Prop),RepE h o H δ σ->RepS h o H S->dt δ S R ->
 (∀o' H' S' b,Ex o H o' H'->RepS h o' H' S'->R b S'->Q b H')->Φ h o H->t σ H Q
def RAp(Φ:Phi)(t:TA)(dt:DA):Prop:=∀(h o:List Addr) (H:Hp) (δ:XE) (σ:St) (S:Sto) (R:List XV->Sto->Prop) (Q:List V->Hp->Prop),RepE h o H δ σ->RepS h o H S->dt δ S R ->
 (∀o' H' S' xs vs,Ex o H o' H'->RepS h o' H' S'->HasXs h o' H' xs vs->R xs S'->Q vs H')->Φ h o H->t σ H Q
section
variable {Φ:Phi} [Stb Φ] {ta tb te:TE}{da db de:DE}{tl:TA}{dl:DA}{tt tu:TT}{dt du:DT}
theorem yD(a:RE te de):REp Φ te de:=fun h o H δ σ S R Q he hs q c _=>a h o H δ σ S R Q he hs q c
theorem Dn(a:RT tt dt):RTp Φ tt dt:=fun h o H δ σ S R Q he hs q c _=>a h o H δ σ S R Q he hs q c
theorem uX(a:RA tl dl):RAp Φ tl dl:=fun h o H δ σ S R Q he hs q c _=>a h o H δ σ S R Q he hs q c
theorem BX{r:R2}{rd:D2}(hr:RO r rd)(ha:REp Φ ta da)(hb:REp Φ tb db):REp Φ (tOp r ta tb) (dOp rd da db):=fun h o H δ σ S R Q he hs q c w=>
 ha h o H δ σ S _ _ he hs q (fun o1 H1 S1 x v e1 s1 x1 d1=>hb h o1 H1 δ σ S1 _ _ (he.mono e1) s1 d1 (fun o2 H2 S2 y u e2 s2 y2 d2=>
  hr h o2 H2 S2 x y v u R Q s2 (x1.mono e2) y2 d2 (c.pre (e1.trans e2))) (Stb.st w e1)) w
end
section
variable {E:XK}{EX:EXD}{ta tb te:TE}{da db de:DE}{tl:TA}{dl:DA}{tt tu:TT}{dt du:DT}
def fY(EX:EXD)(m:Nat)(q:PX)(da:DA):DE:=fun δ S R=>da δ S fun xs S1=>∃ds,datas xs=some ds/\ds.length=m/\q (ds.map XV.d) [] (ret0 S1 R) EX
theorem CnX.out{h o:List Addr}{H:Hp}{S:Sto}(hs:RepS h o H S)(x:CnX h o H EX E):CnX (h++o) [] H EX E:=fun o' H' S' C a fs e' s' hE q=>by
 have sH:Same H H':=fun b u eb=>(e'.kp b u yv eb).2;have sv:Same (vx (h++o) o' H') (vx h o H'):=fun b u eb=>by
  obtain⟨n1,n2,n3⟩:=zM.mp eb;exact zM.mpr ⟨fun z=>n1 (fq _ z),fun z=>n1 (cb _ z),n3⟩
 exact x o H' S C a fs (Ex.of_same sH) (hs.same sH) (HasE.mono sv hE) q
theorem E7{ps:List Str}{q:PX}{m:Nat}(ha:RAp (PhX E EX) tl dl)(hm:ps.length=m:=by rfl):REp (PhX E EX) (fO (spX ps q) [] E tl) (fY EX m q dl):=fun h o H δ σ S R Q he hs w c x=>
 ha h o H δ σ S _ _ he hs w (fun o1 H1 S1 xs vs e1 s1 x1 ⟨ds,e,hl,d1⟩=>by
  have ex:=cQ e;subst ex;have hv:=x1.len;rw[gu];exact⟨by rw[hv,cp,hl,hm],h++o1,[],[],_,_,EX,rep0 s1,hxs0 x1,d1,cn0 s1 (c.pre e1),(x.pre e1).out s1⟩) x
theorem E8(ha:REp (PhX E EX) te de):RSx E EX (oQ te) (bW de):=fun h o H δ σ S En D he hs q c x=>
 ha h o H δ σ S _ _ he hs q (fun o1 H1 S1 y v e1 s1 x1 d1=>c.nx o1 H1 δ S1 σ e1 (he.mono e1) s1 d1) x
theorem EO{t u:TS}{ds dv:DS}(hc:RTp (PhX E EX) tt dt)(ht:RSx E EX t ds)(hu:RSx E EX u dv):RSx E EX (nY tt t u) (aK dt ds dv):=fun h o H δ σ S En D he hs q c x=>
 hc h o H δ σ S _ _ he hs q (fun o1 H1 S1 b e1 s1 d1=>by
  cases b with
  |true=>exact iB (ht h o1 H1 δ σ S1 En D (he.mono e1) s1 (by simpa using d1) (c.pre e1) (x.pre e1))
  |false=>exact gM (hu h o1 H1 δ σ S1 En D (he.mono e1) s1 (by simpa using d1) (c.pre e1) (x.pre e1))) x
end
section
variable {X:Cx}{E:XK}
theorem B5{x:Str}{ps:List Str}{k j:Nat}{pos pos':Pos}{e:Expr}{es:List Expr}{t:TA}{q:PX}(D:DfX X.prog X.w X.K X.mg X.base x ps k (spX ps q))(hp:Passes (CX1 X.prog X.w) X E)(hr:Room j X.A)(hk:k<=j)(ha:PA X (e::es) t)(hg:Gl X x:=by rfl)(p:(x==("__debug__":Str))=false:=by decide)
  (q1:bv (e::es) X.env=(false,eval e X.env)::bv es X.env:=by rfl) (q2:((js pos (bv es X.env)).any fun x=>x.fst)=false:=by rfl):PE X (.Call (.Name x pos') (e::es) [] pos) (fO (spX ps q) [] E t):=by
 obtain⟨f,fd,F,hm,kp,hb⟩:=D.ex;exact rA (dvs:=[]) (ds:=[]) (E:=E) F (hr.mono hk) hg hm kp hb .nil hp ha p q1 q2
end
structure XI(K:bn)(C:Addr)(ns:List Str)(qual:Str)(st:Stmt):Prop where
 ex:∃fI fd,ExCls K C (some (.ref fI))/\W.typeIn K (.ref fI)=some (.type "function")/\Fun K "__init__" qual st fI fd/\Binds K fd (("self":Str)::ns) []
 kc:ki K (.ref C)=true
 i:ExI K C
 na:∀n∈ns,NoAttr K C n
theorem XI.mk'{K:bn}{C N fI:Addr}{ns:List Str}{qual:Str}{st:Stmt}{nm qn:Str}{bs:List bc}{hd:Bool}{sn:List Str}{sub:List bc}{ab:Bool}{col:Option Bool}{dd:Option Addr}{k0 k1 k2 k3 k5:Option bc}{oc:bc}{od an:Option Addr}{aa:Array (Option bc)}{kV z pm p ct:bc}
  (l:K.lookup C=some (excClassObj nm qn C N bs (.ref 24::veB) hd sn sub ab col dd k0 k1 k2 k3 k5 "ValueError.__new__")) {oN:Obj} (lN:K.lookup N=some oN) (sN:pH oN=true) (i:W.nsIn K N "__init__" = some (some (.ref fI))) (G:ExCls K 24 none)
  (tf:W.typeIn K (.ref fI)=some (.type "function")) (lf:K.lookup fI=some ⟨oc,od,.func (ly "__init__" qual (eT st) (bL st) (zg st) .none kV z pm an p ct),aa⟩) (c:W.codeIn K p qual=true) (kf:ki K (.ref fI)=true)
  (hb:∀(kV z pm:bc) (an:Option Addr) (p ct:bc) (us:List bc),us.length=(("self":Str)::ns).length->bindArgs (ly "__init__" qual (eT st) (bL st) (zg st) .none kV z pm an p ct) ⟨us,[]⟩=pure ((("self":Str)::ns).zip us))
  (kc:ki K (.ref C)=true) (ek:ExK K C) (hdd:W.hasDictIn K C=true) (sa:lc K (.ref C) "__setattr__" = some (some (.builtin "object.__setattr__"))) (na:∀n∈ns,NoAttr K C n):XI K C ns qual st:=
 ⟨⟨fI,_,exc_ofI l lN sN i G,tf,oR (st:=st) lf c kf,(oR (st:=st) lf c kf).binds hb⟩,kc,⟨ek,hdd,sa⟩,na⟩
theorem FV{K:bn}{ns:List Str}(vs:List V)(H:Hp)(Q:VK)(E:XK)(h:spI K ns vs H Q E):vs.length=(("self":Str)::ns).length:=by
 obtain⟨a,C,t,ws,rfl,hl,_⟩:=h;rw[fm,fm,hl]
section
variable {X:Cx}{E:XK}{x:Str}{C:Addr}{ns:List Str}{qual:Str}{st:Stmt}{j:Nat}{np cpos pos:Pos}{e:Expr}{es:List Expr}{t:TA}
theorem B2(B:XI X.K C ns qual st)(hF:∀f fd,Fun X.K "__init__" qual st f fd->FnOk X.prog X.w X.K X.mg X.base CX0 1 f fd (("self":Str)::ns) (spI X.K ns))(hR:RaisesI X E)(hr:Room j X.A)(hj:2<=j)(hm:X.mg x=some (.ref C))(hn:ns.length<=9)
  (ha:PA X (e::es) t) (hc:X.calm=true:=by rfl) (hg:Gl X x:=by rfl) (hdb:(x==("__debug__":Str))=false:=by decide) (he:bv (e::es) X.env=(false,eval e X.env)::bv es X.env:=by rfl) (hpl:(js cpos (bv es X.env)).any (·.1)=false:=by rfl):
  PS X (.Raise (some (.Call (.Name x np) (e::es) [] cpos)) none pos) (qE E C (spI X.K ns) t):=by
 obtain⟨fI,fd,q,p,F,hb⟩:=B.ex;exact FS hc hR hg hm q B.kc p (hF fI fd F) (fun _ _ _ _ _ z=>z) (fun us=>(hr.mono hj).make C us []) hb (by rw[fm];omega) ha hdb he hpl
end
def p8(N P:List Str)(sc:Scope):Bool:=decide (sc.kind=.function)&&!sc.isCoroutine&&!sc.isGenerator&&decide N.Nodup&&decide (N.take P.length=P)&&P.all (fun x=>decide (sc.names.lookup x=some .local)||decide (sc.names.lookup x=some .cell))&&sc.names.all fun y=>decide (y.2≠.free)
theorem fsc{N P:List Str}{sc:Scope}(h:p8 N P sc=true):FnScope N P sc:=by
 simp only[p8,gx,decide_eq_true_eq,Bool.not_eq_true',all_eq_true,Bool.or_eq_true]at h;obtain⟨⟨⟨⟨⟨⟨h1,h2⟩,h3⟩,h4⟩,h5⟩,h6⟩,h7⟩:=h;exact⟨h1,h2,h3,h4,h5,h6,h7⟩
end
section
section
variable {κ α:Type} [DecidableEq κ]
def lkA(m:List (κ×α))(k:κ):Option α:=(m.find? fun p=>decide (p.1=k)).map (·.2)
def ptA(m:List (κ×α))(k:κ)(v:α):List (κ×α):=if (m.any fun p=>decide (p.1=k))=true then m.map (fun p=>if p.1=k then (p.1,v)else p)else m++[(k,v)]
end
inductive KSg where
 |int|bool|many (s:KSg)|two (s t:KSg)
def KG:KSg->Type
 | .int=>Int
 | .bool=>Bool
 | .many s=>List (KG s)
 | .two s t=>KG s×KG t
instance decKG:(s:KSg)->DecidableEq (KG s)
 | .int=>inferInstanceAs (DecidableEq Int)
 | .bool=>inferInstanceAs (DecidableEq Bool)
 | .many s=>have:=decKG s;inferInstanceAs (DecidableEq (List (KG s)))
 | .two s t=>have:=decKG s;have:=decKG t;inferInstanceAs (DecidableEq (KG s×KG t))
def kdat:(g:KSg)->KG g->be
 | .int,i=>.int i
 | .bool,b=>.bool b
 | .many g,ks=>.tuple (List.map (kdat g) ks)
 | .two g g',k=>.tuple [kdat g k.1,kdat g' k.2]
inductive DD where
 |k (m:List (Key×be))
 |t (m:List (List Key×be))
 |g (g:KSg) (ob:Obj) (m:List (KG g×be))
def DD.pairs:DD->List (be×be)
 | .k m=>m.map fun p=>(kD p.1,p.2)
 | .t m=>m.map fun p=>(.tuple (p.1.map kD),p.2)
 | .g sg _ m=>m.map fun p=>(kdat sg p.1,p.2)
def CO:be->Option Key
 | .int i=>some (.inl i)
 | .str x=>some (.inr x)
 |_=>none
abbrev DM:=List (Addr×DD)
def ad(M:DM):List Addr:=M.map (·.1)
section
variable {h o o':List Addr}{H H':Hp}{M:DM}{S:Sto}
def AI(M:DM)(a:Addr)(D:DD):DM:=M.map fun p=>if p.1=a then (a,D)else p
end
end
section
structure DEndsM where
 nx:XE->Sto->DM->Prop
 rt:XV->Sto->DM->Prop
 bk:XE->Sto->DM->Prop:=fun _ _ _=>False
 ct:XE->Sto->DM->Prop:=fun _ _ _=>False
abbrev DSm:=DEndsM->XE->Sto->DM->Prop
def mP(dt:DS):DSm:=fun En δ S M=>dt { nx:=fun δ' S'=>En.nx δ' S' M,rt:=fun x S'=>En.rt x S' M,bk:=fun δ' S'=>En.bk δ' S' M,ct:=fun δ' S'=>En.ct δ' S' M } δ S
def kU(c:DM->DT)(t u:DSm):DSm:=fun En δ S M=>c M δ S fun b S1=>if b=true then t En δ S1 M else u En δ S1 M
def rT(g:DG)(b:DSm):List be->DSm
 | [],E,δ,S,M=>E.nx δ S M
 |d::ds,E,δ,S,M=>g (.d d) δ S fun δ1 S1=>b { nx:=fun δ2 S2 M2=>rT g b ds E δ2 S2 M2,ct:=fun δ2 S2 M2=>rT g b ds E δ2 S2 M2,bk:=E.nx,rt:=E.rt } δ1 S1 M
def jX(i:DM->DI)(g:DG)(b:DSm):DSm:=fun En δ S M=>i M δ S fun ds S1=>rT g b ds En δ S1 M
end
section
def FO(a:Addr)(m:List (Key×be)):XV->XV
 | .o (.ref b)=>if b=a then .d (.dict (DD.pairs (.k m)))else .o (.ref b)
 |x=>x
def mX(f:Bool)(i:Nat)(D0:DD)(b:DSm):DSm:=fun En δ S M=>∀a,a∉ad M->b { nx:=(fun δ' S' M'=>if f=true then (∃M1 m,M'=M1++[(a,.k m)]/\δ'[i]?=some (some (.o (.ref a)))/\En.nx (δ'.map (Option.map (FO a m))) S' M1)else (∃M1 D,M'=M1++[(a,D)]/\En.nx δ' S' M1)),rt:=(fun x S' M'=>∃M1 D,M'=M1++[(a,D)]/\En.rt x S' M1),bk:=(fun δ' S' M'=>∃M1 D,M'=M1++[(a,D)]/\En.bk δ' S' M1),ct:=(fun δ' S' M'=>∃M1 D,M'=M1++[(a,D)]/\En.ct δ' S' M1) } (δ.set i (some (.o (.ref a)))) S (M++[(a,D0)])
section
variable {E:XK}{EX:EXD}{tb:TS}{db:DSm}{i:Nat}
def mV(dt:DSm):DS:=fun En δ S=>dt { nx:=fun δ' S' _=>En.nx δ' S',rt:=fun x S' _=>En.rt x S',bk:=fun δ' S' _=>En.bk δ' S',ct:=fun δ' S' _=>En.ct δ' S' } δ S []
end
end
end L2
namespace L2
open PySem PySem.Spec PySem.Calls PyProof.Rows
def DD.itemsD(m:List (Key×be)):List be:=m.map fun p=>.tuple [kD p.1,p.2]
def jF(e:DE):DI:=fun δ S R=>e δ S fun x S1=>∃m,x=.d (.dict (DD.pairs (.k m)))/\R (DD.itemsD m) S1
end L2
namespace L2
open PySem PyProof.Rows
section
variable {prog:bw}{w:df}{A:cw}{E:bc->bd->Prop}{s:bd}{kd:SortKind}{D:Keyed->Prop}{lt:Keyed->Keyed->Bool}
def flt(lt:Keyed->Keyed->Bool):Keyed->Keyed->Bool:=fun x y=>lt y x
def G(xs:Array Keyed)(i:Nat):Keyed:=(xs[i]?).getD (.none,.none)
end
end L2
namespace L2
open PySem PySem.Spec PySem.Calls PyProof.Rows PySem.W
def mD:List XV->Sto->RX->Prop:=fun xs S R=>arg1 xs fun x=>∃m:List (Key×be),x=.d (.dict (DD.pairs (.k m)))/\∃ns:List Int,m.map (·.1)=ns.map Sum.inl/\ns.length<=10000000/\∀ms:List Int,ms.Perm ns->ms.Pairwise (· <= ·)->R (.d (.list (ms.map cz))) S
end L2
namespace L2
open PySem PySem.Spec PySem.Calls PyProof.Rows
def kG(j:Nat)(dk dv:DM->DE):DSm:=fun En δ S M=>zk j δ S fun y S1=>∃a m,y=.o (.ref a)/\(a,DD.k m)∈M/\dk M δ S1 fun z S2=>dv M δ S2 fun x S3=>asD z fun k=>asD x fun d=>∃kk,CO k=some kk/\m.length<1000/\if (lkA m kk).isSome=true then En.nx δ S3 M else En.nx δ S3 (AI M a (.k (ptA m kk d)))
def lI(k:Int)(e:DE):DE:=fun δ S R=>e δ S fun x S1=>asD x fun d=>R (.d (.dict [(.int k,d)])) S1
end L2
namespace L2
open PySem PySem.Spec PySem.Calls PyProof.Rows
theorem BZ{X:Cx}{es:List Expr}{k:Nat}{t:TGs}{n:Nat}{pos:Pos}{K:bn}(hK:X.K=K)(hc:X.calm=true)(h:PGs X es t)
  (hn:(iu es X.env).length=n:=by rfl) (hst:(iu es X.env).findIdx? (·.1)=none:=by rfl):PG X (.Tuple es k pos) (nV K n t):=by
 subst hK;exact kE hc h hn hst
end L2
namespace L2
theorem len0{α:Type}{l:List α}(h:l.length=0):l=[]:=gj h
theorem len1{α:Type}{l:List α}(h:l.length=1):∃a0,l=[a0]:=by
 cases l with
 |nil=>cases h
 |cons x r=>
  obtain rfl:=len0 (Nat.succ.inj h);exact⟨x,rfl⟩
theorem len2{α:Type}{l:List α}(h:l.length=2):∃a0 a1,l=[a0,a1]:=by
 cases l with
 |nil=>cases h
 |cons x r=>
  obtain⟨a1,rfl⟩:=len1 (Nat.succ.inj h);exact⟨x,a1,rfl⟩
theorem len3{α:Type}{l:List α}(h:l.length=3):∃a0 a1 a2,l=[a0,a1,a2]:=by
 cases l with
 |nil=>cases h
 |cons x r=>
  obtain⟨a1,a2,rfl⟩:=len2 (Nat.succ.inj h);exact⟨x,a1,a2,rfl⟩
end L2
namespace L2
open PySem PySem.Spec PySem.Calls PyProof.Rows
open Sem (wp)
def j7(a:DA):DE:=fun δ S R=>a δ S fun xs S1=>arg2 xs fun x y=>∃ds,cI x=some ds/\∃es,cI y=some es/\min ds.length es.length<=1000/\R (.d (.list (aX ds es))) S1
end L2
namespace L2
open PySem PySem.Spec PyProof.Rows
section
theorem lo{sc:Scope}{x:Str}(h:sc.names.lookup x=some .local:=by rfl):Loc sc x:=gv h
theorem fsd{N P:List Str}{sc:Scope}(h:p8 N P sc=true:=by decide +kernel):FnScope N P sc:=fsc h
end
end L2
namespace L2
open PySem PySem.Spec PySem.Calls PyProof.Rows
inductive AllK {α:Type} (F:α->bc->Prop):List α->List bc->Prop
 |nil:AllK F [] []
 |cons {k v ks vs}:F k v->AllK F ks vs->AllK F (k::ks) (v::vs)
end L2
namespace L2
open PySem PySem.Spec PyProof.Rows
section
def hB(b:Bool):Int:=reduceHash (match b with|true=>1|false=>0)
def kB(e:Int×bc):Bool:=match e.2 with
 | .bool b=>b
 |_=>false
end
section
def fV(S:Sto):Option XV->Option XV
 |some (.o v)=>some (.o v)
 |some x=>(bZ S x).map .d
 |none=>none
theorem Cq{h o:List Addr}{H:Hp}{S:Sto}{δ:XE}{σ:St}(hs:RepS h o H S)(he:RepE h o H δ σ):RepE h [] H (δ.map (fV S)) σ:=by
 refine⟨by rw[cp];exact he.len,fun i x e=>?_⟩;rw[gf]at e;obtain⟨y,ey,e⟩:=map_eq_some_iff.mp e;unfold fV at e;split at e
 ·cases e;exact he.get i _ ey
 ·obtain⟨d,ed,e⟩:=map_eq_some_iff.mp e;subst e;obtain⟨v,e1,e2⟩:=he.get i _ ey;exact⟨v,e1,hxV hs ed e2⟩
 ·cases e
theorem kL{S:Sto}:fV S none=none:=rfl
theorem mZ{S:Sto}{v:V}:fV S (some (.o v))=some (.o v):=rfl
theorem kJ{S:Sto}{d:be}:fV S (some (.d d))=some (.d d):=rfl
theorem nG{S:Sto}{k:Nat}:fV S (some (.l k))=(S[k]?).map fun l=>.d (.list l):=by show ((S[k]?).map PyData.list).map XV.d=_;rw[Option.map_map];rfl
def gO(dt:DT):DT:=fun δ S R=>dt (δ.map (fV S)) [] fun b S'=>S'=[]/\R b S
theorem xK{t:TT}{dt:DT}(ht:RT t dt):RT t (gO dt):=fun h o H δ σ S R Q he hs q c=>
 ht h [] H _ σ [] _ _ (Cq hs he) (CI hs) q fun o' H' S' b e s' ⟨eS,q1⟩=>by
  have sH:Same H H':=fun b u eb=>(e.kp b u yv eb).2;exact c o H' S b (Ex.of_same sH) (hs.same sH) q1
end
section
def jU(z:Str)(e:DE):DE:=fun δ S R=>e δ S fun x S1=>(∃d,bZ S1 x=some d/\dq d=true/\R (.d (.bool (!PyData.eqv d (.tuple [.str z])))) S1)\/(x=.d (.dict [])/\R (.d (.bool true)) S1)
end
section
def CalmAt(A:cw)(h:Heap):Prop:=A.handled=none\/∃x o vs,A.handled=some (.ref x)/\h.get? x=some o/\o.data=.fields vs/\vs[2]?=some cu
section
variable {prog:bw}{w:df}{A:cw}{E:bc->bd->Prop}{s:bd}
theorem EB:entryFor table "proto.unchain" = some je.«proto.unchain»:=entryFor_of_tree (by kernel_rfl)
theorem Bx{α:Type}{e:Addr}{oe:Obj}{ve:Array bc}{Q:α->bd->Prop}(c:CalmAt A s.heap)(he:s.heap.get? e=some oe)(hd:oe.data=.fields ve)(hn:∀x o vs,s.heap.get? x=some o->o.data=.fields vs->A.handled=some (.ref x)->x≠e)(hs:2<ve.size)
  (h:∀h' oe',h'.get? e=some oe'->oe'.cls=oe.cls->(∀b,b≠e->h'.get? b=s.heap.get? b)->h'.objs.size=s.heap.objs.size->E (.ref e) { s with heap:=h' }):bq (model prog w) A (raiseNew (.ref e):Sem α) Q E s:=by
 simp only[raiseNew];refine bb (wpAny_handled ?_);rcases c with c|⟨x,o,vs,c1,c2,c3,c4⟩
 ·rw[c];exact bb (bo (wpAny_throw (h s.heap oe he rfl (fun _ _=>rfl) rfl)))
 ·rw[c1];have ne:=hn x o vs c2 c3 c1;dsimp only;rw[dw (by simp[ne])];refine bb (ic (runValue_entry EB ?_));show bq _ _ (field (.ref x) 2 >>= _) _ _ s;refine bb (cy c2 c3 c4 ?_);rw[dw (show (cu==cu)=true from rfl)];refine bo ⟨_,rfl,?_⟩;refine bb (m:=updateField e 2 (.ref x)) (ii (a:=e) he hd hs (wpAny_throw ?_));have d3:=ge hd (·.setIfInBounds 2 (cg x));exact h _ _ (ft _ he (gi d3)) (Obj.cls_mapFields _ _) (fun b hb=>fu _ _ (dy hb)) (by simp[Heap.update])
theorem uD{it t:Addr}{i:Nat}{items}{Q:Option bc->bd->Prop}(hh:CalmAt A s.heap)(aa:∀x,A.handled=some (.ref x)->x≠it)
  (hit:IsTupIter s.heap it t i) (ht:IsTup s.heap t items) (hx:items[i]?=none)
  (hQ:∀h',Heap.ExtBut it s.heap h'->Q none { s with heap:=h' }):bq (model prog w) A (pyNext (.ref it)) Q E s:=by
 obtain⟨o,ho,hc,hd⟩:=id hit;obtain⟨ol,ac,_,nl,ae⟩:=ht;unfold pyNext;refine bb (ko (fr (name:=jx "__next__") hit.typeIs slot_tupleiter_next
  (gw slot_tupleiter_next hit.typeIs entry_tupleiter_next ?_ (args_tupleiter_next _))))
 show bq _ _ (field (.ref it) 0 >>= _) _ _ s;refine bb (cy ho hd (x:=.ref t) rfl ?_);show bq _ _ (if (cg t==cu)=true then _ else _) _ _ s;rw[cf (show ¬((cg t==cu)=true)from gc)];show bq _ _ (field (.ref it) 1 >>= _) _ _ s;refine bb (cy ho hd (x:=.int i 0) rfl ?_);show bq _ _ (seqItems? (.ref t) >>= _) _ _ s;refine bb (ig ac ae ?_);simp only[Int.toNat_natCast,hx];refine bb (wpAny_rule (bb (ii ho hd yv ?_)));show bq _ _ (newExc (.type "StopIteration") [] >>= _) _ _ _;refine bb ?_;simp only[newExc,newTuple];refine bb (fg ?_ (by size_fits));refine bb (m:=kr _ _) (wpAny_of_eq (a:=cu) (by first|rfl|(simp only[kr];rfl)) ?_);refine fg ?_ (by size_fits);have keep:∀b o',b≠it->s.heap.get? b=some o'->(((s.heap.update it (gk fun x=>x.setIfInBounds 0 cu)).push { cls:=.type "tuple",data:=.seq #[] }).push { cls:=.type "StopIteration",data:=.fields (#[.ref (s.heap.update it (gk fun x=>x.setIfInBounds 0 cu)).objs.size,.none,.none,.none,.bool false,.none]++ownMembersOf (.type "StopIteration") []) }).get? b=some o':=fun b o' nb q=>
  bg _ (bg _ ((fu _ _ (dy nb)).trans q))
 have p:∀{b o'},s.heap.get? b=some o'->b≠((s.heap.update it (gk fun x=>x.setIfInBounds 0 cu)).push { cls:=.type "tuple",data:=.seq #[] }).objs.size:=fun {b o'} q z=>by
  have l:=cv q;have e:((s.heap.update it (gk fun x=>x.setIfInBounds 0 cu)).push { cls:=.type "tuple",data:=.seq #[] }).objs.size=s.heap.objs.size+1:=by simp[Heap.push,Heap.update]
  rw[e]at z;exact absurd l (by rw[z];exact Nat.not_lt_of_le (le_succ _))
 refine Bx (A:=A.in1) (s:={ s with heap:=_ }) ?_ (bu _ rfl) rfl (fun x o' vs q _ z=>?_) (by simp;omega) fun h' af q1 q2 q3 q4=>?_
 ·rcases hh with c|⟨x,o',vs,c1,c2,c3,c4⟩
  ·exact .inl c
  ·exact .inr ⟨x,o',vs,c1,keep x o' (aa x c1) c2,c3,c4⟩
 ·rcases hh with c|⟨y,o2,vs2,c1,c2,_⟩
  ·exact absurd (show A.handled=some (.ref x)from z) (by rw[c];simp)
  ·have e:cg y=cg x:=fe (c1.symm.trans (show A.handled=some (.ref x)from z));cases e;exact p c2
 ·refine bb (wpAny_isInstance (T:="StopIteration") (b:=true) ⟨_,q1,q2⟩ isSubtype_stop ?_);refine bo (hQ _ fun b o' nb q=>?_);exact(q3 b (p q)).trans (keep b o' nb q)
theorem Ea{t:Addr}{p:Array bc}{Q:List bc->bd->Prop}(hh:CalmAt A s.heap)(ht:IsTup s.heap t p)
  (hQ:∀h',Heap.ExtBut s.heap.objs.size s.heap h'->Q p.toList { s with heap:=h' }):bq (model prog w) A (unpackItems (.ref t) p.size none) Q E s:=by
 have af:t≠s.heap.objs.size:=by obtain⟨o,ho,_⟩:=ht;exact ie (cv ho)
 unfold unpackItems;refine bb ?_
 ·unfold notIterableAtAll;refine bb (wpAny_specialOf ht.typeIs slot_tuple_iter.lookup ?_);refine bo ?_;simp only[Bool.false_eq_true,if_false];refine bb (ic (iter_tuple ht ?_));refine bb (ic (draw_tuple af p.size 0 _ _ ⟨_,bu _ rfl,rfl,rfl⟩ (ht.push _) yw fun h₁ ag aa=>?_));have ac:List.take p.size (List.drop 0 p.toList)=p.toList:=by
   rw[List.drop_zero];exact List.take_of_length_le yv
  rw[ac];rw[cf yv];have ah:IsTup h₁ t p:=(ht.push _).extBut aa.extBut af;have ae:∀x,A.handled=some (.ref x)->x≠s.heap.objs.size:=fun x e z=>by
   rcases hh with c|⟨y,o',vs,c1,c2,_⟩
   ·rw[c]at e;cases e
   ·rw[c1]at e;cases e;exact absurd (cv c2) (by rw[z];exact iy _)
  have ai:CalmAt A h₁:=by
   rcases hh with c|⟨y,o',vs,c1,c2,c3,c4⟩
   ·exact .inl c
   ·exact .inr ⟨y,o',vs,c1,aa.extBut y o' (ae y c1) (bg _ c2),c3,c4⟩
  refine bb (ic (uD (s:={ s with heap:=h₁ }) ai ae ag ah yv fun h₂ aj=>?_));simp only[Option.isSome_none,Bool.false_eq_true,if_false];refine bo (hQ h₂ fun b o hb e=>aj b o hb (aa.extBut b o hb (bg _ e)))
theorem B3{env:Env}{elts:List Expr}{x1}{pos:Pos}{t:Addr}{p:Array bc}{Q:Unit->bd->Prop}(hh:CalmAt A s.heap)(ht:IsTup s.heap t p)
  (hn:(iu elts env).length=p.size) (hstar:(iu elts env).findIdx? (·.1)=none)
  (h:∀h',Heap.ExtBut s.heap.objs.size s.heap h'->bq (model prog w) A (assignInOrder ((iu elts env).map (·.2)) p.toList) Q E { s with heap:=h' }):
  bq (model prog w) A (assign (.Tuple elts x1 pos) env (.ref t)) Q E s:=by
 rw[assign_Tuple];refine bb (kz ?_);unfold unpack;rw[hn,hstar];exact bb (ic (Ea hh ht h))
end
section
variable {X:Cx}{pos:Pos}
theorem BS{es:List Expr}{k:Nat}{t:TGs}{n:Nat}(hc:∀zc σ H s,Inv X zc σ H s->CalmAt X.A s.heap)(h:PGs X es t)
  (hn:(iu es X.env).length=n:=by rfl) (hst:(iu es X.env).findIdx? (·.1)=none:=by rfl):PG X (.Tuple es k pos) (nV X.K n t):=by
 intro zc s σ H v u Q I r hw;obtain⟨a,xs,e1,hq,hl,hw⟩:=hw;subst e1;cases r;obtain⟨p,rv,ht,hz⟩:=I.tuple hq;refine B3 (hc _ _ _ _ I) ht (by simp[hn,<- hl,rv.length]) hst fun h' hx=>?_;have I1:Inv X zc σ H { s with heap:=h' }:=I.kept (t':=s.toks) fun b o e=>hx b o (ie (cv e)) e;exact h zc _ σ H xs _ Q I1 (by simpa using rv) hw
theorem Eb{tg iter:Expr}{af:List Stmt}{tl:TE}{g:TG}{tb:TS}(hp:PassesOwn (model X.prog X.w) X.A X.env X.xe)(hc:∀zc σ H s,Inv X zc σ H s->CalmAt X.A s.heap)(hi:PE X iter tl)(hg:PG X tg g)(hb:PSs X af tb)
  (hs:∀x,foldedSetIterable iter X.env x=pure x:=by intro _;rfl):PS X (.For tg iter af [] pos) (lY (pQ X.K tl) g tb):=by
 intro zc s σ H D I h;refine wpAny_For (thn (hi zc s σ H _ I h) fun v s1 ⟨x1,H2,I1,r1,q1⟩=>?_) hs;obtain⟨a,e,⟨aq,an⟩,W,⟨m0,w0⟩,aj⟩:=q1;subst e;cases r1;obtain⟨am,ao,p0,ap⟩:=I1.tuple an;refine wpAny_pyIter_tuple (show s1.heap.IsTuple a am.toArray from p0) ?_;have I2:Inv X zc σ H2 { s1 with heap:=s1.heap.push { cls:=.type "tuple_iterator",data:=.fields #[.ref a,.int 0 0] } }:=I1.kept (t':=s1.toks) fun b o e=>bg _ e;have f2:∀b∈[s1.heap.objs.size],FpOk X zc H2 b:=fun b hb=>by
  have e:b=s1.heap.objs.size:=by simpa using hb
  subst e;exact I1.fpOk (cq _) (I1.hok.fresh (cq _))
 have ai:(s1.heap.push { cls:=.type "tuple_iterator",data:=.fields #[.ref a,.int 0 0] }).IsTupleIter s1.heap.objs.size a 0:=⟨_,bu _ rfl,rfl,rfl⟩;have al:∀x,X.A.handled=some (.ref x)->x≠s1.heap.objs.size:=fun x e z=>by
  rcases hc _ _ _ _ I1 with c|⟨y,o',vs,c1,c2,_⟩
  ·rw[c]at e;cases e
  ·rw[c1]at e;cases e;exact absurd (cv c2) (by rw[z];exact iy _)
 generalize hit:s1.heap.objs.size=it at f2 ai al ⊢;have T:=pR (P:=X.prog) (w:=X.w) (K:=X.K) (tg:=tg) a it;have ac:∀{H':Hp},(∀b∈[it],H' b=none)->∀b∈[it],FpOk X zc H' b:=fun hn b hb=>⟨hn b hb,(f2 b hb).2⟩;refine codeAny_forLoop_any (fun n s'=>∃i σ' H',Inv X zc σ' H' s'/\s'.heap.IsTupleIter it a i/\(∀b∈[it],H' b=none)/\W i n σ' H') ?_ m0 ⟨0,σ,H2,I2,ai,fun b hb=>(f2 b hb).1,w0⟩;rintro n s3 ⟨i,σ3,H3,I3,ak,ah,w3⟩;rcases aj i n σ3 H3 w3 with ⟨stop,qn⟩|⟨go,N,hN,step⟩
 ·refine gm hp ?_;obtain⟨xs,hq,hx⟩:=stop;obtain⟨ag,rv,p,hz⟩:=I3.tuple hq;obtain⟨f0,f1,_,f3,f4,f5⟩:=ac ah it yv;have hl:=rv.length;refine uD (hc _ _ _ _ I3) al ak (show s3.heap.IsTuple a ag.toArray from p) (by simp;omega) fun h' eb=>?_;exact kh ⟨σ3,H3,I3.turned (t':=s3.toks) (fun b o hb e=>eb b o hb e) f0 f1 f3 f4 f5,qn⟩
 ·refine gm hp ?_;obtain⟨xs,x,hq,hx⟩:=go;obtain⟨ag,rv,p,hz⟩:=I3.tuple hq;obtain⟨u,hu,ru⟩:=rv.get hx;obtain⟨f0,f1,_,f3,f4,f5⟩:=ac ah it yv;refine wpAny_pyNext_tuple_item ak (show s3.heap.IsTuple a ag.toArray from p) (x:=u) (by simpa using hu) fun h4 ae sb=>?_;have I4:Inv X zc σ3 H3 { s3 with heap:=h4 }:=I3.turned (t':=s3.toks) (fun b o hb e=>(sb.2 b hb).trans e) f0 f1 f3 f4 f5;obtain⟨o4,e4,c4,d4⟩:=id ae;refine gm hp (i0 (s:={ s3 with heap:=h4 }) e4 c4 d4 dz ?_);have I5':=I4.pinned (ac ah) (T.obj _ _ ae);refine gm hp (thn (hg _ _ σ3 H3 x u _ I5' ru (step x H3 ⟨rfl,fun ys hy=>by rw[I3.tuple_inj hy hq];exact hx⟩)) fun _ s6 ⟨σ6,H6,I6,q6⟩=>?_);refine gm hp (thn (hb _ s6 σ6 H6 _ I6 q6) fun f s7 q7=>?_);have aa:∀{σ7:St}{H7:Hp},Inv X (zc++iK [it] h4) σ7 H7 s7->N σ7 H7->∃m,m<n/\∃i σ' H',Inv X zc σ' H' s7/\s7.heap.IsTupleIter it a i/\(∀b∈[it],H' b=none)/\W i m σ' H':=fun {σ7 H7} I7 n7=>by
   obtain⟨m',hm,w7⟩:=hN σ7 H7 n7;refine⟨m',hm,i+1,σ7,H7,I7.unpinned,T.keep _ _ _ ae fun b hb o e=>(I7.pin (b,o) (cb _ (cb _ (iL hb e)))).1,fun b hb=>?_,w7⟩;obtain⟨o,e,d⟩:=T.obj _ _ ae b hb;exact(I7.pin (b,o) (cb _ (cb _ (iL hb e)))).2.1
  cases f with
  |next=>obtain⟨σ7,H7,I7,n7⟩:=q7;exact aa I7 n7
  |cont=>obtain⟨σ7,H7,I7,n7⟩:=q7;exact aa I7 n7
  |brk=>obtain⟨σ7,H7,I7,q7⟩:=q7;exact⟨σ7,H7,I7.unpinned,q7⟩
  |ret v=>obtain⟨x7,σ7,H7,I7,r7,q7⟩:=q7;exact⟨x7,σ7,H7,I7.unpinned,r7,q7⟩
end
def CalmH(A:cw)(outer:List Env)(s:bd)(H:Hp):Prop:=∃x o vs,A.handled=some (.ref x)/\s.heap.get? x=some o/\o.data=.fields vs/\vs[2]?=some cu/\H x=none/\x∉frs outer
structure FnOkC(P:bw)(w:df)(K:bn)(mg:Str->Option bc)(base:Heap)(k:Nat)(f:Addr)(fd:iq)(ps:List Str)(sp:Sp):Prop where
 len:∀vs H Q E,sp vs H Q E->vs.length=ps.length
 run:∀(A:cw) (outer:List Env) (s:bd) (H:Hp) (args:Args) (us:List bc) (vs:List V) (Q:VK) (E:XK),RoomN k A->CalmH A outer s H->Env0 P w K mg base A outer s H->BindsTo s fd args (ps.zip us)->Vals vs us->sp vs H Q E ->
  ku (model P w) A (.call (.ref f) args) (CR CX0 outer P w H s Q E) s
section
variable {P:bw}{w:df}{K:bn}{mg:Str->Option bc}{base:Heap}{k:Nat}
theorem BW{f:Addr}{name qual:Str}{aa:Arguments}{ac:List Stmt}{scope:Scope}{dV kV af pm p ct oc:bc}{an od:Option Addr}
  {osl:Array (Option bc)}{N ps:List Str}{sp:Sp} (lk:K.lookup f=some ⟨oc,od,.func (ly name qual aa ac scope dV kV af pm an p ct),osl⟩) (hcd:W.codeIn K p qual=true) (S:FnScope N ps scope)
  (len:∀vs H Q E,sp vs H Q E->vs.length=ps.length)
  (hbody:∀(A:cw) (outer:List Env) (s:bd) (H:Hp) (vs:List V) (Q:VK) (E:XK),RoomN k (A.deeper (gh qual scope s.heap.objs.size f p))->(∀zc σ H' s',Inv (cxN P w K mg base N qual scope f p A outer s H) zc σ H' s'->CalmAt (cxN P w K mg base N qual scope f p A outer s H).A s'.heap)->sp vs H Q E ->
   ∃t,PSs (cxN P w K mg base N qual scope f p A outer s H) ac t/\t { nx:=fun _ H'=>Q .non H',rt:=Q } (start N vs) H):
  FnOkC P w K mg base (k+1) f (ly name qual aa ac scope dV kV af pm an p ct) ps sp:=by
 refine⟨len,fun A outer s H args us vs Q E hr ai e0 hb r ag=>?_⟩;have hl:=len _ _ _ _ ag;have KX:K.In s.heap:=e0.mod.kin.keeps fun b o e=>(e0.bs b o e).1;have ah:s.heap.NoLimit:=e0.mod.nolimit.keeps fun b o e=>(e0.bs b o e).1;have ae:∀y∈ps.zip us,scope.names.lookup y.1=some .local\/(scope.names.lookup y.1=some .cell/\((cellsFrom (s.heap.objs.size+1) scope.names []).lookup y.1).isSome=true):=fun⟨n,v⟩ hy=>by
  rcases S.par n (of_mem_zip hy).1 with q|q
  ·exact .inl q
  ·exact .inr ⟨q,kx _ _ _ (.inl q)⟩
 refine codeAny_call_function hr.depth (KX _ _ lk) rfl S.co S.gen rfl (W.codeRec_of KX hcd) (hb _ _ _ _ ?_);refine wpAny_newFunctionEnv_cells S.kind ae fun env he s1 x=>?_;subst he;refine⟨ah.keeps x.toInCall.keep,codeAny_func ?_⟩;have HC:∀zc σ H' s',Inv (cxN P w K mg base N qual scope f p A outer s H) zc σ H' s'->CalmAt (cxN P w K mg base N qual scope f p A outer s H).A s'.heap:=fun zc σ H' s' I=>by
  obtain⟨y,o,vs,c1,c2,c3,c4,c5,c6⟩:=ai;exact .inr ⟨y,o,vs,c1,I.base.keep y o c2 c5 c6 (by show y∉([]:List Addr);simp),c3,c4⟩
 obtain⟨t,ht,hq⟩:=hbody A outer s H vs Q E (hr.deeper _) HC ag;have e1:Env0 P w K mg base { A with handled:=none } outer s H:=⟨e0.frames,e0.mod,e0.bs,e0.bsz,e0.funs,e0.frf,e0.hok,e0.bare⟩;have I0:Inv (bG CX0 P w K mg base N qual scope f p { A with handled:=none } outer s H E0) [] (start N vs) H s1:=qI S rfl e1 hl r x;have I:Inv (cxN P w K mg base N qual scope f p A outer s H) [] (start N vs) H s1:=
  ⟨⟨I0.ok.mod,I0.ok.kind,I0.ok.glob,I0.ok.blt,I0.ok.above,I0.ok.inj,I0.ok.has,I0.ok.cab,(fun z=>Bool.noConfusion z),Around.frames_deeper e0.frames,I0.ok.stk,I0.ok.exf,I0.ok.bs,I0.ok.bsz,I0.ok.noex,I0.ok.exfs,I0.ok.funs,I0.ok.frf⟩,
   I0.os,I0.bare,I0.base,I0.loc,I0.cell,I0.free,I0.freeC,I0.pin,I0.hok,I0.len⟩
 refine gr (ht [] s1 (start N vs) H _ I hq) (fun fl s' hs=>?_) fun e s' hs=>hs.elim;have fin:∀{σ':St}{H':Hp}{v:V}{u:bc},Inv (cxN P w K mg base N qual scope f p A outer s H) [] σ' H' s'->RelV v u->Q v H'->CE outer P w H s Q u s':=
  fun {σ' H' v u} J rv q=>⟨v,H',J.os,J.bare,J.base,J.hok,rv,q⟩
 cases fl with
 |ret u=>
  obtain⟨v,σ',H',J,rv,q⟩:=hs;exact fin J rv q
 |next=>
  obtain⟨σ',H',J,q⟩:=hs;exact fin (v:=V.non) (u:=cu) J rfl q
 |brk=>
  obtain⟨_,_,_,q⟩:=hs;exact dh q
 |cont=>
  obtain⟨_,_,_,q⟩:=hs;exact dh q
end
structure DfC(P:bw)(w:df)(K:bn)(mg:Str->Option bc)(base:Heap)(x:Str)(ps:List Str)(k:Nat)(sp:Sp):Prop where
 ex:∃f fd,FnOkC P w K mg base k f fd ps sp/\mg x=some (.ref f)/\ki K (.ref f)=true/\Binds K fd ps []
section
variable {P:bw}{w:df}{K:bn}{mg:Str->Option bc}{base:Heap}{x:Str}{st:Stmt}{N ps:List Str}{k:Nat}
theorem DfC.dN{q:PN}(D:Dd K mg x st ps)(S:FnScope N ps (zg st))(n:Nat)(hn:N.length=ps.length+n)
  (hbody:∀(f:Addr) (p:bc) (A:cw) (outer:List Env) (s:bd) (H:Hp),RoomN k (A.deeper (gh x (zg st) s.heap.objs.size f p))->(∀zc σ H' s',Inv (cxN P w K mg base N x (zg st) f p A outer s H) zc σ H' s'->CalmAt (cxN P w K mg base N x (zg st) f p A outer s H).A s'.heap) ->
   ∃t dt,PSs (cxN P w K mg base N x (zg st) f p A outer s H) (bL st) t/\RS t dt/\∀xs S R,q xs S R->dt (aG S.length R) (xs.map some++bh n none) S):DfC P w K mg base x ps (k+1) (spN ps q):=by
 obtain⟨f,fd,F,hm,hb⟩:=D.ex;have kp:=F.kp;obtain⟨oc,od,kV,ae,pm,an,p,ct,ac,rfl,lk,aa⟩:=F.ex;refine⟨f,_,BW lk aa S (fun vs H Q E h=>h.1) fun A outer s H vs Q E hr HC ⟨hl,h,o,S',xs,R,z,hx,hq,c⟩=>?_,hm,kp,hb⟩;obtain⟨t,dt,h1,h2,h3⟩:=hbody f p A outer s H hr HC;refine⟨t,h1,h2 h o H _ _ S' _ _ ?_ z (h3 xs S' R hq) (eok z c)⟩;have e:N.length-vs.length=n:=yw
 unfold start;rw[e];exact oH hx
end
def uO(a:Addr)(sp:Sp)(t:TA):TE:=fun σ H Q=>t σ H fun vs H1=>∃C d,H1 a=some (exO a C d)/\sp vs (hid a H1) (fun v H2=>H2 a=none->Q v (upd H2 a (exO a C d))) E0
section
variable {X:Cx}{x:Str}{ps:List Str}{k j:Nat}{pos pos':Pos}{e:Expr}{es:List Expr}{t:TA}{a:Addr}
theorem BT{q:PN}(D:DfC X.prog X.w X.K X.mg X.base x ps k (spN ps q))(hr:RoomN j (X.suite a).A)(hk:k<=j)(ha:PA (X.suite a) (e::es) t)(hg:Gl (X.suite a) x:=by rfl)(ae:(x==("__debug__":Str))=false:=by decide)
  (q1:bv (e::es) X.env=(false,eval e X.env)::bv es X.env:=by rfl) (q2:((js pos (bv es X.env)).any fun x=>x.fst)=false:=by rfl):PE (X.suite a) (.Call (.Name x pos') (e::es) [] pos) (uO a (spN ps q) t):=by
 obtain⟨f,fd,F,hm,kp,hb⟩:=D.ex;intro zc s σ H Q I h;refine io (iV I hg hm ?_ ae);refine W.callWith_K (h₀:=X.base) I.ok.mod.kin kp (thn (ha pos zc s σ H _ I h) fun us s1 ⟨vs,H1,I1,r,C,d,ea,q'⟩=>⟨I1.kIn,?_⟩) q1 q2;have hl:us.length=ps.length:=by rw[<- r.length];exact F.len _ _ _ _ q'
 have ac:=hb s1 us I1.kIn (by rw[gu];exact hl);rw[gu]at ac;obtain⟨⟨ob,g1,g2,g3,fv,g4,g5⟩,_,_⟩:=(show ObjOk X.prog X.w H1 s1.heap a (exO a C d)from I1.hok a _ ea);have aa:a∉frs X.stack:=fun z=>by
  have:=I1.stkFree.free a z;rw[ea]at this;cases this
 have sub:∀b u,(∀ φ,u≠HO.ext φ)->H1 b=some u->hid a H1 b=some u:=fun b u nu q=>by
  rw[jB fun z=>?_]
  ·exact q
  ·rw[z,ea]at q;cases q;exact nu _ rfl
 have e0:=I1.env0;have hN:∀{b},H1 b=none->hid a H1 b=none:=fun {b} q=>by
  unfold hid;split
  ·rfl
  ·exact q
 have ne:∀{b u},(∀ φ,u≠HO.ext φ)->H1 b=some u->b≠a:=fun {b u} nu q z=>by
  rw[z,ea]at q;cases q;exact nu _ rfl
 have eN:Env0 X.prog X.w X.K X.mg X.base (X.suite a).A X.stack s1 (hid a H1):=
  ⟨e0.frames,e0.mod,fun b o q=>⟨(e0.bs b o q).1,hN (e0.bs b o q).2⟩,e0.bsz,e0.funs,⟨fun b hb=>hN (e0.frf.free b hb),fun q mq=>sub _ _ yv (e0.frf.tab q mq)⟩,
   fun b u q=>(e0.hok b u (Cj b u q)).stay (fun _ _ _ z=>z) (fun c z=>sub c _ yv z) (fun c xs z=>sub c _ yv z) (fun c o u z=>sub c _ yv z),e0.bare⟩
 refine wpAny_call (kv (F.run (X.suite a).A X.stack s1 (hid a H1) ⟨us,[]⟩ us vs _ E0 (hr.mono hk) ⟨a,ob,fv,rfl,g1,g4,g5,jC,aa⟩ eN ac r q') fun r s' hq=>?_);cases r with
 |error e=>exact hq.elim
 |ok fl=>
  cases fl with
  |ret u=>
   obtain⟨v,H2,os,bare,un,hok,rv,qv⟩:=hq;refine I1.after ⟨v,upd H2 a (exO a C d),os,bare,?_,?_,rv,qv ?_⟩
   ·refine⟨fun b o q n hb hx=>un.keep b o q (hN n) hb hx,fun b o q n hb hx=>un.slot b o q (hN n) hb hx,fun b o q n hx=>?_,un.there,fun b xs q=>?_,fun b o u q=>?_,fun b ps q=>?_⟩
    ·rw[zu fun z=>by rw[z,ea]at n;cases n];exact un.free b o q (hN n) hx
    ·rw[zu (ne yv q)];exact un.tups b xs (sub b _ yv q)
    ·rw[zu (ne yv q)];exact un.frzs b o u (sub b _ yv q)
    ·rw[zu (ne yv q)];exact un.tbls b ps (sub b _ yv q)
   ·intro b u2 qb;by_cases z:b=a
    ·subst z;rw[zJ]at qb;cases qb;rw[<- g3];exact uL (un.keep b ob g1 jC aa yv) g2 ⟨fv,g4,g5⟩
    ·rw[zu z]at qb;have p:=un.free a ob g1 jC yv;exact(hok b u2 qb).stay (fun _ _ _ z=>z) (fun c y=>by rw[zu (zr y p)];exact y) (fun c xs y=>by rw[zu (zr y p)];exact y) (fun c o u y=>by rw[zu (zr y p)];exact y)
   ·exact un.free a ob g1 jC yv
  |next=>exact dh hq
  |brk=>exact dh hq
  |cont=>exact dh hq
end
mutual
theorem pL{G G':Hp}(hs:∀b u,(∀ φ,u≠HO.ext φ)->G b=some u->G' b=some u):∀(d:be) (v:V),Has G d v->Has G' d v
 | .none,v,q=>i4.mpr (i4.mp q)
 | .bool b,v,q=>gH.mpr (gH.mp q)
 | .int i,v,q=>eV.mpr (eV.mp q)
 | .str z,v,q=>hV.mpr (hV.mp q)
 | .list ds,v,q=>by
  obtain⟨a,vs,e,ea,l⟩:=zZ.mp q;exact zZ.mpr ⟨a,vs,e,hs _ _ yv ea,qF hs ds vs l⟩
 | .tuple ds,v,q=>by
  obtain⟨a,vs,e,ea,l⟩:=zX.mp q;exact zX.mpr ⟨a,vs,e,hs _ _ yv ea,qF hs ds vs l⟩
 | .dict kvs,v,q=>by
  obtain⟨a,vs,e,ea,l⟩:=pS.mp q;refine pS.mpr ⟨a,vs,e,?_,vH hs kvs vs l⟩;rcases ea with ⟨ob,m,e1,e2⟩|⟨ob,p,m,e1,e2⟩
  ·exact .inl ⟨ob,m,hs _ _ yv e1,e2⟩
  ·exact .inr ⟨ob,p,m,hs _ _ yv e1,e2⟩
theorem qF{G G':Hp}(hs:∀b u,(∀ φ,u≠HO.ext φ)->G b=some u->G' b=some u):∀(ds:List be) (vs:List V),HasL G ds vs->HasL G' ds vs
 | [],vs,q=>zx.mpr (zx.mp q)
 |d::ds,vs,q=>by
  obtain⟨v,r,e,hv,l⟩:=zo.mp q;exact zo.mpr ⟨v,r,e,pL hs d v hv,qF hs ds r l⟩
theorem vH{G G':Hp}(hs:∀b u,(∀ φ,u≠HO.ext φ)->G b=some u->G' b=some u):∀(ds:List (be×be)) (vs:List V),HasV G ds vs->HasV G' ds vs
 | [],vs,q=>by simpa only[HasV]using q
 | (k,d)::ds,vs,q=>by
  simp only[HasV]at q ⊢;obtain⟨v,r,e,hv,l⟩:=q;exact⟨v,r,e,pL hs d v hv,vH hs ds r l⟩
end
def PhC(a:Addr):Phi:=fun h o H=>a∉h/\a∉o/\∃C d,H a=some (exO a C d)
instance {a:Addr}:Stb (PhC a):=⟨fun⟨h1,h2,C,d,e⟩ x=>by
 obtain⟨z1,z2⟩:=x.kp a _ h2 e;exact⟨h1,z1,C,d,z2⟩⟩
theorem C0{a:Addr}{ps:List Str}{q:PN}{m:Nat}{tl:TA}{dl:DA}(ha:RAp (PhC a) tl dl)(hm:ps.length=m:=by rfl):REp (PhC a) (uO a (spN ps q) tl) (aF m q dl):=fun h o H δ σ S R Q he hs w c x=>
 ha h o H δ σ S _ _ he hs w (fun o1 H1 S1 xs vs e1 s1 x1 ⟨ds,e,hl,d1⟩=>by
  have ex:=cQ e;subst ex;have hv:=x1.len;obtain⟨n1,n2,C,d,ea⟩:=Stb.st x e1;have sub:∀b u,(∀ φ,u≠HO.ext φ)->vx (h++o1) [] H1 b=some u->vx (h++o1) [] (hid a H1) b=some u:=fun b u nu qb=>by
   obtain⟨z1,z2,z3⟩:=zM.mp qb;refine zM.mpr ⟨z1,z2,?_⟩;rw[jB fun z=>?_]
   ·exact z3
   ·rw[z,ea]at z3;cases z3;exact nu _ rfl
  have hx:∀{ds:List be}{vs:List V},HasXs h o1 H1 (ds.map XV.d) vs->HasXs (h++o1) [] (hid a H1) (ds.map XV.d) vs:=by
   intro ds;induction ds with
   |nil=>intro vs q;exact q
   |cons d ds ih=>
    rintro vs ⟨v,r,e,q,l⟩;exact⟨v,r,e,pL sub _ _ (hx0 q),ih l⟩
  have r0:RepS (h++o1) [] (hid a H1) []:=⟨rfl,nodup_nil,(fun b hb=>by cases hb),fun b hb=>by
   obtain⟨u,eu⟩:=(rep0 s1).hal b hb;refine⟨u,?_⟩;rw[jB fun z=>by rw[z]at hb;exact(mem_append.mp hb).elim n1 n2];exact eu,fun k b ds e=>by simp at e⟩
  refine⟨C,d,ea,by rw[hv,cp,hl,hm],h++o1,[],[],_,_,r0,hx x1,d1,fun o' H' S' y v e' s' hy qy hn=>?_⟩;have sL:Same H' (upd H' a (exO a C d)):=Same.laid hn;refine cn0 s1 (c.pre e1) o' (upd H' a (exO a C d)) S' y v ⟨e'.pre,fun b u _ eb=>?_⟩ (s'.same sL) (hy.mono (Ex.of_same sL)) qy;by_cases z:b=a
  ·subst z;rw[ea]at eb;cases eb;refine⟨fun mb=>?_,zJ⟩;obtain⟨u2,eu⟩:=s'.oal b mb;rw[hn]at eu;cases eu
  ·obtain⟨k1,k2⟩:=e'.kp b u yv (by rw[jB z];exact eb);exact⟨k1,by rw[zu z];exact k2⟩) x
def RSq(a:Addr)(t:TS)(dt:DS):Prop:=∀(h o:List Addr) (H:Hp) (δ:XE) (σ:St) (S:Sto) (E:DEnds) (D:Ends),RepE h o H δ σ->RepS h o H S->PhC a h o H->dt E δ S->EOk h o H E D->t D σ H
theorem C6{a:Addr}{t:TS}{dt:DS}(h:RS t dt):RSq a t dt:=fun hh o H δ σ S E D he hs _ q c=>h hh o H δ σ S E D he hs q c
theorem BB{a:Addr}{t u:TS}{dt du:DS}(ht:RSq a t dt)(hu:RSq a u du):RSq a (dP t u) (aA dt du):=fun h o H δ σ S E D he hs p q c=>
 ht h o H δ σ S _ _ he hs p q ⟨fun o1 H1 δ1 S1 σ1 e1 aa z q1=>hu h o1 H1 δ1 σ1 S1 E D aa z (Stb.st p e1) q1 (c.pre e1),c.rt,c.bk,c.ct⟩
theorem BU{a:Addr}{te:TE}{de:DE}(h:REp (PhC a) te de):RSq a (oE te) (aC de):=fun hh o H δ σ S E D he hs p q c=>h hh o H δ σ S _ _ he hs q c.rt p
end
section
theorem Ct{Φ:Phi}[Stb Φ]{ta tb:TE}{da db:DE}(ha:REp Φ ta da)(hb:REp Φ tb db):REp Φ (sD ta tb) (cD da db):=fun h o H δ σ S R Q he hs q c w=>
 ha h o H δ σ S _ _ he hs q (fun o1 H1 S1 x v e1 s1 x1 d1=>by
  replace d1:=fW d1;obtain⟨b,rfl,d1⟩:=d1;refine⟨b,dJ x1,?_⟩;cases b with
  |true=>exact iB (hb h o1 H1 δ σ S1 R Q (he.mono e1) s1 (by simpa using d1) (c.pre e1) (Stb.st w e1))
  |false=>exact gM (c o1 H1 S1 _ _ e1 s1 (xB false) (by simpa using d1))) w
def u9(K:bn)(GA:Addr)(i:Nat)(ts:Addr->TS)(D:Ends)(σ:St):XK:=fun cls a H'=>∃C b ini,cls=.ref C/\a=some b/\ExCls K C ini/\W.mroIn K C (.ref GA)=some true /\
 ts b { nx:=fun _ _=>False,rt:=D.rt } (σ.set i (some (.ref b))) H'
def x0(K:bn)(GA:Addr)(i:Nat)(tb:XK->TS)(ts:Addr->TS):TS:=fun D σ H=>tb (u9 K GA i ts D σ) D σ H
section
variable {X:Cx}{G n:Str}{gp hpos pos:Pos}{i:Nat}{b₀ st:Stmt}{suite:List Stmt}{GA:Addr}{iniG:Option bc}{tb:XK->TS}{ts:Addr->TS}
theorem Ay(hx:∀e s,X.xe e s->False)(aa:X.stack=X.env::X.outer)(ak:X.env.frame=some X.env.locals)(hN:X.N.Nodup)(hi:X.N[i]?=some n)(hl:X.env.kindOf n=some .local)(hg:Gl X G)(hm:X.mg G=some (.ref GA))(qG:ExCls X.K GA iniG)
  (hb:PSX X st tb) (hs:∀a,PSs (X.suite a) (b₀::suite) (ts a)) (hdb:(G==("__debug__":Str))=false:=by decide):
  PS X (.Try [st] [.ExceptHandler (some (.Name G gp)) (some n) (b₀::suite) hpos] [] [] pos) (x0 X.K GA i tb ts):=by
 intro zc s σ H D I h;refine wpAny_Try_except (wpAny_execs_cons (gr (hb zc s σ H D _ (fun e s₁=>bq (model X.prog X.w) X.A (noteFrame e X.env) (fun _ s₂=>bq (model X.prog X.w) X.A (setFlight e none) (fun _ s₃=>bq (model X.prog X.w) X.A (handleBy e X.env [.ExceptHandler (some (.Name G gp)) (some n) (b₀::suite) hpos]) (SP X zc D) X.xe s₃) X.xe s₂) X.xe s₁) I h ?_) (fun fl s1 q=>?_) fun _ _ z=>z))
 rotate_left
 ·cases fl with
  |next=>exact kh (kh q)
  |ret v=>exact q
  |brk=>exact q
  |cont=>exact q
 intro H1 s1 v s' I1 cx;obtain⟨H',a,C,dx,rfl,F,C',b,ini,eC,eb,qC,aw,an⟩:=cx;cases eC;cases eb;obtain⟨B,t,fl,kB,eB,tB⟩:=F.fl;rw[aa]at fl;have frames:X.A.frames=some (X.env::X.outer):=by rw[I1.ok.frames,aa]
 refine Bn frames ak fl fun h₄ af az=>?_;refine F3 af fun h₅ ac ao=>?_;have bB:∀b o,X.base.get? b=some o->B.get? b=some o:=fun b o e=>kB b o (I1.bk b o e) (I1.bs b o e).2 fun z=>by
  have:=(I1.stack.mem z).1;rw[e]at this;cases this
 have kin:X.K.In h₅:=I1.ok.mod.kin.keeps fun b o e=>ac.1 b o (bB b o e);obtain⟨oe,as,am,_⟩:=ac.there;refine wpAny_handleBy_cons (codeAny_handlers_test ?_) (by intro q;cases q);refine Calls.Name_function_global I1.ok.kind hg (Calls.loadGlobal_global (by rw[I1.ok.glob];exact I1.mod.glob.keeps fun b o e=>ac.1 b o (bB b o e)) hm ?_) hdb;refine AT kin qC qG as am aw (codeAny_handlers_suite_as ?_);refine CU ac fun h₆ p av=>?_;obtain⟨ay,ae,ah,ai⟩:=p.there;subst ai;have sm:s'.heap.UpToSlots h₆:=(az.trans ao).trans av;have na:H' a=none:=by
  cases z:H' a with
  |none=>rfl
  |some u=>
   obtain⟨o,q⟩:=tB a u z;rw[fl.2.1]at q;cases q
 have ar:∀b o,s1.heap.get? b=some o->b≠a:=fun b o q z=>by
  subst z;rcases eB b o q with z|⟨o',z⟩
  ·rw[aa]at z;obtain⟨_,o2,q2,nf⟩:=p.2.2.1.mem z;obtain⟨al,au,q7,_,d7,_⟩:=p.first
   rw[q2]at q7;cases q7;exact nf _ d7
  ·rw[fl.2.1]at z;cases z
 have I6:Inv X zc σ (upd H' a (exO a C ay.dict)) { s' with heap:=h₆ }:=by
  refine I1.call' (ch:=[]) F.os ⟨fun b o q n hb _=>p.1 b o (kB b o q n hb),fun b o q n hb _=>?_,fun b o q n _=>?_,fun b o q _=>?_,fun b xs q=>?_,fun b o u q=>?_,fun b ps q=>?_⟩ ?_ F.bare (fun b z=>absurd z yv)
  ·obtain⟨sl,q1⟩:=F.un.any q n yv;rw[aa]at hb;obtain⟨_,o3,q3,nf⟩:=fl.2.2.1.mem hb;rw[q1]at q3;cases q3;obtain⟨aj,q4⟩:=sm b _ q1 nf;exact⟨aj,q4⟩
  ·rw[zu (ar b o q)];exact F.un.free b o q n yv
  ·rcases eB b o q with z|⟨o',z⟩
   ·rw[aa]at z;obtain⟨_,o3,q3,_⟩:=p.2.2.1.mem z;exact⟨o3,q3⟩
   ·exact⟨o',p.1 b o' z⟩
  ·have q2:=F.un.tups b xs q;rw[zu (zr q2 na)];exact q2
  ·have q2:=F.un.frzs b o u q;rw[zu (zr q2 na)];exact q2
  ·have q2:=F.un.tbls b ps q;rw[zu (zr q2 na)];exact q2
  ·intro b u q;by_cases hb:b=a
   ·subst hb;rw[zJ]at q;cases q;exact uL ae ah (by
     obtain⟨al,au,q7,_,d7,e7⟩:=p.first2;rw[ae]at q7;cases q7;exact⟨_,d7,e7⟩)
   ·rw[zu hb]at q;refine(F.hok b u q).stay (fun c v hc q1=>?_) (fun c q1=>by rw[zu (zr q1 na)];exact q1) fun c xs q1=>by rw[zu (zr q1 na)];exact q1
    have tr:∀c u,H' c=some u->s'.heap.get? c=some v->h₆.get? c=some v:=fun c u e q1=>by
     obtain⟨o',z⟩:=tB c u e;have:=fl.1 c o' z;rw[q1]at this;cases this;exact p.1 c v z
    rcases hc with rfl|hc
    ·exact tr _ _ q q1
    ·exact tr _ _ hc q1
 have a0:σ.length=X.N.length:=I6.len;refine oG (v:=.ref a) I6 hN hi (.inl hl) rfl (fun s7 I7=>?_) (.inr hl);refine gr (hs a zc s7 _ _ _ (I7.suite a) an) (fun f8 s8 q=>?_) fun _ _ z=>z.elim;cases f8 with
 |ret u=>
  obtain⟨w,σ8,H8,I8,r8,q8⟩:=q;have J:=I8.unsuite I6.ok;obtain⟨m8,ax,_⟩:=J.loc;have ag:(X.env.scope.kind==.class||(X.env.scope.kind==.module&&X.env.locals != X.env.globals))=false:=by rw[J.ok.kind];rfl
  refine wpAny_nameGoes hl ax ag fun h9 m9 aq ap=>?_;exact⟨w,_,H8,J.gone aq ap,r8,q8⟩
 |next=>obtain⟨_,_,_,z⟩:=q;exact z.elim
 |brk=>obtain⟨_,_,_,z⟩:=q;exact z.elim
 |cont=>obtain⟨_,_,_,z⟩:=q;exact z.elim
end
theorem AK{K:bn}{i m:Nat}{ps:List Str}{q:PX}{tl:TA}{dl:DA}{ts:Addr->TS}{ds:DS}{kn:DEnds->XE->RX}{kt:Ends->St->VK}{tb:XK->TS}(X0:Exs K)(hm:ps.length=m)(af:KnOk kn kt)(ag:∀Ex D σ H,tb Ex D σ H=(tl σ H fun vs H1=>spX ps q vs H1 (kt D σ) Ex))(ha:RA tl dl)(ac:∀a,RSq a (ts a) ds):
  RS (x0 K 24 i tb ts) (gA kn m q dl i ds):=fun h o H δ σ S En D he hs d c=>by
 show tb (u9 K 24 i ts D σ) D σ H;rw[ag];refine ha h o H δ σ S _ _ he hs d fun o1 H1 S1 xs vs e1 s1 x1 ⟨es,aa,hl,d1⟩=>?_;have p:=cQ aa;subst p;refine⟨by rw[x1.len,cp,hl,hm],h++o1,[],[],es.map XV.d,_,_,rep0 s1,?_,d1,cn0 s1 (af h o1 H1 δ σ En D (he.mono e1) (c.pre e1)),?_⟩
 ·exact hxs00 x1
 ·intro o' H' S' C a fs e' s' hE ⟨hC,hh⟩;have EC:=X0.all C hC;obtain⟨ini,qC⟩:=X0.ci C hC;refine⟨C,a,ini,rfl,rfl,qC,(EC.mroIn _).trans (by simp[exM]),?_⟩;have sH:Same H1 H':=fun b u eb=>(e'.kp b u yv eb).2;have e2:Ex o1 H1 o1 H':=Ex.of_same sH;have sv:Same (vx (h++o1) o' H') (vx h o1 H'):=fun b u eb=>by
   obtain⟨n1,n2,n3⟩:=zM.mp eb;exact zM.mpr ⟨fun z=>n1 (fq _ z),fun z=>n1 (cb _ z),n3⟩
  refine ac a h o1 _ (δ.set i (some (.x C fs))) (σ.set i (some (.ref a))) S1 _ _ (((he.mono e1).mono e2).set (HasE.mono sv hE)) (s1.same sH) ?_ hh ⟨fun _ _ _ _ _ _ _ _ z=>z.elim,(c.pre (e1.trans e2)).rt,fun _ _ _ _ _ _ _ _ z=>z.elim,fun _ _ _ _ _ _ _ _ z=>z.elim⟩;obtain⟨a',d',ah,ae,_⟩:=hE;cases ah;obtain⟨n1,n2,n3⟩:=zM.mp ae;exact⟨fun z=>n1 (fq _ z),fun z=>n1 (cb _ z),C,d',n3⟩
end
section
open AutoSeq1 (wpAny_loadPart')
theorem EV:Slot "reversed" "__init__" "object.__init__" :=
 .of (owner:="object") (n:="__init__") (by rw[ln,jf];kernel_rfl) (by decide +kernel) (by decide +kernel) (by decide +kernel)
  (by first|exact .inl (by decide +kernel)|exact .inr (by decide +kernel)) (by rw[isSubtype_type];kernel_rfl)
theorem tL:Slot "reversed" "__iter__" "reversed.__iter__" :=
 .of (owner:="reversed") (n:="__iter__") (by rw[ln,jf];kernel_rfl) (by decide +kernel) (by decide +kernel) (by decide +kernel)
  (by first|exact .inl (by decide +kernel)|exact .inr (by decide +kernel)) (by rw[isSubtype_type];kernel_rfl)
theorem nF:Slot "reversed" "__next__" "reversed.__next__" :=
 .of (owner:="reversed") (n:="__next__") (by rw[ln,jf];kernel_rfl) (by decide +kernel) (by decide +kernel) (by decide +kernel)
  (by first|exact .inl (by decide +kernel)|exact .inr (by decide +kernel)) (by rw[isSubtype_type];kernel_rfl)
theorem xL:Manifest.owners.lookup (String.ofList ['d','e','s','r','e','v','e','r'].reverse)=some Manifest.sig_reversed:=by kernel_rfl
theorem FB(a:bc):argsOk "reversed.__iter__" ⟨[a],[]⟩:=by
 unfold argsOk;rw[signature?_of (id:="reversed.__iter__") (n:=['_','_','r','e','t','i','_','_']) (o:=['d','e','s','r','e','v','e','r']) (by kernel_rfl) xL];kernel_rfl
theorem xZ(a:bc):argsOk "reversed.__next__" ⟨[a],[]⟩:=by
 unfold argsOk;rw[signature?_of (id:="reversed.__next__") (n:=['_','_','t','x','e','n','_','_']) (o:=['d','e','s','r','e','v','e','r']) (by kernel_rfl) xL];kernel_rfl
theorem Eu:entryFor table "reversed.__iter__" = some je.«dict_keyiterator.__iter__» :=
 entryFor_alias (id':="dict_keyiterator.__iter__") (by kernel_rfl) (by first|rfl|decide +kernel|(unfold String.splitOn;simp +decide [String.splitOnAux])) (by decide +kernel) (by kernel_rfl)
theorem sX:entryFor table "reversed.__next__" = some je.«reversed.__next__»:=entryFor_of_tree (by kernel_rfl)
theorem E6:entryFor table "reversed.__new__" = some je.«reversed.__new__»:=entryFor_of_tree (by kernel_rfl)
theorem tH:mroOf (.type "reversed")=pure [.type "reversed",.type "object"]:=by rw[mroOf_type];kernel_rfl
theorem Dk:typeLookup (.type "reversed") "__new__" = pure (some (.builtin "reversed.__new__")):=by rw[ln,jf];kernel_rfl
theorem F1:TypeCalled "reversed" "reversed.__new__" "object.__init__" :=
 ⟨by decide +kernel,by decide +kernel,⟨_,_,tH⟩,madeBy_type tH Dk (by decide +kernel),by decide +kernel,by rw[isSubtype_type];kernel_rfl,EV⟩
theorem CY(a:bc):checkTypeCall "reversed" ⟨[a],[]⟩=pure ():=by kernel_rfl
theorem AY(a:bc):checkBuiltinCall "reversed.__new__" ⟨[.type "reversed",a],[]⟩=pure ():=by kernel_rfl
theorem Dp:isSubtype (.type "reversed") (.type "reversed")=pure true:=by rw[isSubtype_type];kernel_rfl
theorem Et:fk "reversed" = some (.type "reversed"):=by decide +kernel
theorem D5:typeLookup (.type "tuple") "__reversed__" = pure none:=by rw[ln,jf];kernel_rfl
section
variable {prog:bw}{w:df}{A:cw}{E:bc->bd->Prop}{s:bd}
def IsRevIter(h:Heap)(it t:Addr)(i:Int):Prop:=∃o,h.get? it=some o/\o.cls=.type "reversed"/\o.data=.fields #[.ref t,ix i]
theorem vA{it t:Addr}{i:Int}{Q:bc->bd->Prop}(he:IsRevIter s.heap it t i)(h:Q (.ref it) s):bq (model prog w) A (pyIter (.ref it)) Q E s:=by
 obtain⟨o,e1,e2,e3⟩:=he;have hT:s.TypeIs (.ref it) "reversed":=⟨_,e1,e2⟩;refine wpAny_pyIter_slot hT tL (gw tL hT Eu ?_ (FB _));show bq _ _ (ret (.ref it)) _ _ s;exact bo ⟨_,rfl,"reversed",_,hT,nF.lookup,h⟩
theorem CM{it t:Addr}{i:Nat}{vs:Array bc}{x:bc}{Q:Option bc->bd->Prop}(hj:IsRevIter s.heap it t i)(ht:IsTup s.heap t vs)(hx:vs[i]?=some x)(z:vs.size<=bt)
  (hQ:∀g tk,IsRevIter g it t ((i:Int)-1)->fc it s.heap g->Q (some x) { s with heap:=g,toks:=tk }):bq (model prog w) A (pyNext (.ref it)) Q E s:=by
 obtain⟨o,ho,hc,hd⟩:=id hj;have hT:s.TypeIs (.ref it) "reversed":=⟨_,ho,hc⟩;unfold pyNext;refine bb (ko (fr (name:=jx "__next__") hT nF (gw nF hT sX ?_ (xZ _))));show bq _ _ (field (.ref it) 0 >>= _) _ _ s;refine bb (cy ho hd (x:=.ref t) rfl ?_);show bq _ _ (field (.ref it) 1 >>= _) _ _ s;refine bb (cy ho hd (x:=ix i) rfl ?_);show bq _ _ (if (i:Int)<0 then _ else _) _ _ s;rw[cf yw];refine bb (wpAny_specialOf ht.typeIs slot_tuple_getitem.lookup ?_);dsimp only;rw[cf yv];refine bb (wpAny_mkInt ?_);have hi:i<vs.size:=(Array.getElem?_eq_some_iff.mp hx).1;have p:bt<2 ^ 63:=by decide
 refine bb (ko (getItem_tuple (s:={ s with toks:=s.toks+1 }) (j:=i) ht yw yw (by simp[seqIndex?];omega) hx ?_));show bq _ _ (field (.ref it) 1 >>= _) _ _ { s with toks:=s.toks+1 };refine bb (cy (s:={ s with toks:=s.toks+1 }) ho hd (x:=ix i) rfl ?_);show bq _ _ (setField (.ref it) 1 (ix ((i:Int)-1)) >>= _) _ _ { s with toks:=s.toks+1 };refine bb (ii (s:={ s with toks:=s.toks+1 }) ho hd yv (bo ⟨x,rfl,bo (hQ _ _ ⟨_,ft _ ho (gi (ge hd _)),(Obj.cls_mapFields ..).trans hc,?_⟩ (jq ..))⟩));rw[ge hd];simp
theorem Ec{it t:Addr}{k:Int}{Q:Option bc->bd->Prop}(hh:A.handled=none)(hk:k<0)(hj:IsRevIter s.heap it t k)
  (hQ:∀g,Heap.ExtBut it s.heap g->Q none { s with heap:=g }):bq (model prog w) A (pyNext (.ref it)) Q E s:=by
 obtain⟨o,ho,hc,hd⟩:=id hj;have hT:s.TypeIs (.ref it) "reversed":=⟨_,ho,hc⟩;unfold pyNext;refine bb (ko (fr (name:=jx "__next__") hT nF (gw nF hT sX ?_ (xZ _))));show bq _ _ (field (.ref it) 0 >>= _) _ _ s;refine bb (cy ho hd (x:=.ref t) rfl ?_);show bq _ _ (field (.ref it) 1 >>= _) _ _ s;refine bb (cy ho hd (x:=ix k) rfl ?_);show bq _ _ (if k<0 then _ else _) _ _ s;rw[dw hk];refine bb (wpAny_rule ?_);refine bb (bb (ii ho hd yv ?_));have d1:=ge hd (·.setIfInBounds 1 (ix (-1)));have g1:=ft (gk (·.setIfInBounds 1 (ix (-1)))) ho (gi d1);refine ii (s:={ s with heap:=_ }) g1 d1 yv ?_;refine bb ?_;unfold Builtin.SmallTypes.stopIteration;refine bb ?_;simp only[newExc,newTuple];refine bb (fg ?_ (by size_fits));refine bb (m:=kr _ _) (wpAny_of_eq (a:=cu) (by first|rfl|(simp only[kr];rfl)) ?_);refine fg ?_ (by size_fits);simp only[raiseNew];refine bb (wpAny_handled ?_)
 first|rw[show A.in1.handled=none from hh]|rw[hh]
 refine bb (bo (wpAny_throw ?_));refine bb (wpAny_isInstance (T:="StopIteration") (b:=true) ⟨_,bu _ rfl,rfl⟩ isSubtype_stop ?_);exact bo (hQ _ ((((jq ..).trans (jq ..)).extBut.push _).push _))
theorem BF(t:Addr)(vs:Array bc)(n:Nat)(aa:Option Addr)(sl:Array (Option bc)):Meets (je.«reversed.__new__» ⟨[.type "reversed",.ref t],[]⟩) (fun _ R s=>s.heap.get? t=some { cls:=.type "tuple",dict:=aa,data:=.seq vs n,slots:=sl }/\(vs.size:Int)<2 ^ 63 /\
   ∀tk,R (.ok (.ret (.ref s.heap.objs.size))) { s with heap:=s.heap.push { cls:=.type "reversed",data:=.fields #[.ref t,ix ((vs.size:Int)-1)] },toks:=tk }):=
 .of_wp fun prog w A R s p=>by
  obtain⟨g0,gs,dr,tk,os⟩:=s;obtain⟨ht,ac,p⟩:=p;have sub:=Dp;have hT:Heap.IsTuple (Shared.heap ⟨g0,gs,dr,tk,os⟩) t vs:=⟨_,ht,rfl,n,rfl⟩;have z:Shared.TypeIs ⟨g0,gs,dr,tk,os⟩ (.ref t) "tuple":=⟨_,ht,rfl⟩
  wp_walk using wpAny_loadPart' ht
  refine wpAny_of_eq D5 ?_;dsimp only;refine bb (bb (wpAny_isInstance z F.sub_tuple_dict ?_));rw[cf yv];refine bb (wpAny_specialOf z slot_tuple_getitem.lookup ?_);dsimp only;rw[dw dz];refine bo ?_;rw[cf yv];refine bb (len_tuple (show IsTup g0 t vs from⟨_,ht,rfl,n,rfl⟩) ac ?_);refine bb (wpAny_of_eq (a:=some (vs.size:Int)) (by first|rfl|(simp only[asInt?];rfl)) ?_);dsimp only;unfold Builtin.SmallTypes.newRecord;refine bb (fg ?_ (by size_fits));exact bo ⟨_,rfl,p _⟩
end
theorem E1{prog:bw}{w:df}{A:cw}{E:bc->bd->Prop}{s:bd}{t:Addr}{vs:Array bc}{Q:bc->bd->Prop}(hT:IsTup s.heap t vs)(z:(vs.size:Int)<2 ^ 63)
  (hyp:∀g tk,IsRevIter g s.heap.objs.size t ((vs.size:Int)-1)->(∀b o,s.heap.get? b=some o->g.get? b=some o)->Q (.ref s.heap.objs.size) { s with heap:=g,toks:=tk }):bq (model prog w) A (call (.type "reversed") [.ref t]) Q E s:=by
 obtain⟨⟨c,p,dt,sl⟩,ht,hc,n,hd⟩:=hT;replace hc:c=.type "tuple":=hc;replace hd:dt=.seq vs n:=hd;subst hc hd;refine callType_new F1 dz (CY _) (AY _) (fun ob=>F.args_object_init_2 ob _) E6 (BF t vs n p sl) ⟨ht,z,fun tk=>?_⟩;exact⟨⟨_,bu _ rfl,rfl⟩,hyp _ _ ⟨_,bu _ rfl,rfl,rfl⟩ fun b o q=>bg _ q⟩
def Itv(K:bn)(a:Addr)(n:Nat):It:=
 ⟨fun i H=>∃xs x,SqT K H a xs/\xs.length=n/\xs.reverse[i]?=some x,fun i H x H'=>H'=H/\∀xs,SqT K H a xs->xs.reverse[i]?=some x,fun i H=>∃xs,SqT K H a xs/\xs.length=n/\xs.length<=i⟩
theorem CK{P:bw}{w:df}{K:bn}{tg:Expr}(a it:Addr)(n:Nat):Turn P w K tg (Itv K a n) [it] it (fun i h=>IsRevIter h it a ((n:Int)-1-i)) where
 mem:=by simp
 obj:=fun i h st b hb=>by
  have e:b=it:=by simpa using hb
  subst e;obtain⟨o,e,c,d⟩:=st;exact⟨o,e,fun v z=>by rw[d]at z;cases z⟩
 keep:=fun i h h' ⟨o,e,c,d⟩ k=>⟨o,k it yv o e,c,d⟩
 item:=by
  intro X hP hw hK hc i zc s σ H E I hf st hg;subst hP hw hK;obtain⟨xs,x,hq,hn,hx⟩:=hg;obtain⟨ac,rv,p,hz⟩:=I.tuple hq;have hi:i<xs.length:=by
   have:=(List.getElem?_eq_some_iff.mp hx).1;simpa using this
  have af:xs[n-1-i]?=some x:=by
   rw[List.getElem?_reverse hi]at hx;rw[<- hn];exact hx
  obtain⟨u,hu,ru⟩:=rv.get af;obtain⟨f0,f1,f2,f3,f4,f5⟩:=hf it yv;have ei:(n:Int)-1-i=((n-1-i:Nat):Int):=yw
  have ae:IsRevIter s.heap it a ((n-1-i:Nat):Int):=by rw[<- ei];exact st
  have hl:=rv.length;refine CM ae (vs:=ac.toArray) p (x:=u) (by simpa using hu) (by simp;omega) fun h' tk aa sb=>?_;have I1:Inv X zc σ H { s with heap:=h',toks:=tk }:=I.turned (t':=tk) (fun b o hb e=>(sb.2 b hb).trans e) f0 f1 f3 f4 f5;obtain⟨o,e,c,d⟩:=id aa;exact⟨u,rfl,i0 (s:={ s with heap:=h',toks:=tk }) e c d dz ⟨x,H,I1,ru,⟨rfl,fun ys hy=>by rw[I.tuple_inj hy hq];exact hx⟩,by
   have:(n:Int)-1-((i+1:Nat):Int)=((n-1-i:Nat):Int)-1:=yw
   rw[this];exact aa,fun b hb=>(hf b hb).1⟩⟩
 done:=by
  intro X hP hw hK hc i zc s σ H E I hf st hg;subst hP hw hK;obtain⟨xs,hq,hn,hx⟩:=hg;obtain⟨f0,f1,f2,f3,f4,f5⟩:=hf it yv;exact Ec (I.ok.hd hc) yw st fun h' eb=>⟨rfl,I.turned (t':=s.toks) (fun b o hb e=>eb b o hb e) f0 f1 f3 f4 f5⟩
 self:=fun _ _ _ _ _ st h=>vA st h
def x4(K:bn)(ta:TA):TI:=fun σ H R=>ta σ H fun vs H1=>∃a xs,vs=[.ref a]/\SqT K H1 a xs/\R (Itv K a xs.length) H1
theorem By{X:Cx}{tg:Expr}{a:Expr}{ta:TA}{p pos:Pos}(hg:Gl X "reversed")(hm:X.mg "reversed" = none)(ha:PA X [a] ta)(hs:bv [a] X.env=[(false,eval a X.env)]:=by rfl):PI X tg (.Call (.Name "reversed" p) [a] [] pos) (x4 X.K ta):=by
 intro zc s σ H R I h;refine Call_ (fD I hg hm Et (fz (thn (ha pos zc s σ H _ I h) fun us s1 ⟨vs,H1,I1,r1,q1⟩=>?_) hs rfl));obtain⟨b,xs,e,hq,q⟩:=q1;subst e;cases r1 with
 |cons r rr=>
  cases rr;cases r;obtain⟨z,rv,pl,hz⟩:=I1.tuple hq;have hl:=rv.length;have aa:bt<2 ^ 63:=by decide
  refine E1 (vs:=z.toArray) pl (by simp;omega) fun g tk he k=>?_;refine vA (s:={ s1 with heap:=g,toks:=tk }) he ?_;have I2:Inv X zc σ H1 { s1 with heap:=g,toks:=tk }:=I1.kept (t':=tk) k;refine⟨s1.heap.objs.size,[s1.heap.objs.size],_,_,H1,rfl,I2,CK b _ xs.length,?_,fun c hc=>?_,q⟩
  ·show IsRevIter g s1.heap.objs.size b ((xs.length:Int)-1-((0:Nat):Int));have:(xs.length:Int)-1-((0:Nat):Int)=(z.toArray.size:Int)-1:=by simp;omega
   rw[this];exact he
  ·rw[mem_singleton.mp hc];exact I1.fpOk (cq _) (I1.hok.fresh (cq _))
def gK(a:DA):DI:=fun δ S R=>a δ S fun xs S1=>arg1 xs fun x=>asT x fun ds=>R ds.reverse S1
theorem Do{K:bn}{ta:TA}{da:DA}(ha:RA ta da):RI (x4 K ta) (gK da):=fun h o H δ σ S R Q he hs q c=>
 ha h o H δ σ S _ _ he hs q fun o1 H1 S1 xs us e1 s1 x1 d1=>by
  obtain⟨x,rfl,d2⟩:=cL d1;obtain⟨v,rfl,z⟩:=hxs1 x1;obtain⟨ds,rfl,d3⟩:=fX d2;obtain⟨a,vs,rfl,ea,l⟩:=zX.mp (show Has _ _ _ from z);have hl:=l.length;have lr:∀{i d},ds.reverse[i]?=some d->∃v,vs.reverse[i]?=some v/\Has (vx h o1 H1) d v:=fun {i d} hi=>by
   have p:i<ds.length:=by
    have:=(List.getElem?_eq_some_iff.mp hi).1;simpa using this
   rw[List.getElem?_reverse p]at hi;obtain⟨v,ev,hv⟩:=l.get hi;exact⟨v,by rw[List.getElem?_reverse yw,hl];exact ev,hv⟩
  refine⟨a,vs,rfl,.of (zH _ _ ea),c o1 H1 S1 ds.reverse _ e1 s1 ⟨fun i o2 H2 e2 hi=>⟨vs,.of (zH _ _ (e2.vx _ _ ea)),rfl,by simp at hi;omega⟩,fun i d o2 H2 e2 hi=>?_,fun i d o2 H2 x H3 S2 e2 s2 hi y=>?_⟩ d3⟩
  ·obtain⟨v,ev,_⟩:=lr hi;exact⟨vs,v,.of (zH _ _ (e2.vx _ _ ea)),rfl,ev⟩
  ·obtain⟨v,ev,hv⟩:=lr hi;have e3:H3=H2:=y.1;subst e3;have ex:=y.2 vs (.of (zH _ _ (e2.vx _ _ ea)));rw[ev]at ex;cases ex;exact⟨Same.refl _,hv.mono e2.vx⟩
end
end L2
namespace My
open PySem L2
def oX:PN:=fun xs S R=>(aC (cD (dCB cH (zb (zk 0) (zb (dO (.ty "int")) zt))) (e9 (dCB cH (zb (zk 0) (zb (dO (.ty "bool")) zt)))))) (aG S.length R) (xs.map some++bh 0 none) S
def jN:PN:=fun xs S R=>(aA (aB (dOp (dI (fun _ j=>0<j) fun i j=>i % j) (dOp aD (zk 0) (dC (.int 7919))) (dC (.int 2147483647))) (zi 0)) (aC (dOp (dI (fun _ j=>0<j) fun i j=>i % j) (dOp aD (dOp aD (dOp bF (zk 0) (zk 0)) (dOp bF (dC (.int 48271)) (zk 0))) (dC (.int 12345))) (dC (.int 2147483629))))) (aG S.length R) (xs.map some++bh 0 none) S
def oW:PN:=fun xs S R=>(aA (aB (dCB (dI2 fun i j=>if j>i then j else i) (zb (zk 0) (zb (dOp (dI0 fun i j=>i-j) (dC (.int 0)) (zk 0)) zt))) (zi 1)) (aC (cN (zb (zk 1) (zb (dCB gU (zb (dOp (dIb fun i j=>decide (j<=i)) (zk 1) (dOp (dI CPow fun i j=>i ^ j.toNat) (dC (.int 10)) (dC (.int 18)))) zt)) (zb (dOp (dI (fun _ j=>0<j) fun i j=>i % j) (zk 1) (dC (.int 1000003))) zt)))))) (aG S.length R) (xs.map some++bh 1 none) S
def e8:PN:=fun xs S R=>(aC (cD (dCB cH (zb (zk 0) (zb (dO (.ty "int")) zt))) (e9 (dCB cH (zb (zk 0) (zb (dO (.ty "bool")) zt)))))) (aG S.length R) (xs.map some++bh 0 none) S
def zp:PN:=fun xs S R=>(aA (aK (dB (dOp bO (dOp dIx (zk 0) (dC (.int 1))) (dC (.int 1)))) (aA (aB (dOp (dI (fun _ j=>0<j) fun i j=>i % j) (dOp dIx (zk 0) (dC (.int 0))) (zk 1)) (zi 2)) (aA (aB (dOp dFd (dOp dIx (zk 0) (dC (.int 0))) (zk 1)) (fF (zk 0) (dC (.int 0)))) (aC (zk 2)))) aN) (aA (aB (aF 1 jN (zb (dOp aD (aF 1 jN (zb (dOp dIx (zk 0) (dC (.int 2))) zt)) (dC (.int 7))) zt)) (fF (zk 0) (dC (.int 2)))) (aC (dOp (dI (fun _ j=>0<j) fun i j=>i % j) (dOp dFd (dOp dIx (zk 0) (dC (.int 2))) (dC (.int 64))) (zk 1))))) (aG S.length R) (xs.map some++bh 1 none) S
def uS:PN:=fun xs S R=>(aA (aB (zP 0 2 zp (zb (zk 0) (zb (dC (.int 8)) zt))) (zi 1)) (aA (aK (dB (dOp (dIb fun i j=>decide (i<j)) (zk 1) (dC (.int 5)))) (aC (dOp (dI0 fun i j=>i-j) (zP 0 2 zp (zb (zk 0) (zb (dC (.int 13)) zt))) (dC (.int 6)))) aN) (aA (aK (dB (dOp (dIb fun i j=>decide (i<j)) (zk 1) (dC (.int 7)))) (aC (dOp (dI0 fun i j=>i-j) (zP 0 2 zp (zb (zk 0) (zb (dC (.int 2001)) zt))) (dC (.int 1000)))) aN) (aC (dOp bF (dOp (dI0 fun i j=>i-j) (zP 0 2 zp (zb (zk 0) (zb (dOp bF (dC (.int 2)) (dOp (dI CPow fun i j=>i ^ j.toNat) (dC (.int 10)) (dC (.int 30)))) zt))) (dOp (dI CPow fun i j=>i ^ j.toNat) (dC (.int 10)) (dC (.int 30)))) (dOp (dI CPow fun i j=>i ^ j.toNat) (dC (.int 10)) (dC (.int 28)))))))) (aG S.length R) (xs.map some++bh 1 none) S
def nO:PN:=fun xs S R=>(aA (aB (zP 0 2 zp (zb (zk 0) (zb (dC (.int 8)) zt))) (zi 1)) (aA (aK (dB (dOp (dIb fun i j=>decide (i<j)) (zk 1) (dC (.int 5)))) (aC (dOp (dI0 fun i j=>i-j) (zP 0 2 zp (zb (zk 0) (zb (dC (.int 13)) zt))) (dC (.int 6)))) aN) (aA (aK (dB (dOp (dIb fun i j=>decide (i<j)) (zk 1) (dC (.int 7)))) (aC (dOp (dI0 fun i j=>i-j) (zP 0 2 zp (zb (zk 0) (zb (dC (.int 2001)) zt))) (dC (.int 1000)))) aN) (aC (dOp bF (dOp (dI0 fun i j=>i-j) (zP 0 2 zp (zb (zk 0) (zb (dOp bF (dC (.int 2)) (dOp (dI CPow fun i j=>i ^ j.toNat) (dC (.int 10)) (dC (.int 30)))) zt))) (dOp (dI CPow fun i j=>i ^ j.toNat) (dC (.int 10)) (dC (.int 30)))) (dOp (dI CPow fun i j=>i ^ j.toNat) (dC (.int 10)) (dC (.int 28)))))))) (aG S.length R) (xs.map some++bh 1 none) S
def nP:PN:=fun xs S R=>(aC (dOp aD (dOp (dI0 fun i j=>i-j) (dOp dIx (zk 0) (dC (.int 1))) (dOp dIx (zk 0) (dC (.int 0)))) (dC (.int 1)))) (aG S.length R) (xs.map some++bh 0 none) S
def nN:PN:=fun xs S R=>(aA (aB (aI (zb (dCB b9 (zb (zk 0) (zb (dO (.ref 37)) zt))) (zb (dCB b9 (zb (zk 0) (zb (dO (.ref 49)) zt))) (zb (dCB b9 (zb (zk 0) (zb (dO (.ref 61)) zt))) (zb (dCB b9 (zb (zk 0) (zb (dO (.ref 161)) zt))) zt))))) (zi 1)) (aA (aB (dOp aD (zk 1) (aI (zb (dCB b9 (zb (zk 0) (zb (dO (.ref 73)) zt))) (zb (dCB b9 (zb (zk 0) (zb (dO (.ref 85)) zt))) (zb (dCB b9 (zb (zk 0) (zb (dO (.ref 104)) zt))) (zb (dCB b9 (zb (zk 0) (zb (dO (.ref 123)) zt))) zt)))))) (zi 1)) (aA (aB (dOp aD (zk 1) (aI (zb (dCB b9 (zb (zk 0) (zb (dO (.ref 142)) zt))) (zb (dCB b9 (zb (zk 0) (zb (dO (.ref 180)) zt))) zt)))) (zi 1)) (aA (aK (dOr (bS (bT (dCB b9 (zb (zk 0) (zb (dO (.ty "ValueError")) zt))))) (dB (dOp cJ (fE gW (zk 1) (zb (dC (.bool true)) zt)) (dC (.int 1))))) (aC (dC (.str "other"))) aN) (aA (aB (aI (zb (dC (.str "span")) (zb (dC (.str "part")) (zb (dC (.str "set")) (zb (dC (.str "text")) (zb (dC (.str "row")) (zb (dC (.str "unlike")) (zb (dC (.str "drawing")) (zb (dC (.str "gap")) (zb (dC (.str "offer")) (zb (dC (.str "great")) zt))))))))))) (zi 2)) (aC (dOp dIx (zk 2) (fE gQ (zk 1) (zb (dC (.bool true)) zt))))))))) (aG S.length R) (xs.map some++bh 2 none) S
def kZ:PN:=fun xs S R=>(aA (aB (dC (.str "abcdefghijklmnopqrstuvwxyz")) (zi 1)) (aA (aB (zP 0 2 zp (zb (zk 0) (zb (dC (.int 3)) zt))) (zi 2)) (aA (aB (zP 0 2 zp (zb (zk 0) (zb (dC (.int 26)) zt))) (zi 3)) (aA (aB (fG [none,some 1,some 3] (bY (zb (dC (.int 8)) zt)) (zi 0) aH (dOp bF (dOp dIx (zk 1) (dOp (dI (fun _ j=>0<j) fun i j=>i % j) (dOp aD (zk 2) (dOp bF (dC (.int 5)) (zk 0))) (dC (.int 26)))) (dOp aD (dC (.int 1)) (dOp (dI (fun _ j=>0<j) fun i j=>i % j) (dOp aD (zk 2) (dOp bF (dC (.int 3)) (zk 0))) (dC (.int 8)))))) (zi 4)) (aA (aK (dB (dOp bO (zk 2) (dC (.int 0)))) (aA (aB (g9 hW (dC (.str "")) (zb (b6 [none,some 1,some 3] (bY (zb (dC (.int 8)) zt)) (zi 0) aH (dOp dIx (zk 1) (dOp (dI (fun _ j=>0<j) fun i j=>i % j) (dOp aD (zk 2) (dOp bF (dC (.int 7)) (zk 0))) (dC (.int 26))))) zt)) (zi 5)) (aB (fG [none,some 5] (bY (zb (dC (.int 8)) zt)) (zi 0) aH (dSl dE (zk 1) c8 (cT (dOp aD (zk 0) (dC (.int 1)))))) (zi 4))) aN) (aA (aK (dB (dOp bO (zk 2) (dC (.int 1)))) (aB (cN (zb (dC (.str "part")) (zb (dC (.str "gap")) (zb (dC (.str "cut")) (zb (dC (.str "a")) (zb (dC (.str "aa")) (zb (dC (.str "dear")) (zb (dC (.str "b")) (zb (dC (.str "keeps")) zt))))))))) (zi 4)) aN) (aA (aB (zP 0 2 zp (zb (zk 0) (zb (dC (.int 8)) zt))) (zi 6)) (aA (aB (dOp f6 (dSl dE (zk 4) (cT (zk 6)) c8) (dSl dE (zk 4) c8 (cT (zk 6)))) (zi 4)) (aA (aK (dB (dOp bO (zP 0 2 zp (zb (zk 0) (zb (dC (.int 2)) zt))) (dC (.int 1)))) (bW (gT iE (zk 4))) aN) (aC (zk 4))))))))))) (aG S.length R) (xs.map some++bh 6 none) S
def nZ:PN:=fun xs S R=>(aA (aK (dOr (bS (bT (dCB cH (zb (zk 1) (zb (dO (.ty "tuple")) zt))))) (dB (dOp cJ (dCB bX (zb (zk 1) zt)) (dCB bX (zb (zk 0) zt))))) (aC (dC (.bool false))) aN) (aC (dCB eQ (zb (b6 [none,none] (fR (zb (zk 1) (zb (zk 0) zt))) (cZ 2 (bD (zi 0) (bD (zi 1) c9))) aH (cD (aF 1 oX (zb (zk 0) zt)) (gJ (dIb fun i j=>decide (i<=j)) (dIb fun i j=>decide (i<=j)) (dOp dIx (zk 1) (dC (.int 1))) (zk 0) (dOp dIx (zk 1) (dC (.int 2)))))) zt)))) (aG S.length R) (xs.map some++bh 0 none) S
def oM:PN:=fun xs S R=>(aA (aK (dOr (bS (bT (dCB cH (zb (zk 0) (zb (dO (.ty "tuple")) zt))))) (dB (dOp cJ (dCB bX (zb (zk 0) zt)) (dCB bX (zb (zk 1) zt))))) (aC (dC (.bool false))) aN) (aC (cD (dCB eQ (zb (b6 [none] (b0 (zk 0)) (zi 0) aH (aF 1 e8 (zb (zk 0) zt))) zt)) (dOp bO (zk 0) (dCB eU (zb (zk 1) zt)))))) (aG S.length R) (xs.map some++bh 0 none) S
def pA:PN:=fun xs S R=>(aC (bV (zb (dOp dIx (zk 0) (dC (.int 1))) (zb (dOp dIx (zk 0) (dC (.int 2))) zt)))) (aG S.length R) (xs.map some++bh 0 none) S
def jJ:PN:=fun xs S R=>(aA (aB (cN zt) (zi 2)) (aA (bM (b0 (zk 0)) (zi 3) (bW (dBM fC (zk 2) (zb (b6 [none,some 3] (b0 (zk 1)) (zi 0) aH (dOp aD (zk 1) (bV (zb (zk 0) zt)))) zt)))) (aC (zk 2)))) (aG S.length R) (xs.map some++bh 2 none) S
def oC:PN:=fun xs S R=>(aA (aB (aI (zb (aI zt) zt)) (zi 1)) (aA (bM (gK (zb (zk 0) zt)) (cZ 3 (bD (zi 2) (bD (zi 3) (bD (zi 4) c9)))) (aA (hJ (aA (aB (cN zt) (zi 5)) (bM (bY (zb (dOp aD (dOp (dI0 fun i j=>i-j) (zk 4) (zk 3)) (dC (.int 1))) zt)) (zi 6) (bW (dBM fC (zk 5) (zb (b6 [none,some 3,some 6] (b0 (zk 1)) (zi 0) aH (dOp aD (aI (zb (dOp aD (zk 1) (zk 2)) zt)) (zk 0))) zt)))))) (aB (zk 5) (zi 1)))) (aC (zk 1)))) (aG S.length R) (xs.map some++bh 6 none) S
def zV:PN:=fun xs S R=>(aA (aB (dC (.int 1)) (zi 1)) (aA (bM (hZ (zk 0)) (cZ 3 (bD (zi 2) (bD (zi 3) (bD (zi 4) c9)))) (aB (dOp bF (zk 1) (dOp (dI0 fun i j=>i-j) (dOp aD (zk 4) (dC (.int 1))) (zk 3))) (zi 1))) (aC (zk 1)))) (aG S.length R) (xs.map some++bh 4 none) S
def dL:PN:=fun xs S R=>(aA (aB (dC (.int 1)) (zi 1)) (aA (bM (b0 (zk 0)) (zi 2) (aB (dOp bF (zk 1) (aF 1 nP (zb (aF 1 pA (zb (zk 2) zt)) zt))) (zi 1))) (aC (zk 1)))) (aG S.length R) (xs.map some++bh 2 none) S
def zS:PN:=fun xs S R=>(aA (aB (aF 1 dL (zb (zk 0) zt)) (zi 1)) (aK (dB (dOp (dIb fun i j=>decide (j<i)) (zk 1) (dC (.int 300)))) gY aN)) (aG S.length R) (xs.map some++bh 1 none) S
def zU:PX:=fun xs S R EX=>(aA (aB (aF 1 dL (zb (zk 0) zt)) (zi 1)) (aK (dB (dOp (dIb fun i j=>decide (j<i)) (zk 1) (dC (.int 300)))) (gE EX 180 ["many","most"] (zb (zk 1) (zb (dC (.int 300)) zt))) aN)) (aG S.length R) (xs.map some++bh 1 none) S
def oZ:PN:=fun xs S R=>(aA (aB (dOp dIx (zk 0) (dUn (dUI fun i=>-i) (dC (.int 1)))) (cZ 3 (bD (zi 2) (bD (zi 3) (bD (zi 4) c9))))) (aA (aB (dC (.int 1)) (zi 5)) (aA (bM (b0 (dSl dE (zk 0) c8 (cT (dUn (dUI fun i=>-i) (dC (.int 1)))))) (zi 6) (aB (dOp bF (zk 5) (dOp aD (dOp (dI0 fun i j=>i-j) (dOp dIx (zk 6) (dC (.int 2))) (dOp dIx (zk 6) (dC (.int 1)))) (dC (.int 1)))) (zi 5))) (aA (aB (dOp aD (dOp aD (dOp dFd (dC (.int 300)) (zk 5)) (dC (.int 1))) (dOp dIx (aI (zb (dC (.int 0)) (zb (dC (.int 1)) (zb (zP 0 2 zp (zb (zk 1) (zb (dOp (dI CPow fun i j=>i ^ j.toNat) (dC (.int 10)) (dC (.int 30))) zt))) zt)))) (zP 0 2 zp (zb (zk 1) (zb (dC (.int 3)) zt))))) (zi 7)) (aC (dOp aD (dSl dE (zk 0) c8 (cT (dUn (dUI fun i=>-i) (dC (.int 1))))) (bV (zb (bV (zb (zk 2) (zb (zk 3) (zb (dCB (dI2 fun i j=>if j<i then j else i) (zb (dOp (dI0 fun i j=>i-j) (dOp (dI CPow fun i j=>i ^ j.toNat) (dC (.int 10)) (dC (.int 60))) (dC (.int 1))) (zb (dOp (dI0 fun i j=>i-j) (dOp aD (zk 3) (zk 7)) (dC (.int 1))) zt))) zt)))) zt)))))))) (aG S.length R) (xs.map some++bh 6 none) S
def nS:PN:=fun xs S R=>(aA (bW (aF 1 zS (zb (zk 0) zt))) (aA (aB (aI (zb (bV zt) zt)) (zi 1)) (aA (bM (b0 (zk 0)) (zi 2) (aB (aF 2 jJ (zb (zk 1) (zb (fM (zb (dOp dIx (zk 2) (dC (.int 1))) (zb (dOp aD (dOp dIx (zk 2) (dC (.int 2))) (dC (.int 1))) zt))) zt))) (zi 1))) (aC (zk 1))))) (aG S.length R) (xs.map some++bh 2 none) S
def oA:PX:=fun xs S R EX=>(aA (bW (fY EX 1 zU (zb (zk 0) zt))) (aA (aB (aI (zb (bV zt) zt)) (zi 1)) (aA (bM (b0 (zk 0)) (zi 2) (aB (aF 2 jJ (zb (zk 1) (zb (fM (zb (dOp dIx (zk 2) (dC (.int 1))) (zb (dOp aD (dOp dIx (zk 2) (dC (.int 2))) (dC (.int 1))) zt))) zt))) (zi 1))) (aC (zk 1))))) (aG S.length R) (xs.map some++bh 2 none) S
def pW:PN:=fun xs S R=>(aA (aB (zP 0 1 kZ (zb (zk 0) zt)) (zi 1)) (aA (aB (zP 0 2 zp (zb (zk 0) (zb (dC (.int 8)) zt))) (zi 2)) (aA (aB (b6 [none,some 0] (bY (zb (dOp aD (dC (.int 1)) (zP 0 2 zp (zb (zk 0) (zb (dC (.int 4)) zt)))) zt)) (zi 0) aH (dOp aD (dC (.int 1)) (zP 0 2 zp (zb (zk 1) (zb (dC (.int 4)) zt))))) (zi 3)) (aA (aK (dB (dOp bO (zk 2) (dC (.int 0)))) (aB (dOp dIx (aI (zb (dOp bF (aI (zb (dC (.int 2)) zt)) (dC (.int 8))) (zb (aI (zb (dC (.int 17)) (zb (dC (.int 17)) zt))) (zb (aI (zb (dC (.int 300)) zt)) (zb (aI (zb (dC (.int 4)) (zb (dC (.int 75)) zt))) (zb (aI (zb (dC (.int 1)) (zb (dC (.int 1)) (zb (dC (.int 3)) (zb (dC (.int 100)) zt))))) (zb (aI (zb (dC (.int 6)) (zb (dC (.int 5)) (zb (dC (.int 5)) (zb (dC (.int 2)) zt))))) zt))))))) (zP 0 2 zp (zb (zk 0) (zb (dC (.int 6)) zt)))) (zi 3)) aN) (aA (aK (dB (dOp bO (zP 0 2 zp (zb (zk 0) (zb (dC (.int 4)) zt))) (dC (.int 0)))) (aB (fN (zk 3) (dUn (dUI fun i=>-i) (dC (.int 1)))) (zi 3)) aN) (aA (aB (cN zt) (zi 4)) (aA (bM (bY (zb (dCB bX (zb (zk 3) zt)) zt)) (zi 5) (aA (aB (zP 0 1 nO (zb (zk 0) zt)) (zi 6)) (bW (dBM eI (zk 4) (zb (bV (zb (dOp dIx (zk 1) (zk 5)) (zb (zk 6) (zb (dOp (dI0 fun i j=>i-j) (dOp aD (zk 6) (dOp dIx (zk 3) (zk 5))) (dC (.int 1))) zt)))) zt))))) (aC (dCB eU (zb (zk 4) zt)))))))))) (aG S.length R) (xs.map some++bh 6 none) S
def nK:PN:=fun xs S R=>(aA (gA knD 1 oA (zb (zk 0) zt) 1 (aA (aK (dOr (dB (dOp cJ (gR nN (zb (zk 1) zt)) (dC (.str "great")))) (dOr (bS (bT (aF 1 e8 (zb (dXA [180] (zk 1) "many") zt)))) (bS (bT (aF 1 e8 (zb (dXA [180] (zk 1) "most") zt)))))) (aC (dC (.bool false))) aN) (aC (cD (dOp bO (dXA [180] (zk 1) "many") (aF 1 zV (zb (zk 0) zt))) (dOp bO (dXA [180] (zk 1) "most") (dC (.int 300))))))) (aC (dC (.bool false)))) (aG S.length R) (xs.map some++bh 1 none) S
def rP:DS:=(aA (aB (aF 1 oW (zb (zk 1) zt)) (zi 2)) (aA (aB (zP 0 1 pW (zb (zk 2) zt)) (zi 3)) (aA (aB (aF 1 oC (zb (zk 3) zt)) (zi 4)) (aA (bM (bY (zb (dC (.int 2)) zt)) (zi 5) (aA (aB (aF 1 nS (zb (zk 3) zt)) (zi 6)) (aA (aK (dOr (bS (bT (dCB cH (zb (zk 6) (zb (dO (.ty "list")) zt))))) (dOr (dB (dOp cJ (dCB bX (zb (zk 6) zt)) (dCB bX (zb (zk 4) zt)))) (dB (dOp cJ (dCB bX (zb (zk 6) zt)) (aF 1 dL (zb (zk 3) zt)))))) (aC (dC (.bool false))) aN) (aA (aK (gO (bS (bT (dCB eQ (zb (b6 [none,none,some 3] (fR (zb (zk 6) (zb (zk 4) zt))) (cZ 2 (bD (zi 0) (bD (zi 1) c9))) aH (cD (aF 2 oM (zb (zk 0) (zb (zk 1) zt))) (dOp gS (aF 2 nZ (zb (zk 2) (zb (zk 0) zt))) (dC (.bool true))))) zt))))) (aC (dC (.bool false))) aN) (bW (dBM eI (zk 6) (zb (bV zt) zt))))))) (aA (aB (zP 1 2 oZ (zb (zk 3) (zb (zk 2) zt))) (zi 7)) (aK (dOr (bS (bT (aF 1 e8 (zb (aF 1 dL (zb (zk 7) zt)) zt)))) (dOr (dB (dOp cJ (aF 1 dL (zb (zk 7) zt)) (aF 1 zV (zb (zk 7) zt)))) (bS (bT (aF 1 nK (zb (zk 7) zt)))))) (aC (dC (.bool false))) aN))))))
def yV:PN:=fun xs S R=>(aA (aB (zP 0 1 kZ (zb (zk 0) zt)) (zi 1)) (aA (aB (zP 0 2 zp (zb (zk 0) (zb (dC (.int 8)) zt))) (zi 2)) (aA (aB (b6 [none,some 0] (bY (zb (dOp aD (dC (.int 1)) (zP 0 2 zp (zb (zk 0) (zb (dC (.int 4)) zt)))) zt)) (zi 0) aH (dOp aD (dC (.int 1)) (zP 0 2 zp (zb (zk 1) (zb (dC (.int 4)) zt))))) (zi 3)) (aA (aK (dB (dOp bO (zk 2) (dC (.int 0)))) (aB (dOp dIx (aI (zb (dOp bF (aI (zb (dC (.int 2)) zt)) (dC (.int 8))) (zb (aI (zb (dC (.int 17)) (zb (dC (.int 17)) zt))) (zb (aI (zb (dC (.int 300)) zt)) (zb (aI (zb (dC (.int 4)) (zb (dC (.int 75)) zt))) (zb (aI (zb (dC (.int 1)) (zb (dC (.int 1)) (zb (dC (.int 3)) (zb (dC (.int 100)) zt))))) (zb (aI (zb (dC (.int 6)) (zb (dC (.int 5)) (zb (dC (.int 5)) (zb (dC (.int 2)) zt))))) zt))))))) (zP 0 2 zp (zb (zk 0) (zb (dC (.int 6)) zt)))) (zi 3)) aN) (aA (aK (dB (dOp bO (zP 0 2 zp (zb (zk 0) (zb (dC (.int 4)) zt))) (dC (.int 0)))) (aB (fN (zk 3) (dUn (dUI fun i=>-i) (dC (.int 1)))) (zi 3)) aN) (aA (aB (cN zt) (zi 4)) (aA (bM (bY (zb (dCB bX (zb (zk 3) zt)) zt)) (zi 5) (aA (aB (zP 0 1 uS (zb (zk 0) zt)) (zi 6)) (bW (dBM eI (zk 4) (zb (bV (zb (dOp dIx (zk 1) (zk 5)) (zb (zk 6) (zb (dOp (dI0 fun i j=>i-j) (dOp aD (zk 6) (dOp dIx (zk 3) (zk 5))) (dC (.int 1))) zt)))) zt))))) (aC (dCB eU (zb (zk 4) zt)))))))))) (aG S.length R) (xs.map some++bh 6 none) S
end My
namespace My
open PySem L2
theorem seq1{t u:DS}{E:DEnds}{δ:XE}{S:Sto}(h:t { E with nx:=u E } δ S):aA t u E δ S:=h
theorem cut{t u:DS}{E:DEnds}{δ:XE}{S:Sto}(I:XE->Sto->Prop)(h1:∀N:XE->Sto->Prop,(∀ δ' S',I δ' S'->N δ' S')->t { E with nx:=N } δ S)(h2:∀ δ' S',I δ' S'->u E δ' S'):aA t u E δ S:=h1 _ h2
theorem iP(i j:Int):jb (.int i) (.int j)=decide (i=j):=rfl
theorem lC(i:Int):dq (.int i)=true:=rfl
theorem lV(i:Bool):dq (.bool i)=true:=rfl
theorem mL:("int" ∈ eM)=True:=eq_true dz
theorem l9:("bool" ∈ eM)=True:=eq_true dz
theorem kM:("tuple" ∈ eM)=True:=eq_true dz
theorem lD:("list" ∈ eM)=True:=eq_true dz
end My
namespace My
open PySem L2
local macro_rules|`(tactic|walk_at $s:str)=>do
 let xs<-("aB gK hZ jU gO kL mZ kJ nG j7 all_cons List.all_nil Bool.and_self gA knD gE dXA fY mV mX mP kU jX jF gR gW fM gS mD kG lI j6 m7 zi zk dC dO dOp dUn zt zb dCB bV aI cN dB bS kI dOr cD lZ e9 dIf gJ dI dI0 dIb dUI bO cJ j9 lX nA jY lW jT l6 k8 m5 m6 mJ jG lE lU dFd bT lQ lH c8 cT dSl bX lG kR mB cH gU dI2 eU dBM gT g9 fE eI iE fC kN hW gQ f6 lL eQ aF zP nC jH k7 m4 asL mK mO kK kA j8 kS jM nB jP lR mW mE mI mU nE lK aC aK bW aN gY bM b0 m2 jI bY kH kO fR cZ bD jQ l7 lT mC jS lJ c9 fF b6 fG aH cY hJ kX mQ eY lS k6 k9 kF lP List.replicate map_cons map_nil map_some Option.bind_some Option.bind_none Option.join_some getElem?_cons_zero getElem?_cons_succ set_cons_zero set_cons_succ List.take_succ_cons take_zero List.take_nil length_cons length_nil nil_append cons_append Option.some.injEq exists_eq_left' exists_eq_left List.cons.injEq XV.d.injEq XV.l.injEq XV.o.injEq PyData.int.injEq PyData.list.injEq PyData.tuple.injEq PyData.bool.injEq PyData.str.injEq and_true true_and decide_eq_true_eq Bool.not_true Bool.not_false Bool.false_eq_true Bool.true_eq_false not_true_eq_false not_false_eq_true decide_true decide_false Bool.not_eq_true' iM decide_eq_false_iff_not Nat.reduceAdd Nat.reduceMul zero_add Nat.reduceLT Nat.reduceLeDiff Nat.reduceEqDiff Int.reduceLT Int.reduceLE Int.reduceNeg Int.reducePow Int.reduceToNat Int.reduceEq Int.reduceAdd Int.reduceSub Int.reduceMul le_refl zero_le length_append length_map iP lC lV List.isEmpty_nil List.isEmpty_cons Int.cast_ofNat_Int Int.natCast_zero Int.natCast_one mL l9 kM lD mT kC mY lO fN jW".splitOn " ").toArray.mapM fun n=>`(Lean.Parser.Tactic.simpLemma|$(Lean.mkIdent n.toName):ident)
 match s.getString with
 |"d"=>`(tactic|((try dsimp only[↓reduceIte,$xs,*]);(try simp only[↓reduceIte,$xs,*])))
 |"n"=>`(tactic|(refine seq1 ?_; walk_at "d"))
 |"dX"=>`(tactic|(try simp -implicitDefEqProofs only [↓reduceIte,$xs,*]))
 |"e"=>`(tactic|((try dsimp only[aA,↓reduceIte,$xs,*]);(try simp only[aA,↓reduceIte,$xs,*])))
 |_=>Lean.Macro.throwUnsupported
section
variable {R:RX}
theorem v6{n:Int}(q:∀m,0<=m->R (.d (.int m)) []):jN [.d (.int n)] [] R:=by
 unfold jN;walk_at "e";have h1:=jg (n+7919) (show (2147483647:Int)≠0 by decide);have h2:=jd (n+7919) (show (0:Int)<2147483647 by decide);exact⟨dF yw yw,dF dz dz,q _ (jg _ dz)⟩
theorem zE{p:List be}{n:Int}(hp:aT p)(hn:0<n)(hb:n.natAbs.log2<9000)(q:∀r p',0<=r->r<n->aT p'->R (.d (.int r)) [p']):zp [.l 0,.d (.int n)] [p] R:=by
 obtain⟨l,g,sd,rfl,hl⟩:=hp;unfold zp;walk_at "e";split
 ·refine⟨hn,.inl ⟨⟨hn,hb⟩,0,rfl,?_⟩⟩;walk_at "e";exact q _ _ (jg _ yw) (jd _ hn) ⟨_,_,_,rfl,Int.ediv_nonneg hl yw⟩
 ·refine v6 fun m _=>?_;walk_at "e";refine v6 fun m' h'=>?_;walk_at "e";refine⟨2,rfl,?_⟩;walk_at "e";exact .inl ⟨⟨by decide,by decide +kernel⟩,hn,q _ _ (jg _ yw) (jd _ hn) ⟨_,_,_,rfl,hl⟩⟩
theorem Dv{n:Int}(q:∀p,aT p->R (.l 0) [p]):oW [.d (.int n)] [] R:=by
 unfold oW;walk_at "e";refine⟨⟨by decide,by decide,by decide⟩,?_⟩;refine .inr (q _ ⟨_,_,_,rfl,?_⟩);split<;>omega
theorem Ar{p:List be}(hp:aT p)(q:∀r p',-10 ^ 58<=r->r<=10 ^ 58->aT p'->R (.d (.int r)) [p']):nO [.l 0] [p] R:=by
 unfold nO;walk_at "e";refine zE hp dz (by decide +kernel) fun r p1 r0 r1 aa=>?_;walk_at "e";split
 ·refine zE aa dz (by decide +kernel) fun r p2 r0 r1 z=>?_;walk_at "e";exact q _ _ yw yw z
 ·split
  ·refine zE aa dz (by decide +kernel) fun r p2 r0 r1 z=>?_;walk_at "e";exact q _ _ yw yw z
  ·refine⟨⟨by decide,by decide,by decide⟩,dF dz dz,?_⟩;have k1:(10:Int) ^ 30=1000000000000000000000000000000:=by decide +kernel
   have k2:(10:Int) ^ 28=10000000000000000000000000000:=by decide +kernel
   refine zE aa (by decide +kernel) (by decide +kernel) fun r p2 r0 r1 z=>?_;walk_at "e"
   try simp only[k1,k2]at r1 ⊢
   refine⟨⟨by decide,by decide,by decide⟩,⟨by decide,by decide,by decide⟩,E5 128 128 yw (by decide +kernel),q _ _ yw yw z⟩
theorem FA{p:List be}(hp:aT p)(q:∀r p',-10 ^ 58<=r->r<=10 ^ 58->aT p'->R (.d (.int r)) [p']):uS [.l 0] [p] R:=Ar hp q
end
section
variable {R:RX}
theorem Ad{α:Type}[Inhabited α]{l:List α}{i:Int}(h0:0<=i)(h1:i<l.length)(d:α):atI l i=some (l.getD i.toNat d):=by
 obtain⟨k,rfl⟩:=ia h0;have hk:k<l.length:=yw
 rw[dR (eg hk)];simp[List.getD_eq_getElem?_getD,hk]
theorem sT:("abcdefghijklmnopqrstuvwxyz":Str).length=26:=by decide
theorem Au:("abcdefghijklmnopqrstuvwxyz":Str).cps.toList.length=26:=by rw[<- sT];simp[Str.length]
theorem vJ:("abcdefghijklmnopqrstuvwxyz":Str).length<=bt:=ji (small1000 (by rw[sT];decide))
theorem len1(c:Nat):(⟨#[c]⟩:Str).length=1:=rfl
abbrev lsgn (i:Int):Str:=⟨#[("abcdefghijklmnopqrstuvwxyz":Str).cps.toList.getD i.toNat 0]⟩
theorem y6{i:Int}(h0:0<=i)(h1:i<26):atI ("abcdefghijklmnopqrstuvwxyz":Str).cps.toList i=some (("abcdefghijklmnopqrstuvwxyz":Str).cps.toList.getD i.toNat 0):=Ad h0 (by rw[Au];exact h1) 0
theorem sS{ds:List be}{a b:Option Int}{d:be}(m:d∈aL ds a b):d∈ds:=by
 unfold aL at m;exact List.mem_of_mem_drop (mem_of_mem_take m)
def f7(z:Str):Bool:=decide (z.length<=100)&&PyData.strOk z&&!decide (z = "zy")
theorem BE:∀f<26,∀k<8,f7 (PySem.Txt.mul (lsgn (((f:Nat)+5*(0+((k:Nat):Int))) % 26)) (1+((f:Nat)+3*(0+((k:Nat):Int))) % 8))=true:=by decide +kernel
theorem C8:∀f<26,∀k<8,f7 (PySem.Txt.slice (PySem.Txt.join "" ((fy 8).map fun k:Nat=>lsgn (((f:Nat)+7*(0+(k:Int))) % 26))) none (some (0+((k:Nat):Int)+1)))=true:=by decide +kernel
theorem BR{ds:List be}(h:∀d∈ds,∃z:Str,d=.str z/\f7 z=true):∃zs:List Str,ds=zs.map jy/\zs.length=ds.length/\∀z∈zs,f7 z=true:=by
 induction ds with
 |nil=>exact⟨[],rfl,rfl,yv⟩
 |cons d ds ih=>
  obtain⟨z,rfl,hz⟩:=h d dm;obtain⟨zs,rfl,hl,p⟩:=ih fun d m=>h d (ck _ m);refine⟨z::zs,rfl,yv,fun y m=>?_⟩;rcases mem_cons.mp m with rfl|m
  ·exact hz
  ·exact p y m
theorem sZ(a b:Str):(a++b).length=a.length+b.length:=strLen_append a b
theorem uY:∀zs:List Str,(∀z∈zs,z.length<=1)->(Str.join "" zs).length<=zs.length
 | [],_=>cq 0
 | [a],h=>h a dm
 |a::b::r,h=>by
  show (a ++ "" ++ Str.join "" (b::r)).length<=_;rw[sZ,sZ];have e:("":Str).length=0:=rfl;have h1:=h a dm;have h2:=uY (b::r) fun z m=>h z (ck _ m);rw[e];simp only[fm]at h2 ⊢;omega
def mR(ds:List be):Prop:=∀d∈ds,∃z:Str,d=.str z/\f7 z=true
theorem FY{ds:List be}{a:Int}(h0:0<=a)(h1:a<=ds.length):(aL ds (some a) none++aL ds none (some a)).length=ds.length:=by
 obtain⟨k,rfl⟩:=ia h0;have e1:HT.sIx ds.length 0 (some (k:Int))=k:=by rw[HT.sIx_nat];omega
 have e2:HT.sIx ds.length ds.length (some (k:Int))=k:=by rw[HT.sIx_nat];omega
 have e3:HT.sIx ds.length ds.length none=ds.length:=rfl;have e4:HT.sIx ds.length 0 none=0:=rfl;unfold aL;rw[e1,e2,e3,e4,bx,jl,jl,length_drop,length_drop];omega
def sB:List Str:=["part","gap","cut","a","aa","dear","b","keeps"]
set_option maxHeartbeats 8000000 in
theorem Cb{p:List be}(hp:aT p)(q:∀(ns:List Str) p',ns.length=8->(∀z∈ns,f7 z=true)->aT p'->R (.d (.list (ns.map jy))) [p']):kZ [.l 0] [p] R:=by
 unfold kZ;walk_at "dX"
 (refine seq1 ?_;walk_at "dX")
 (refine seq1 ?_;walk_at "dX")
 refine zE hp dz (by decide +kernel) fun ag p1 w0 w1 al=>?_;walk_at "dX"
 (refine seq1 ?_;walk_at "dX")
 refine zE al dz (by decide +kernel) fun aa p2 f0 f1 an=>?_;walk_at "dX";refine cut (fun δ' S'=>∃(ds:List be),mR ds/\ds.length=8/\S'=[p2,ds]/\δ'=[some (.l 0),some (.d (.str ("abcdefghijklmnopqrstuvwxyz":Str))),some (.d (.int ag)),some (.d (.int aa)),some (.l 1),none,none]) (fun N hN=>?_) ?_
 ·walk_at "dX";refine cmp1 (S0:=[p2]) (fun k:Nat=>.str (PySem.Txt.mul (lsgn ((aa+5*(0+k)) % 26)) (1+(aa+3*(0+k)) % 8))) rfl (fy 8) yv ?_ ?_
  ·intro k mk u acc R' hk;have b1:=jg (aa+5*(0+(k:Int))) (show (26:Int)≠0 by decide);have b2:=jd (aa+5*(0+(k:Int))) (show (0:Int)<26 by decide);have b3:=jg (aa+3*(0+(k:Int))) (show (8:Int)≠0 by decide);have b4:=jd (aa+3*(0+(k:Int))) (show (0:Int)<8 by decide);walk_at "dX";refine⟨dF dz dz,vJ,_,y6 b1 b2,?_⟩;walk_at "dX";refine⟨dF dz dz,?_⟩;walk_at "dX";exact⟨by rw[len1];decide,yw,yw,hk _⟩
  ·refine hN _ _ ⟨_,?_,yv,rfl,rfl⟩;intro d m;obtain⟨k,mk,rfl⟩:=mem_map.mp m;obtain⟨f,rfl⟩:=ia f0;exact⟨_,rfl,BE f yw k (mem_range.mp mk)⟩
 rintro _ _ ⟨ds,ae,hl,rfl,rfl⟩;refine cut (fun δ' S'=>∃(ds:List be) (T:Sto) (k:Nat) (u:Option XV),mR ds/\ds.length=8/\T[k]?=some ds/\S'=p2::T/\δ'=[some (.l 0),some (.d (.str ("abcdefghijklmnopqrstuvwxyz":Str))),some (.d (.int ag)),some (.d (.int aa)),some (.l (k+1)),u,none]) (fun N hN=>?_) ?_
 ·walk_at "dX";split
  ·refine seq1 ?_;walk_at "dX";refine cmp1 (S0:=[p2,ds]) (fun k:Nat=>.str (lsgn ((aa+7*(0+k)) % 26))) rfl (fy 8) yv ?_ ?_
   ·intro k mk u acc R' hk;have b1:=jg (aa+7*(0+(k:Int))) (show (26:Int)≠0 by decide);have b2:=jd (aa+7*(0+(k:Int))) (show (0:Int)<26 by decide);walk_at "dX";refine⟨dF dz dz,vJ,_,y6 b1 b2,?_⟩;exact hk _
   ·walk_at "dX";refine⟨(fy 8).map fun k:Nat=>lsgn ((aa+7*(0+k)) % 26),by rw[map_map];rfl,by decide,yv,fun y m=>?_,?_⟩
    ·obtain⟨k,_,rfl⟩:=mem_map.mp m;show 1<=1000;decide
    ·have wl:(PySem.Txt.join "" ((fy 8).map fun k:Nat=>lsgn ((aa+7*(0+k)) % 26))).length<=8*1016:=by
      have:=A1 (y:=("":Str)) (zs:=(fy 8).map fun k:Nat=>lsgn ((aa+7*(0+k)) % 26)) dz (fun y m=>by
       obtain⟨k,_,rfl⟩:=mem_map.mp m;show 1<=1000;decide)
      simpa using this
     have ao:(PySem.Txt.join "" ((fy 8).map fun k:Nat=>lsgn ((aa+7*(0+k)) % 26))).length<=8:=by
      show (Builtin.Str.glued _ _).length<=_;rw[StrLaws.glued_eq_join];have:=uY ((fy 8).map fun k:Nat=>lsgn ((aa+7*(0+k)) % 26)) (fun y m=>by
       obtain⟨k,_,rfl⟩:=mem_map.mp m;exact cq 1)
      simpa using this
     walk_at "dX";refine cmp1 (S0:=[p2,ds]) (fun k:Nat=>.str (PySem.Txt.slice (PySem.Txt.join "" ((fy 8).map fun k:Nat=>lsgn ((aa+7*(0+k)) % 26))) none (some (0+k+1)))) rfl (fy 8) yv ?_ ?_
     ·intro k mk u acc R' hk;walk_at "dX";exact⟨gg wl (by rw[jv];decide),hk _⟩
     ·refine hN _ _ ⟨_,[ds,_],1,_,?_,?_,rfl,rfl,rfl⟩
      ·intro d m;obtain⟨k,mk,rfl⟩:=mem_map.mp m;obtain⟨f,rfl⟩:=ia f0;exact⟨_,rfl,C8 f yw k (mem_range.mp mk)⟩
      ·simp
  ·exact hN _ _ ⟨ds,[ds],0,none,ae,hl,rfl,rfl,rfl⟩
 rintro _ _ ⟨ds,T,k,u,ae,hl,hk,rfl,rfl⟩;refine cut (fun δ' S'=>∃(ds:List be) (T:Sto) (k:Nat),mR ds/\ds.length=8/\T[k]?=some ds/\S'=p2::T/\δ'=[some (.l 0),some (.d (.str ("abcdefghijklmnopqrstuvwxyz":Str))),some (.d (.int ag)),some (.d (.int aa)),some (.l (k+1)),u,none]) (fun N hN=>?_) ?_
 ·walk_at "dX";split
  ·refine hN _ _ ⟨sB.map jy,T++[sB.map jy],T.length,?_,rfl,by rw[bp],rfl,rfl⟩;intro d m;obtain⟨z,hz,rfl⟩:=mem_map.mp m;refine⟨z,rfl,?_⟩;simp only[sB,gy,fi,or_false]at hz;rcases hz with rfl|rfl|rfl|rfl|rfl|rfl|rfl|rfl<;>decide +kernel
  ·exact hN _ _ ⟨ds,T,k,ae,hl,hk,rfl,rfl⟩
 rintro _ _ ⟨ds,T,k,ae,hl,hk,rfl,rfl⟩
 (refine seq1 ?_;walk_at "dX")
 refine zE an dz (by decide +kernel) fun ac p3 a0 a1 am=>?_;walk_at "dX"
 (refine seq1 ?_;walk_at "dX")
 refine⟨ds,hk,ds,hk,?_⟩;have hc:=FY (ds:=ds) a0 yw;rw[bx]at hc;refine⟨yw,?_⟩;have aj:(T++[aL ds (some ac) none++aL ds none (some ac)])[T.length]?=some (aL ds (some ac) none++aL ds none (some ac)):=by rw[bp]
 have ai:mR (aL ds (some ac) none++aL ds none (some ac)):=fun d m=>(mem_append.mp m).elim (fun m=>ae d (sS m)) fun m=>ae d (sS m);have ah:(aL ds (some ac) none++aL ds none (some ac)).length=8:=by rw[bx];omega
 generalize aL ds (some ac) none++aL ds none (some ac)=es at aj ai ah ⊢;refine seq1 ?_;walk_at "dX";refine zE am dz (by decide +kernel) fun r p4 r0 r1 ak=>?_;walk_at "dX";have af:∀(fs:List be),mR fs->fs.length=8->R (.d (.list fs)) [p4]:=by
  intro fs h1 h2;obtain⟨zs,rfl,z1,z2⟩:=BR h1;exact q zs p4 yw z2 ak
 split
 ·refine⟨yv,es,aj,?_⟩;walk_at "dX";rw[cf yw];refine⟨es.reverse,by simp[wW],.inl (af _ (fun d m=>ai d (mem_reverse.mp m)) (by simpa using ah))⟩
 ·rw[cf yw];exact⟨es,aj,.inl (af _ ai ah)⟩
abbrev Part:=Str×Int×Int
def aM(p:Part):be:=.tuple [.str p.1,.int p.2.1,.int p.2.2]
def aQ(ps:List Part):be:=.tuple (ps.map aM)
structure Prt(p:Part):Prop where
 nm:f7 p.1=true
 le:p.2.1<=p.2.2
 lo:-10 ^ 58<=p.2.1
 hi:p.2.2<=10 ^ 59
structure Drw(ps:List Part):Prop where
 l1:1<=ps.length
 l8:ps.length<=8
 all:∀p∈ps,Prt p
theorem vI{α:Type}{f:α->be}{l:List α}{k:Nat}{x:α}(e:l[k]?=some x):atI (l.map f) (k:Int)=some (f x):=dR (by rw[gf,e];rfl)
end
section
variable {R:RX}{S:Sto}
theorem oY(p:Part):aM p=.tuple [.str p.1,.int p.2.1,.int p.2.2]:=rfl
def aR(ns:List Int):be:=.tuple (ns.map cz)
def part(ps:List Part)(k:Nat):Part:=ps.getD k ("",0,0)
def plo(ps:List Part)(k:Nat):Int:=(part ps k).2.1
def phi(ps:List Part)(k:Nat):Int:=(part ps k).2.2
theorem gZ{α:Type}{f:α->be}{l:List α}{i:Nat}{d:be}(h:(l.map f)[i]?=some d):∃x,l[i]?=some x/\d=f x:=by
 rw[gf]at h;obtain⟨x,e,rfl⟩:=map_eq_some_iff.mp h;exact⟨x,e,rfl⟩
theorem tQ{ds:List be}{r:Int}{P:be->Prop}(h0:0<=r)(h1:r<ds.length)(hP:∀d∈ds,P d):∃d,atI ds r=some d/\P d:=by
 obtain⟨k,rfl⟩:=ia h0;have hk:k<ds.length:=yw
 exact⟨ds[k],dR (eg hk),hP _ (getElem_mem hk)⟩
theorem uI{g:DG}{te:DE}{fin:Sto->Prop}{α:Type}(F:α->Prop)(f:α->be)(P:XE->Prop):∀(ds:List be) (acc:List α) (p:List be) (τ:XE),P τ->aT p->acc.length+ds.length<=1000 ->
  (∀d∈ds,∀ τ p acc (R:XE->RX),P τ->aT p->(∀ τ' x p',P τ'->aT p'->F x->R τ' (.d (f x)) [p',acc])->g (.d d) τ [p,acc] fun τ1 S1=>te τ1 S1 (R τ1)) ->
  (∀xs p',aT p'->(∀x∈xs,F x)->xs.length=ds.length->fin [p',(acc++xs).map f])->bN 1 g aH te fin ds τ [p,acc.map f]
 | [],acc,p,τ,_,hp,_,_,h=>by
  have:=h [] p hp yv rfl;rw[gu]at this;exact this
 |d::ds,acc,p,τ,hP,hp,hl,el,h=>by
  show g (.d d) τ [p,acc.map f] fun τ1 S1=>aH τ1 S1 fun b S2=>if b=true then te τ1 S2 fun x S3=>asD x fun e=>∃acc,S3[1]?=some acc/\acc.length<1000/\bN 1 g aH te fin ds τ1 (S3.set 1 (acc++[e]))else bN 1 g aH te fin ds τ1 S2
  simp only[aH,↓reduceIte];rw[fm]at hl;refine el d dm τ p (acc.map f) (fun τ1 x S3=>asD x fun e=>∃acc,S3[1]?=some acc/\acc.length<1000/\bN 1 g aH te fin ds τ1 (S3.set 1 (acc++[e]))) hP hp fun τ' x p' z aa hF=>?_;refine⟨acc.map f,rfl,by rw[cp];omega,?_⟩;have e:([p',acc.map f]:Sto).set 1 (acc.map f++[f x])=[p',(acc++[x]).map f]:=by simp
  rw[e];refine uI F f P ds (acc++[x]) p' τ' z aa (by rw[bx,fj];omega) (fun e m=>el e (ck _ m)) fun xs p'' hp'' fs hl=>?_;rw[append_assoc];exact h (x::xs) p'' hp'' (fun y m=>(mem_cons.mp m).elim (fun e=>e▸hF) (fs y)) (by simp[hl])
end
section
variable {R:RX}{S:Sto}
theorem y9{p:Part}(q:R (.d (spD p.2.1 p.2.2)) []):pA [.d (aM p)] [] R:=by
 unfold pA aM;walk_at "e";exact q
theorem yY{a b:Int}(q:R (.d (.int (b-a+1))) []):nP [.d (spD a b)] [] R:=by
 unfold nP spD;walk_at "e";exact q
structure InBox(ps:List Part)(ns:List Int):Prop where
 len:ns.length=ps.length
 ok:∀k,k<ps.length->plo ps k<=ns.getD k 0/\ns.getD k 0<=phi ps k
def Ord(ps:List Part):Prop:=∀p∈ps,p.2.1<=p.2.2
theorem Drw.ord{ps:List Part}(h:Drw ps):Ord ps:=fun p m=>(h.all p m).le
end
section
variable {R:RX}{S:Sto}
def dM:be->Bool
 | .int _=>true
 |_=>false
theorem oV{d:be}(q:R (.d (.bool (dM d))) []):e8 [.d d] [] R:=by
 unfold e8;cases d<;>(walk_at "e";exact q)
end
section
variable {R:RX}{S:Sto}
def rng(lo:Int)(n:Nat):List Int:=(fy n).map fun k:Nat=>lo+k
theorem uT{lo x:Int}{n:Nat}:x∈rng lo n↔lo<=x/\x<lo+n:=by
 unfold rng;rw[mem_map];constructor
 ·rintro⟨k,hk,rfl⟩;have:=mem_range.mp hk;omega
 ·rintro⟨h1,h2⟩;exact⟨(x-lo).toNat,mem_range.mpr yw,yw⟩
def aZ(p:Part):List Int:=rng p.2.1 (p.2.2-p.2.1+1).toNat
theorem oU(p:Part):(aZ p).length=(p.2.2-p.2.1+1).toNat:=by simp[aZ,rng]
def aJ:List Part->List (List Int)
 | []=>[[]]
 |p::ps=>(aZ p).flatMap fun x=>(aJ ps).map (x :: ·)
def ext(z:List (List Int))(p:Part):List (List Int):=z.flatMap fun a=>(aZ p).map fun x=>a++[x]
theorem yR:∀(ps:List Part) (found:List (List Int)),ps.foldl ext found=found.flatMap fun a=>(aJ ps).map (a ++ ·)
 | [],found=>by simp[aJ]
 |p::ps,found=>by
  rw[foldl_cons,yR ps];unfold ext;simp only[aJ,List.flatMap_assoc,List.map_flatMap,List.flatMap_map,map_map];congr 1;funext a;congr 1;funext x;congr 1;funext t;simp
theorem tF(ps:List Part):ps.foldl ext [[]]=aJ ps:=by
 rw[yR];simp
theorem pV{ms:List Int}:InBox [] ms↔ms=[]:=⟨fun h=>gj h.len,fun h=>by subst h;exact⟨rfl,fun k hk=>by simp at hk⟩⟩
theorem wF{p:Part}{ps:List Part}{k:Nat}:part (p::ps) (k+1)=part ps k:=by simp[part]
theorem nX{p:Part}{ps:List Part}{ms:List Int}:InBox (p::ps) ms↔∃x t,ms=x::t/\p.2.1<=x/\x<=p.2.2/\InBox ps t:=by
 constructor
 ·intro h;cases ms with
  |nil=>have:=h.len;simp at this
  |cons x t=>
   have h0:=h.ok 0 yv;refine⟨x,t,rfl,h0.1,h0.2,by have:=h.len;simpa using this,fun k hk=>?_⟩;have:=h.ok (k+1) (by simpa using hk);unfold plo phi at this ⊢;rw[wF]at this;simpa using this
 ·rintro⟨x,t,rfl,h1,h2,h3⟩;refine⟨by simp[h3.len],fun k hk=>?_⟩;cases k with
  |zero=>exact⟨h1,h2⟩
  |succ k=>
   have:=h3.ok k (by simpa using hk);unfold plo phi at this ⊢;rw[wF];simpa using this
theorem fZ:∀{ps:List Part}{ms:List Int},ms∈aJ ps↔InBox ps ms
 | [],ms=>by rw[pV];simp[aJ]
 |p::ps,ms=>by
  rw[nX,aJ,List.mem_flatMap];constructor
  ·rintro⟨x,hx,h⟩;obtain⟨t,ht,rfl⟩:=mem_map.mp h;unfold aZ at hx;rw[uT]at hx;exact⟨x,t,rfl,yw,yw,fZ.mp ht⟩
  ·rintro⟨x,t,rfl,h1,h2,h3⟩;exact⟨x,by unfold aZ;rw[uT];omega,mem_map.mpr ⟨t,fZ.mpr h3,rfl⟩⟩
def bC:List Nat->Nat
 | []=>1
 |x::xs=>x*bC xs
def zv(ps:List Part):Nat:=bC (ps.map fun p=>(p.2.2-p.2.1+1).toNat)
theorem oS{α β:Type}{f:α->List β}{n:Nat}:∀{l:List α},(∀x∈l,(f x).length=n)->(l.flatMap f).length=l.length*n
 | [],_=>by simp
 |x::l,h=>by
  rw[List.flatMap_cons,bx,h x dm,oS fun y m=>h y (ck _ m),fm,Nat.succ_mul,Nat.add_comm]
theorem kP:∀ps:List Part,(aJ ps).length=zv ps
 | []=>rfl
 |p::ps=>by
  rw[aJ,oS (n:=zv ps) fun x _=>by rw[cp,kP ps],oU];rfl
theorem rW{z:List (List Int)}{p:Part}:(ext z p).length=z.length*(p.2.2-p.2.1+1).toNat:=by
 unfold ext;exact oS fun x _=>by rw[cp,oU]
theorem rK{z:List (List Int)}:∀{ps:List Part},(ps.foldl ext z).length=z.length*zv ps
 | []=>by simp[zv,bC]
 |p::ps=>by
  rw[foldl_cons,rK (ps:=ps),rW];simp[zv,bC,Nat.mul_assoc]
theorem yK:∀{l:List Nat},(∀x∈l,1<=x)->1<=bC l
 | [],_=>cq _
 |x::l,h=>Nat.mul_le_mul (h x dm) (yK fun y m=>h y (ck _ m))
theorem iQ{ps:List Part}(ho:Ord ps):1<=zv ps:=yK fun x m=>by
 obtain⟨p,mp,rfl⟩:=mem_map.mp m;have:=ho p mp;omega
theorem i9:∀(a b:List Nat),bC (a++b)=bC a*bC b
 | [],b=>by simp[bC]
 |x::a,b=>by simp[bC,i9 a b,Nat.mul_assoc]
theorem iU{ps:List Part}(ho:Ord ps)(i:Nat):zv (ps.take i)<=zv ps:=by
 have e:zv ps=zv (ps.take i)*zv (ps.drop i):=by
  unfold zv;rw[<- i9,<- kg,take_append_drop]
 have:=iQ (ps:=ps.drop i) fun p m=>ho p (List.mem_of_mem_drop m);rw[e];exact Nat.le_mul_of_pos_right _ this
theorem iO{α:Type}{l:List α}{i:Nat}{x:α}(h:l[i]?=some x):l.take (i+1)=l.take i++[x]:=by rw[List.take_add_one,h];rfl
theorem EG(a:List Int)(x:Int):PyData.tuple (a.map cz++[.int x])=aR (a++[x]):=by simp[aR]
end
section
variable {R:RX}{S:Sto}
structure Wds(ws:List Int):Prop where
 l1:1<=ws.length
 l8:ws.length<=8
 pos:∀x∈ws,1<=x
 le:∀x∈ws,x<=300
 prod:bC (ws.map Int.toNat)<=300
theorem vM:∀(a b:List Int),PyData.eqvAll (a.map cz) (b.map cz)=decide (a=b)
 | [],[]=>rfl
 | [],_::_=>rfl
 |_::_,[]=>rfl
 |x::a,y::b=>by
  show (jb (.int x) (.int y)&&PyData.eqvAll (a.map cz) (b.map cz))=_;rw[iP,vM a b];by_cases h1:x=y<;>by_cases h2:a=b<;>simp[h1,h2]
theorem AO(a b:List Int):jb (aR a) (aR b)=decide (a=b):=vM a b
theorem Cd{n:Nat}(a:List Int):Shp (n+1) (aR a):=A3 (rQ fun _ _=>A8)
theorem v7(a:List Int):dq (aR a)=true:=(Cd (n:=0) a).ok
theorem vD{a b:List Int}{d:be}(hd:cI (.d d)=some (b.map cz))(hl:a.length<=100)(q:R (.d (.bool (decide (a=b)))) []):oM [.d (aR a),.d d] [] R:=by
 have p:∀S,fS S (.d d)=some b.length/\asQ S (.d d)=some (b.map cz):=by
  intro S;unfold cI at hd;split at hd
  ·cases hd;rename_i e;cases e;exact⟨by simp[fS],rfl⟩
  ·cases hd;rename_i e;cases e;exact⟨by simp[fS],rfl⟩
  ·cases hd
 unfold oM;walk_at "d";refine seq1 ?_;rw[aR];walk_at "d";refine⟨_,(p _).1,?_⟩;by_cases he:a.length=b.length
 ·rw[cf yw];refine cmp1 (S0:=[]) (fun n:Int=>.bool true) rfl a yw ?_ ?_
  ·intro n mn u acc R' hk;walk_at "d";refine oV ?_;simp only[dM];walk_at "d";exact hk _
  ·walk_at "d";refine⟨a.map fun _=>true,by rw[map_map];rfl,?_⟩;have ea:(a.map fun _=>true).all id=true:=by simp
   rw[ea];walk_at "d";refine⟨_,(p _).2,?_⟩;walk_at "d";rw[<- aR,<- aR];refine⟨v7 a,v7 b,?_⟩;rw[AO];exact q
 ·rw[dw yw];have e2:decide (a=b)=false:=by simp;exact fun h=>he (by rw[h])
  rw[e2]at q;exact q
end
section
variable {R:RX}{S:Sto}
abbrev Off:=Int×Int×Int
def offer(os:List (List Off))(ks:List Nat)(i:Nat):Off:=(os.getD i []).getD (ks.getD i 0) (0,0,0)
end
section
variable {R:RX}
theorem kY{ps:List Part}{i:Nat}{p:Part}(e:ps[i]?=some p):zv (ps.take (i+1))=zv (ps.take i)*(p.2.2-p.2.1+1).toNat:=by
 unfold zv;rw[iO e,kg,i9];simp[bC]
theorem sI{ps:List Part}(ho:Ord ps)(hs:zv ps<=300)(q:R (.d (.int (zv ps))) []):dL [.d (aQ ps)] [] R:=by
 unfold dL;rw[aQ];walk_at "d"
 walk_at "n"
 walk_at "n";refine cS (fun i δ S=>∃(u:Option XV),S=[]/\δ=[some (.d (.tuple (ps.map aM))),some (.d (.int (zv (ps.take i)))),u]) ⟨_,rfl,rfl⟩ ?_ ?_
 ·rintro i d _ _ N hi ⟨u,rfl,rfl⟩ hN;obtain⟨p,e,rfl⟩:=gZ hi;have op:=ho p (cn e);have l1:=iU ho i;walk_at "d";refine y9 ?_;walk_at "d";refine yY ?_;walk_at "d";refine⟨dF yw yw,hN _ _ ⟨some (.d (aM p)),rfl,?_⟩⟩;rw[kY e,lq,jr yw]
 ·rintro _ _ ⟨u,rfl,rfl⟩;rw[cp,lx];walk_at "d";exact q
theorem Cm{ps:List Part}(ho:Ord ps)(hs:zv ps<=300)(q:R (.d .none) []):zS [.d (aQ ps)] [] R:=by
 unfold zS;walk_at "d"
 walk_at "n"
 refine sI ho hs ?_;walk_at "d";have:¬(300:Int)<(zv ps:Int):=yw
 simp only[this,decide_false];walk_at "d";exact q
theorem DC(p:Part):dG p.2.1 (p.2.2+1-p.2.1).toNat=(aZ p).map cz:=by
 unfold dG aZ rng;rw[map_map,show p.2.2+1-p.2.1=p.2.2-p.2.1+1 by omega];rfl
end
section
variable {R:RX}{S:Sto}
def few0(s1 s2 r:Int):Int:=if (r-(s1+2*s2)+2)/3>0 then (r-(s1+2*s2)+2)/3 else 0
def few(s1 s2 r:Int):Int:=if s1=0/\(r-few0 s1 s2 r) % 2=1 then few0 s1 s2 r+1 else few0 s1 s2 r
end
section
variable {R:RX}
theorem len2{ds:List be}(h:ds.length=2):∃x y,ds=[x,y]:=by
 match ds,h with
 | [x,y],_=>exact⟨x,y,rfl⟩
end
section
variable {R:RX}{S:Sto}
inductive Hs:be->Prop
 |tup {ds:List be}:(∀x r,ds=x::r->dq x=true)->(∀y∈ds,Hs y)->Hs (.tuple ds)
 |oth {d:be}:(∀ds,d≠.tuple ds)->Hs d
theorem Hs.hd{x:be}{r:List be}(h:Hs (.tuple (x::r))):dq x=true:=by
 cases h with
 |tup h1 h2=>exact h1 x r rfl
 |oth h=>exact absurd rfl (h _)
theorem Hs.item{ds:List be}(h:Hs (.tuple ds)):∀y∈ds,Hs y:=by
 cases h with
 |tup h1 h2=>exact h2
 |oth h=>exact absurd rfl (h _)
end
section
variable {R:RX}{S:Sto}
def B0(C:Addr):Str:=if C=37 then "span" else if C=49 then "part" else if C=61 then "set" else if C=161 then "text" else if C=73 then "row" else if C=85 then "unlike" else if C=104 then "drawing" else if C=123 then "gap" else if C=142 then "offer" else "great"
theorem dD{C D:Addr}{fs:List (Str×be)}(hC:C∈excs)(hD:D∈excs)(q:R (.d (.bool (decide (C=D)))) S):b9 [.x C fs,.o (.ref D)] S R:=⟨C,fs,_,rfl,rfl,hC,.inl ⟨D,rfl,hD,q⟩⟩
theorem Cc{C:Addr}{fs:List (Str×be)}(hC:C∈excs)(q:R (.d (.bool true)) S):b9 [.x C fs,.o (.ty "ValueError")] S R:=⟨C,fs,_,rfl,rfl,hC,.inr ⟨rfl,q⟩⟩
theorem Br{C:Addr}{fs:List (Str×be)}(hC:C∈excs)(q:R (.d (.str (B0 C))) []):nN [.x C fs] [] R:=by
 unfold nN;walk_at "d"
 walk_at "n"
 refine dD hC dz ?_;walk_at "d";refine dD hC dz ?_;walk_at "d";refine dD hC dz ?_;walk_at "d";refine dD hC dz ?_;walk_at "d"
 walk_at "n"
 refine dD hC dz ?_;walk_at "d";refine dD hC dz ?_;walk_at "d";refine dD hC dz ?_;walk_at "d";refine dD hC dz ?_;walk_at "d"
 walk_at "n"
 refine dD hC dz ?_;walk_at "d";refine dD hC dz ?_;walk_at "d"
 walk_at "n"
 refine Cc hC ?_;walk_at "d";refine⟨[decide (C=37),decide (C=49),decide (C=61),decide (C=161),decide (C=73),decide (C=85),decide (C=104),decide (C=123),decide (C=142),decide (C=180)],rfl,?_⟩;have sh:∀bs:List Bool,dq (.list (bs.map jm))=true:=fun bs=>(v8 (rQ fun _ _=>(w6:Shp 0 _))).ok;simp only[excs,gy,fi,or_false]at hC;rcases hC with rfl|rfl|rfl|rfl|rfl|rfl|rfl|rfl|rfl|rfl
 ·rw[cf dz]
  walk_at "n"
  exact⟨sh [true,false,false,false,false,false,false,false,false,false],0,⟨_,rfl,rfl⟩,(fun m e hm he=>by rcases m with _|_|_|_|_|_|_|_|_|m<;>first|(exfalso;omega)|(cases he;rfl)),_,rfl,q⟩
 ·rw[cf dz]
  walk_at "n"
  exact⟨sh [false,true,false,false,false,false,false,false,false,false],1,⟨_,rfl,rfl⟩,(fun m e hm he=>by rcases m with _|_|_|_|_|_|_|_|_|m<;>first|(exfalso;omega)|(cases he;rfl)),_,rfl,q⟩
 ·rw[cf dz]
  walk_at "n"
  exact⟨sh [false,false,true,false,false,false,false,false,false,false],2,⟨_,rfl,rfl⟩,(fun m e hm he=>by rcases m with _|_|_|_|_|_|_|_|_|m<;>first|(exfalso;omega)|(cases he;rfl)),_,rfl,q⟩
 ·rw[cf dz]
  walk_at "n"
  exact⟨sh [false,false,false,false,true,false,false,false,false,false],4,⟨_,rfl,rfl⟩,(fun m e hm he=>by rcases m with _|_|_|_|_|_|_|_|_|m<;>first|(exfalso;omega)|(cases he;rfl)),_,rfl,q⟩
 ·rw[cf dz]
  walk_at "n"
  exact⟨sh [false,false,false,false,false,true,false,false,false,false],5,⟨_,rfl,rfl⟩,(fun m e hm he=>by rcases m with _|_|_|_|_|_|_|_|_|m<;>first|(exfalso;omega)|(cases he;rfl)),_,rfl,q⟩
 ·rw[cf dz]
  walk_at "n"
  exact⟨sh [false,false,false,false,false,false,true,false,false,false],6,⟨_,rfl,rfl⟩,(fun m e hm he=>by rcases m with _|_|_|_|_|_|_|_|_|m<;>first|(exfalso;omega)|(cases he;rfl)),_,rfl,q⟩
 ·rw[cf dz]
  walk_at "n"
  exact⟨sh [false,false,false,false,false,false,false,true,false,false],7,⟨_,rfl,rfl⟩,(fun m e hm he=>by rcases m with _|_|_|_|_|_|_|_|_|m<;>first|(exfalso;omega)|(cases he;rfl)),_,rfl,q⟩
 ·rw[cf dz]
  walk_at "n"
  exact⟨sh [false,false,false,false,false,false,false,false,true,false],8,⟨_,rfl,rfl⟩,(fun m e hm he=>by rcases m with _|_|_|_|_|_|_|_|_|m<;>first|(exfalso;omega)|(cases he;rfl)),_,rfl,q⟩
 ·rw[cf dz]
  walk_at "n"
  exact⟨sh [false,false,false,true,false,false,false,false,false,false],3,⟨_,rfl,rfl⟩,(fun m e hm he=>by rcases m with _|_|_|_|_|_|_|_|_|m<;>first|(exfalso;omega)|(cases he;rfl)),_,rfl,q⟩
 ·rw[cf dz]
  walk_at "n"
  exact⟨sh [false,false,false,false,false,false,false,false,false,true],9,⟨_,rfl,rfl⟩,(fun m e hm he=>by rcases m with _|_|_|_|_|_|_|_|_|m<;>first|(exfalso;omega)|(cases he;rfl)),_,rfl,q⟩
end
section
variable {R:RX}{S:Sto}{EX:EXD}
theorem pY{ps:List Part}(ho:Ord ps)(hs:∀i,i<ps.length->zv (ps.take i)<2 ^ 64)(q:R (.d (.int (zv ps))) []):dL [.d (aQ ps)] [] R:=by
 unfold dL;rw[aQ];walk_at "d"
 walk_at "n"
 walk_at "n";refine cS (fun i δ S=>∃(u:Option XV),S=[]/\δ=[some (.d (.tuple (ps.map aM))),some (.d (.int (zv (ps.take i)))),u]) ⟨_,rfl,rfl⟩ ?_ ?_
 ·rintro i d _ _ N hi ⟨u,rfl,rfl⟩ hN;obtain⟨p,e,rfl⟩:=gZ hi;have op:=ho p (cn e);have l1:=hs i (List.getElem?_eq_some_iff.mp e).1;walk_at "d";refine y9 ?_;walk_at "d";refine yY ?_;walk_at "d";refine⟨dF yw yw,hN _ _ ⟨some (.d (aM p)),rfl,?_⟩⟩;rw[kY e,lq,jr yw]
 ·rintro _ _ ⟨u,rfl,rfl⟩;rw[cp,lx];walk_at "d";exact q
def jK(n:Nat):List (Str×be):=[("many",.int n),("most",.int 300)]
theorem CT{ps:List Part}(ho:Ord ps)(h3:300<zv ps)(hs:∀i,i<ps.length->zv (ps.take i)<2 ^ 64)(q:EX 180 (jK (zv ps))):zU [.d (aQ ps)] [] R EX:=by
 unfold zU;walk_at "d"
 walk_at "n"
 refine pY ho hs ?_;walk_at "d";have:(300:Int)<(zv ps:Int):=yw
 simp only[this,decide_true];walk_at "d";exact q
theorem DB{ps:List Part}(ho:Ord ps)(h3:300<zv ps)(hs:∀i,i<ps.length->zv (ps.take i)<2 ^ 64)(q:EX 180 (jK (zv ps))):oA [.d (aQ ps)] [] R EX:=by
 unfold oA;walk_at "d"
 walk_at "n"
 refine CT ho h3 hs ?_;exact q
end
section
variable {R:RX}{S:Sto}{EX:EXD}
theorem prod4:∀{ws:List Int},(∀x∈ws,1<=x/\x<=4)->bC (ws.map Int.toNat)<=4 ^ ws.length
 | [],_=>by simp[bC]
 |x::ws,h=>by
  have h1:=h x dm;have h2:=prod4 fun y m=>h y (ck _ m);rw[im,bC,fm,Nat.pow_succ,mul_comm];exact Nat.mul_le_mul h2 yw
theorem wds4{ws:List Int}(l1:1<=ws.length)(l4:ws.length<=4)(h:∀x∈ws,1<=x/\x<=4):Wds ws:=by
 refine⟨l1,yw,fun x m=>(h x m).1,fun x m=>by have:=(h x m).2;omega,gg (prod4 h) ?_⟩;have:ws.length=1\/ws.length=2\/ws.length=3\/ws.length=4:=yw
 rcases this with e|e|e|e<;>rw[e]<;>decide
theorem uB:∀l:List Nat,bC l.reverse=bC l
 | []=>rfl
 |x::l=>by rw[ky,i9,uB l];simp[bC,mul_comm]
theorem E4{ws:List Int}(h:Wds ws):Wds ws.reverse:=⟨by rw[length_reverse];exact h.l1,by rw[length_reverse];exact h.l8,fun x m=>h.pos x (mem_reverse.mp m),fun x m=>h.le x (mem_reverse.mp m),by rw[map_reverse,uB];exact h.prod⟩
theorem Bw{p:List be}(hp:aT p)(q:∀(ps:List Part) p',Drw ps->zv ps<=300->aT p'->R (.d (aQ ps)) [p']):yV [.l 0] [p] R:=by
 unfold yV;walk_at "d"
 walk_at "n"
 refine Cb hp fun ns p1 hn hz af=>?_;walk_at "d"
 walk_at "n"
 refine zE af dz (by decide +kernel) fun w p2 w0 w1 ae=>?_;walk_at "d"
 walk_at "n"
 refine zE ae dz (by decide +kernel) fun r p2 r0 r1 ae=>?_;walk_at "d";refine uI (α:=Int) (fun x=>1<=x/\x<=4) cz (fun τ=>∃u,τ=[u,some (.l 0)]) _ [] p2 _ ⟨_,rfl⟩ ae (by rw[gC];simp;omega) ?_ ?_
 ·rintro d md _ p acc R' ⟨u,rfl⟩ hp hk;walk_at "d";refine zE hp dz (by decide +kernel) fun r p' r0 r1 ak=>?_;walk_at "d";exact hk _ _ p' ⟨_,rfl⟩ ak ⟨yw,yw⟩
 ·intro ws p3 aa hw hl;rw[gC]at hl;have z:Wds ws:=wds4 yw yw hw;rw[nil_append];walk_at "d";refine cut (fun δ S=>∃(p:List be) (ws:List Int),aT p/\Wds ws/\S=[p]/\δ=[some (.l 0),some (.d (.list (ns.map jy))),some (.d (.int w)),some (.d (.list (ws.map cz))),none,none,none]) (fun N hN=>?_) ?_
  ·walk_at "d";split
   ·refine zE aa dz (by decide +kernel) fun r5 p5 r6 r7 ac=>?_;obtain⟨d,ed,aj,rfl,ah⟩:=tQ (P:=fun d=>∃ws:List Int,d=.list (ws.map cz)/\Wds ws) (ds:=[PyData.list (bh 8 [cz 2]).flatten,.list [.int 17,.int 17],.list [.int 300],.list [.int 4,.int 75],.list [.int 1,.int 1,.int 3,.int 100],.list [.int 6,.int 5,.int 5,.int 2]]) r6 r7 (by
     intro d m;simp only[gy,fi,or_false]at m;rcases m with rfl|rfl|rfl|rfl|rfl|rfl
     ·exact⟨[2,2,2,2,2,2,2,2],rfl,by decide,by decide,by decide,by decide,by decide⟩
     ·exact⟨[17,17],rfl,by decide,by decide,by decide,by decide,by decide⟩
     ·exact⟨[300],rfl,by decide,by decide,by decide,by decide,by decide⟩
     ·exact⟨[4,75],rfl,by decide,by decide,by decide,by decide,by decide⟩
     ·exact⟨[1,1,3,100],rfl,by decide,by decide,by decide,by decide,by decide⟩
     ·exact⟨[6,5,5,2],rfl,by decide,by decide,by decide,by decide,by decide⟩)
    walk_at "d";refine⟨_,ed,hN _ _ ⟨p5,aj,ac,ah,rfl,rfl⟩⟩
   ·exact hN _ _ ⟨p3,ws,aa,z,rfl,rfl⟩
  rintro _ _ ⟨p,ws,hp,z,rfl,rfl⟩;refine cut (fun δ S=>∃(p:List be) (ws:List Int),aT p/\Wds ws/\S=[p]/\δ=[some (.l 0),some (.d (.list (ns.map jy))),some (.d (.int w)),some (.d (.list (ws.map cz))),none,none,none]) (fun N hN=>?_) ?_
  ·walk_at "d";refine zE hp dz (by decide +kernel) fun r5 p5 r6 r7 ac=>?_;walk_at "d";split
   ·walk_at "d";refine hN _ _ ⟨p5,_,ac,E4 z,rfl,?_⟩;rw[map_reverse]
   ·exact hN _ _ ⟨p5,ws,ac,z,rfl,rfl⟩
  rintro _ _ ⟨p,ws,hp,z,rfl,rfl⟩;have w8:=z.l8
  walk_at "n"
  walk_at "n";refine cS (fun i δ S=>∃(p:List be) (ps:List Part) (u1 u2:Option XV),aT p/\ps.length=i/\(∀p∈ps,Prt p)/\ps.map (fun p=>(p.2.2-p.2.1+1).toNat)=(ws.take i).map Int.toNat/\S=[p,ps.map aM]/\δ=[some (.l 0),some (.d (.list (ns.map jy))),some (.d (.int w)),some (.d (.list (ws.map cz))),some (.l 1),u1,u2]) ⟨p,[],_,_,hp,rfl,yv,rfl,rfl,rfl⟩ ?_ ?_
  ·rintro i d _ _ N hi ⟨p,ps,u1,u2,hp,hl,ha,hs,rfl,rfl⟩ hN;obtain⟨ag,rfl⟩:=jR hi;have iw:i<ws.length:=by simpa using ag
   have i8:i<ns.length:=yw
   have e:=vI (f:=jy) (eg i8);have ew:=vI (f:=cz) (eg iw);have w1:=z.pos _ (getElem_mem iw);have al:=z.le _ (getElem_mem iw);have e0:(0:Int)+(i:Int)=(i:Int):=yw
   walk_at "d"
   walk_at "n"
   refine FA hp fun lo p3 h1 h2 aa=>?_;walk_at "d";rw[e0];refine⟨_,e,?_⟩;walk_at "d";refine⟨_,ew,?_⟩;walk_at "d";refine⟨yw,hN _ _ ⟨p3,ps++[(ns[i],lo,lo+ws[i]-1)],_,_,aa,by simp[hl],fun x hx=>?_,?_,by simp[aM],rfl⟩⟩
   ·rcases mem_append.mp hx with hx|hx
    ·exact ha x hx
    ·rw[mem_singleton.mp hx];exact⟨hz _ (getElem_mem i8),by simp only;omega,h1,by simp only;omega⟩
   ·rw[kg,hs,iO (eg iw),kg];congr 1;simp only[im,map_nil,List.cons.injEq,and_true];omega
  ·rintro _ _ ⟨p,ps,u1,u2,hp,hl,ha,hs,rfl,rfl⟩;rw[gC]at hl hs;have ai:(ws.length:Int).toNat=ws.length:=by simp
   rw[ai]at hl hs;rw[lx]at hs;walk_at "d";have am:=z.l1;exact q ps p ⟨yw,yw,ha⟩ (by unfold zv;rw[hs];exact z.prod) hp
end
section
variable {R:RX}{S:Sto}
theorem Ep(ps:List Part):aQ ps=.tuple (ps.map aM):=rfl
theorem Bf{d:be}(q:R (.d (.bool (dM d))) []):oX [.d d] [] R:=by
 unfold oX;cases d<;>(walk_at "e";exact q)
def inP(p:Part):be->Bool
 | .int k=>decide (p.2.1<=k/\k<=p.2.2)
 |_=>false
def oP(ps:List Part):be->Bool
 | .tuple ds=>decide (ds.length=ps.length)&&((ds.zip ps).map fun q=>inP q.2 q.1).all id
 |_=>false
theorem n8(ps:List Part)(ds:List be):oP ps (.tuple ds)=(decide (ds.length=ps.length)&&((ds.zip ps).map fun q=>inP q.2 q.1).all id):=rfl
theorem t0{ps:List Part}{d:be}(hl:ps.length<=100)(q:R (.d (.bool (oP ps d))) []):nZ [.d (aQ ps),.d d] [] R:=by
 unfold nZ;rw[Ep];cases d with
 |tuple ds=>
  walk_at "d"
  walk_at "n"
  by_cases h:ds.length=ps.length
  ·rw[cf yw];rw[n8,decide_eq_true h,Bool.true_and]at q;have ez:aX ds (ps.map aM)=(ds.zip ps).map fun q=>.tuple [q.1,aM q.2]:=by
    have:=yX (fun d:be=>d) aM ds ps
    rwa [List.map_id']at this
   walk_at "d";rw[ez];refine cmp2 (S0:=[]) (fun q:be×Part=>.bool (inP q.2 q.1)) rfl (ds.zip ps) (by simp;omega) ?_ ?_
   ·intro x mx u v acc R' hk;obtain⟨d,p⟩:=x;rw[oY];walk_at "d";refine Bf ?_;cases d with
    |int k=>
     simp only[dM];walk_at "d";have e0:inP p (.int k)=decide (p.2.1<=k/\k<=p.2.2):=rfl;have z:=hk (some (.d (.int k))) (some (.d (.tuple [.str p.1,.int p.2.1,.int p.2.2])));rw[e0]at z;split
     ·rename_i h1;simpa[h1]using z
     ·rename_i h1;simpa[h1]using z
    |none=>(simp only[dM];walk_at "d";exact hk _ _)
    |bool b=>(simp only[dM];walk_at "d";exact hk _ _)
    |str b=>(simp only[dM];walk_at "d";exact hk _ _)
    |list b=>(simp only[dM];walk_at "d";exact hk _ _)
    |dict b=>(simp only[dM];walk_at "d";exact hk _ _)
    |tuple b=>(simp only[dM];walk_at "d";exact hk _ _)
   ·walk_at "d";exact⟨_,by rw[map_map];rfl,q⟩
  ·rw[dw yw];rw[n8,gl h]at q;exact q
 |none=>(walk_at "d";walk_at "n";exact q)
 |bool b=>(walk_at "d";walk_at "n";exact q)
 |int b=>(walk_at "d";walk_at "n";exact q)
 |str b=>(walk_at "d";walk_at "n";exact q)
 |list b=>(walk_at "d";walk_at "n";exact q)
 |dict b=>(walk_at "d";walk_at "n";exact q)
theorem rS:∀{ps:List Part}{ds:List be},(ds.length=ps.length/\((ds.zip ps).map fun q=>inP q.2 q.1).all id=true)↔∃z:List Int,ds=z.map cz/\InBox ps z
 | [],[]=>by
  constructor
  ·intro _;exact⟨[],rfl,pV.mpr rfl⟩
  ·intro _;exact⟨rfl,rfl⟩
 | [],d::ds=>by
  constructor
  ·intro h;cases h.1
  ·rintro⟨z,e,h⟩;rw[pV.mp h]at e;cases e
 |p::ps,[]=>by
  constructor
  ·intro h;cases h.1
  ·rintro⟨z,e,h⟩;obtain⟨x,t,rfl,_⟩:=nX.mp h;cases e
 |p::ps,d::ds=>by
  have ih:=rS (ps:=ps) (ds:=ds);constructor
  ·rintro⟨h1,h2⟩;rw[zip_cons_cons,im,all_cons,gx]at h2;obtain⟨h2,h3⟩:=h2;obtain⟨z,e,hb⟩:=ih.mp ⟨by simpa using h1,h3⟩;cases d with
   |int k=>
    have aa:decide (p.2.1<=k/\k<=p.2.2)=true:=h2;have:=of_decide_eq_true aa;exact⟨k::z,by rw[e];rfl,nX.mpr ⟨k,z,rfl,this.1,this.2,hb⟩⟩
   |_=>cases h2
  ·rintro⟨z,e,h⟩;obtain⟨x,t,rfl,h1,h2,h3⟩:=nX.mp h;rw[im]at e;injection e with e1 e2
   have:=ih.mpr ⟨t,e2,h3⟩;refine⟨by simpa using this.1,?_⟩;rw[zip_cons_cons,im,all_cons,this.2,Bool.and_true,e1];exact decide_eq_true ⟨h1,h2⟩
theorem xO{ps:List Part}{d:be}:oP ps d=true↔∃p,d=aR p/\InBox ps p:=by
 constructor
 ·intro h;cases d with
  |tuple ds=>
   rw[n8,gx,decide_eq_true_eq]at h;obtain⟨p,e,hb⟩:=rS.mp h;exact⟨p,by rw[e];rfl,hb⟩
  |_=>cases h
 ·rintro⟨p,rfl,hb⟩;have h:=rS.mpr ⟨p,rfl,hb⟩;show oP ps (.tuple (p.map cz))=true;rw[n8,gx,decide_eq_true_eq];exact h
end
section
variable {R:RX}{S:Sto}{EX:EXD}
theorem Ca{p:List be}(hp:aT p)(q:∀(ps:List Part) p',Drw ps->zv ps<=300->aT p'->R (.d (aQ ps)) [p']):pW [.l 0] [p] R:=Bw hp q
def eL(a:List Int):be:=.list (a.map cz)
theorem xC{ps:List Part}(ho:Ord ps)(i:Nat):zv (ps.drop i)<=zv ps:=by
 have e:zv ps=zv (ps.take i)*zv (ps.drop i):=by
  unfold zv;rw[<- i9,<- kg,take_append_drop]
 have:=iQ (ps:=ps.take i) fun p m=>ho p (mem_of_mem_take m);rw[e];exact Nat.le_mul_of_pos_left _ this
theorem Es{ps:List Part}(ho:Ord ps)(ae:ps.length<=100)(hs:zv ps<=300)(q:R (.d (.list ((aJ ps).map eL))) []):oC [.d (aQ ps)] [] R:=by
 unfold oC;rw[aQ];walk_at "d"
 walk_at "n"
 walk_at "n";rw[<- map_reverse];refine cS (fun i δ S=>∃(u1 u2 u3 u4 u5:Option XV),S=[]/\δ=[some (.d (.tuple (ps.map aM))),some (.d (.list ((aJ (ps.reverse.take i).reverse).map eL))),u1,u2,u3,u4,u5]) ⟨_,_,_,_,_,rfl,rfl⟩ ?_ ?_
 ·rintro i d _ _ N hi ⟨u1,u2,u3,u4,u5,rfl,rfl⟩ hN;obtain⟨p,hp,rfl⟩:=gZ hi;have op:=ho p (mem_reverse.mp (cn hp));have er:(ps.reverse.take (i+1)).reverse=p::(ps.reverse.take i).reverse:=by rw[iO hp,List.reverse_append];rfl
  have l1:zv (ps.reverse.take i).reverse<=300:=by
   rw[List.take_reverse,List.reverse_reverse];exact gg (xC ho _) hs
  have l2:zv (p::(ps.reverse.take i).reverse)<=300:=by
   rw[<- er,List.take_reverse,List.reverse_reverse];exact gg (xC ho _) hs
  have ll:(ps.reverse.take i).reverse.length<=100:=by simp;omega
  have z:=fun u1 u2 u3 u4 u5=>hN [some (.d (.tuple (ps.map aM))),some (.d (.list ((aJ (p::(ps.reverse.take i).reverse)).map eL))),u1,u2,u3,u4,u5] [] ⟨u1,u2,u3,u4,u5,rfl,by rw[er]⟩;generalize (ps.reverse.take i).reverse=l at l1 l2 ll z ⊢;have bl:=kP l;have sz:zv (p::l)=(p.2.2-p.2.1+1).toNat*zv l:=rfl;rw[oY];walk_at "d";walk_at "n";walk_at "n";refine cS (fun j δ S=>∃(u:Option XV),S=[(((aZ p).take j).flatMap fun x=>(aJ l).map (x :: ·)).map eL]/\δ=[some (.d (.tuple (ps.map aM))),some (.d (.list ((aJ l).map eL))),some (.d (.str p.1)),some (.d (.int p.2.1)),some (.d (.int p.2.2)),some (.l 0),u]) ⟨_,rfl,rfl⟩ ?_ ?_
  ·rintro j d _ _ N' hj ⟨u,rfl,rfl⟩ ac;obtain⟨aa,rfl⟩:=jR hj;have ex:(aZ p)[j]?=some (p.2.1+(0+(j:Int))):=by
    unfold aZ rng;rw[gf,List.getElem?_range aa];simp
   have ej:((aZ p).take (j+1)).flatMap (fun x=>(aJ l).map (x :: ·))=((aZ p).take j).flatMap (fun x=>(aJ l).map (x :: ·))++(aJ l).map ((p.2.1+(0+(j:Int))) :: ·):=by
    rw[iO ex,List.flatMap_append];simp
   have lj:(((aZ p).take (j+1)).flatMap fun x=>(aJ l).map (x :: ·)).length<=300:=by
    rw[oS (n:=zv l) fun x _=>by rw[cp,bl],jl,oU];refine gg (Nat.mul_le_mul_right _ (Nat.min_le_right _ _)) yw
   rw[ej,bx,cp]at lj;walk_at "d";refine cmp1 (S0:=[(((aZ p).take j).flatMap fun x=>(aJ l).map (x :: ·)).map eL]) (fun a:List Int=>eL ((p.2.1+(0+(j:Int)))::a)) rfl (aJ l) yw ?_ ?_
   ·intro a ma u acc R' hk;have al:=(fZ.mp ma).len;rw[eL];walk_at "d";refine⟨yw,?_⟩;exact hk _
   ·walk_at "d";refine⟨yw,ac _ _ ⟨_,by rw[ej,kg,map_map];rfl,rfl⟩⟩
  ·rintro _ _ ⟨u,rfl,rfl⟩;rw[gC,List.take_of_length_le (by rw[oU];omega)];walk_at "d";exact z _ _ _ _ _
 ·rintro _ _ ⟨u1,u2,u3,u4,u5,rfl,rfl⟩;rw[cp,lx,List.reverse_reverse];walk_at "d";exact q
theorem v4{z:List (List Int)}{p:Part}(hl:(ext z p).length<=1000)(fl:∀a∈z,a.length<=100)(h1:1<=z.length)(q:R (.d (.list ((ext z p).map aR))) []\/R (.l 0) [(ext z p).map aR]):jJ [.d (.list (z.map aR)),.d (.list ((aZ p).map cz))] [] R:=by
 unfold jJ;walk_at "d"
 walk_at "n"
 walk_at "n";refine cS (fun j δ S=>∃(u:Option XV),S=[(ext (z.take j) p).map aR]/\δ=[some (.d (.list (z.map aR))),some (.d (.list ((aZ p).map cz))),some (.l 0),u]) ⟨_,rfl,rfl⟩ ?_ ?_
 ·rintro j d _ _ N hj ⟨u,rfl,rfl⟩ hN;obtain⟨a,ha,rfl⟩:=gZ hj;have al:=fl a (cn ha);have ej:ext (z.take (j+1)) p=ext (z.take j) p++(aZ p).map fun x=>a++[x]:=by
   rw[iO ha];unfold ext;rw[List.flatMap_append];simp
  have lj:(ext (z.take (j+1)) p).length<=(ext z p).length:=by
   rw[rW,rW,jl];exact Nat.mul_le_mul_right _ yw
  have sm:(ext (z.take j) p).length+(aZ p).length<=1000:=by
   rw[ej,bx,cp]at lj;omega
  rw[aR];walk_at "d";refine cmp1 (S0:=[(ext (z.take j) p).map aR]) (fun x:Int=>aR (a++[x])) rfl (aZ p) yw ?_ ?_
  ·intro x mx u acc R' hk;walk_at "d";refine⟨yw,?_⟩;rw[EG];exact hk _
  ·walk_at "d";refine⟨sm,hN _ _ ⟨_,?_,rfl⟩⟩;rw[ej,kg,map_map];rfl
 ·rintro _ _ ⟨u,rfl,rfl⟩;rw[cp,lx];walk_at "d";exact q
theorem wR{ps:List Part}(ho:Ord ps)(n1:1<=ps.length)(z:ps.length<=100)(hs:zv ps<=300)(q:R (.l 0) [(aJ ps).map aR]):nS [.d (aQ ps)] [] R:=by
 unfold nS;walk_at "d"
 walk_at "n"
 refine Cm ho hs ?_;rw[aQ];walk_at "d"
 walk_at "n"
 walk_at "n";refine cS (fun i δ S=>∃(u:Option XV),(i<ps.length/\S=[]/\δ=[some (.d (.tuple (ps.map aM))),some (.d (.list (((ps.take i).foldl ext [[]]).map aR))),u])\/(i=ps.length/\S=[(ps.foldl ext [[]]).map aR]/\δ=[some (.d (.tuple (ps.map aM))),some (.l 0),u])) ⟨_,.inl ⟨n1,rfl,rfl⟩⟩ ?_ ?_
 ·rintro i d _ _ N hi ⟨u,⟨il,rfl,rfl⟩|⟨il,rfl,rfl⟩⟩ hN
  ·obtain⟨p,e,rfl⟩:=gZ hi;have op:=ho p (cn e);have l1:=iU ho i;have l2:=iU ho (i+1);have f1:((ps.take i).foldl ext [[]]).length=zv (ps.take i):=by rw[rK];simp
   have nx:(ps.take (i+1)).foldl ext [[]]=ext ((ps.take i).foldl ext [[]]) p:=by rw[iO e,List.foldl_append];rfl
   have f2:(ext ((ps.take i).foldl ext [[]]) p).length=zv (ps.take (i+1)):=by
    rw[<- nx,rK];simp
   have fl:∀a∈(ps.take i).foldl ext [[]],a.length<=100:=by
    rw[tF];intro a m;have:=(fZ.mp m).len;rw[this,jl];omega
   have pos:1<=zv (ps.take i):=iQ fun p m=>ho p (mem_of_mem_take m);have pl:(p.2.2+1-p.2.1).toNat<=1000:=by
    have e1:=kY e;have e2:(p.2.2-p.2.1+1).toNat<=zv (ps.take i)*(p.2.2-p.2.1+1).toNat:=Nat.le_mul_of_pos_left _ pos;omega
   rw[oY];walk_at "d";refine⟨pl,?_⟩;rw[DC];by_cases lt:i+1<ps.length
   ·refine v4 yw fl yw (.inl ?_);walk_at "d";exact hN _ _ ⟨_,.inl ⟨lt,rfl,by rw[nx]⟩⟩
   ·refine v4 yw fl yw (.inr ?_);walk_at "d";refine hN _ _ ⟨_,.inr ⟨yw,?_,rfl⟩⟩;rw[<- nx,List.take_of_length_le yw]
  ·have:=(List.getElem?_eq_some_iff.mp hi).1;rw[cp]at this;omega
 ·rintro _ _ ⟨u,⟨il,rfl,rfl⟩|⟨il,rfl,rfl⟩⟩
  ·rw[cp]at il;omega
  ·rw[tF];walk_at "d";exact .inr q
theorem x5{ps:List Part}(ho:Ord ps)(hs:∀i,i<ps.length->zv (ps.take i)<2 ^ 64)(q:R (.d (.int (zv ps))) []):zV [.d (aQ ps)] [] R:=by
 unfold zV;rw[aQ];walk_at "dX"
 (refine seq1 ?_;walk_at "dX")
 refine seq1 ?_;walk_at "dX";refine cS (fun i δ S=>∃(u1 u2 u3:Option XV),S=[]/\δ=[some (.d (.tuple (ps.map aM))),some (.d (.int (zv (ps.take i)))),u1,u2,u3]) ⟨_,_,_,rfl,rfl⟩ ?_ ?_
 ·rintro i d _ _ N hi ⟨u1,u2,u3,rfl,rfl⟩ hN;obtain⟨p,e,rfl⟩:=gZ hi;have op:=ho p (cn e);have l1:=hs i (List.getElem?_eq_some_iff.mp e).1;rw[oY];walk_at "dX";refine⟨dF yw yw,hN _ _ ⟨some (.d (.str p.1)),some (.d (.int p.2.1)),some (.d (.int p.2.2)),rfl,?_⟩⟩;rw[kY e,lq,jr yw];rw[show p.2.2+1-p.2.1=p.2.2-p.2.1+1 by omega]
 ·rintro _ _ ⟨u1,u2,u3,rfl,rfl⟩;rw[cp,lx];walk_at "dX";exact q
theorem Db{ps:List Part}(ho:Ord ps)(h3:300<zv ps)(hs:∀i,i<ps.length->zv (ps.take i)<2 ^ 64)(q:R (.d (.bool true)) []):nK [.d (aQ ps)] [] R:=by
 unfold nK;walk_at "d";walk_at "n";refine DB ho h3 hs ?_;refine⟨by decide,?_⟩;have lm:jw ("many":Str) (jK (zv ps))=some (cz (zv ps)):=rfl;have lo:jw ("most":Str) (jK (zv ps))=some (cz 300):=rfl;generalize jK (zv ps)=fs at lm lo;walk_at "d";walk_at "n";refine⟨180,fs,rfl,Br dz ?_⟩;walk_at "d";refine⟨by decide +kernel,by decide +kernel,?_⟩;rw[cf (by decide +kernel)];refine⟨180,fs,_,rfl,by decide,lm,oV ?_⟩;walk_at "d";refine⟨180,fs,_,rfl,by decide,lo,oV ?_⟩;walk_at "d";rw[cf dz];refine⟨180,fs,_,rfl,by decide,lm,?_⟩;refine x5 ho hs ?_;walk_at "d";exact⟨180,fs,_,rfl,by decide,lo,rfl,q⟩
theorem DR{ps:List Part}{p:List be}(hd:Drw ps)(hp:aT p)(hs:zv ps<=300)(q:∀(ps':List Part) p',Ord ps'->300<zv ps'->(∀i,i<ps'.length->zv (ps'.take i)<2 ^ 64)->aT p'->R (.d (aQ ps')) [p']):oZ [.d (aQ ps),.l 0] [p] R:=by
 obtain⟨aa,ac,rfl⟩:∃aa ac,ps=aa++[ac]:=⟨ps.dropLast,ps.getLast (fun z=>by have:=hd.l1;simp[z]at this),(List.dropLast_concat_getLast _).symm⟩;have s0:∀n:Nat,HT.sIx n 0 none=0:=fun _=>rfl;have s1:∀n:Nat,HT.sIx (n+1) (n+1) (some (-1))=n:=fun n=>by
  unfold HT.sIx;simp
  try omega
 have ec:aL ((aa++[ac]).map aM) none (some (-1))=aa.map aM:=by
  unfold aL;rw[cp,bx,fj,s0,s1];simp
 have oi:Ord aa:=fun p m=>hd.ord p (fq _ m);have si:zv aa<=300:=by have:=iU hd.ord aa.length;rw[List.take_left]at this;omega
 unfold oZ;rw[aQ];walk_at "dX"
 (refine seq1 ?_;walk_at "dX")
 refine⟨aM ac,?_,?_⟩
 ·rw[kg];exact FM _ _
 rw[aM];walk_at "dX"
 (refine seq1 ?_;walk_at "dX")
 refine seq1 ?_;walk_at "dX";refine⟨by rw[s0,s1];omega,?_⟩;rw[ec];refine cS (fun i δ S=>∃(u1:Option XV),S=[p]/\δ=[some (.d (.tuple ((aa++[ac]).map aM))),some (.l 0),some (.d (.str ac.1)),some (.d (.int ac.2.1)),some (.d (.int ac.2.2)),some (.d (.int (zv (aa.take i)))),u1,none]) ⟨_,rfl,rfl⟩ ?_ ?_
 ·rintro i d _ _ N hi ⟨u1,rfl,rfl⟩ hN;obtain⟨pt,e,rfl⟩:=gZ hi;have op:=oi pt (cn e);have l1:=iU oi i;rw[aM];walk_at "dX";refine⟨dF yw yw,hN _ _ ⟨some (.d (aM pt)),rfl,?_⟩⟩;rw[kY e,lq,jr yw]
  try rfl
 ·rintro _ _ ⟨u1,rfl,rfl⟩;rw[cp,lx];walk_at "dX"
  (refine seq1 ?_;walk_at "dX")
  refine .inl ⟨⟨by have:=iQ oi;omega,EA (by have:=iQ oi;omega) yw⟩,?_⟩;walk_at "dX";refine⟨by first|decide|exact⟨by decide,by decide⟩,zE hp dz (by decide +kernel) fun r1 p1 aj ak ae=>?_⟩;walk_at "dX";refine zE ae dz (by decide +kernel) fun r2 p2 ai af ah=>?_;walk_at "dX";obtain⟨d,ed,k,rfl,k0,k1⟩:=tQ (P:=fun d=>∃n:Int,d=.int n/\0<=n/\n<=10 ^ 30) (ds:=[cz 0,cz 1,cz r1]) ai af (by
   intro d m;simp only[gy,fi,or_false]at m;rcases m with rfl|rfl|rfl
   ·exact⟨_,rfl,yw,yw⟩
   ·exact⟨_,rfl,yw,yw⟩
   ·exact⟨_,rfl,yw,yw⟩)
  refine⟨_,ed,?_⟩;rw[ec];walk_at "dX";have pos:=iQ oi;have w0:0<(300:Int)/(zv aa:Int)+1+k:=by have:=Int.ediv_nonneg (show (0:Int)<=300 by decide) (show (0:Int)<=(zv aa:Int) by omega);omega
  have w1:(300:Int)/(zv aa:Int)+1+k<=301+10 ^ 30:=by have:=Int.ediv_le_self (zv aa:Int) (show (0:Int)<=300 by decide);omega
  have ag:(300:Int)<zv aa*((300:Int)/(zv aa:Int)+1+k):=by
   have h1:=Int.lt_ediv_add_one_mul_self (300:Int) (show (0:Int)<zv aa by omega);have h2:(0:Int)<=zv aa*k:=Int.mul_nonneg yw k0;rw[Int.mul_add,Int.mul_comm _ ((300:Int)/(zv aa:Int)+1)];omega
  refine⟨by rw[s0,s1];omega,by first|decide|exact⟨by decide,by decide⟩,by have:=hd.l8;simp at this;omega,?_⟩;have lp:=hd.all ac (cb _ dm);have h9:=lp.hi;have h8:=lp.le;rw[dw yw];generalize (300:Int)/(zv aa:Int)+1+k=wd at w0 w1 ag;have es:((zv (aa++[(ac.1,ac.2.1,ac.2.1+wd-1)]):Nat):Int)=zv aa*wd:=by
   unfold zv;rw[kg,i9];simp only[im,map_nil,bC,Nat.mul_one];rw[lq,jr yw];congr 1;omega
  have q1:=q (aa++[(ac.1,ac.2.1,ac.2.1+wd-1)]) p2 ?_ ?_ ?_ ah
  ·rw[aQ,kg]at q1;exact q1
  ·intro pt m;rcases mem_append.mp m with m|m
   ·exact oi pt m
   ·rw[mem_singleton.mp m];show ac.2.1<=ac.2.1+wd-1;omega
  ·omega
  ·intro i hi;have l1:=iU oi i;rw[bx,fj]at hi;rw[List.take_append_of_le_length yw];omega
theorem rD{α:Type}(f g:α->be):∀l:List α,aX (l.map f) (l.map g)=l.map fun x=>.tuple [f x,g x]
 | []=>by simp[aX]
 |x::l=>by
  rw[im,im,im,aX,rD f g l]
theorem Ey(a:Addr)(n:Int):rP (Dy a 7) ((some (.o (.ref a))::bh 7 none).set 1 (some (.d (.int n)))) []:=by
 unfold rP;walk_at "d"
 walk_at "n"
 refine Dv fun p hp=>?_;walk_at "d"
 walk_at "n"
 refine Ca hp fun ps p1 hd hs ac=>?_;walk_at "d";have l8:=hd.l8;have l1:=hd.l1;have ho:=hd.ord
 walk_at "n"
 refine Es ho yw hs ?_;walk_at "d";refine seq1 ?_;have bl:(aJ ps).length<=300:=by rw[kP];exact hs
 walk_at "d";have ba:∀aa∈aJ ps,aa.length<=8:=fun aa m=>by rw[(fZ.mp m).len];omega
 refine cS (fun i δ S=>∃(u5 u6:Option XV) (X:Sto),X.length=i/\S=p1::X/\δ=[some (.o (.ref a)),some (.d (.int n)),some (.l 0),some (.d (aQ ps)),some (.d (.list ((aJ ps).map eL))),u5,u6,none]) ⟨none,none,[],rfl,rfl,rfl⟩ ?_ ?_
 ·rintro i d _ _ N hi ⟨u5,u6,X,hX,rfl,rfl⟩ hN;obtain⟨af,rfl⟩:=jR hi;have ae:X=[]\/∃Y,X=[Y]:=by
   rcases X with _|⟨x,_|⟨y,X⟩⟩
   ·exact .inl rfl
   ·exact .inr ⟨x,rfl⟩
   ·simp only[fm]at hX;omega
  subst hX;rcases ae with rfl|⟨Y,rfl⟩
  ·walk_at "d"
   walk_at "n"
   refine wR ho l1 yw hs ?_;walk_at "d";walk_at "n";refine sI ho hs ?_;walk_at "d";rw[cf (by simp[kP])];walk_at "n";rw[rD];refine cmp2 (S0:=[]) (fun aa:List Int=>.bool true) rfl (aJ ps) yw ?_ ?_
   ·intro aa mo u v acc R' hk;walk_at "d";refine vD (b:=aa) rfl (by have:=ba aa mo;omega) ?_;walk_at "d";refine t0 yw ?_;rw[xO.mpr ⟨aa,rfl,fZ.mp mo⟩];walk_at "d";exact hk _ _
   ·walk_at "d";refine⟨(aJ ps).map fun _=>true,by rw[map_map];rfl,?_⟩;rw[cf yv];exact⟨yw,hN _ _ ⟨_,_,_,yv,rfl,rfl⟩⟩
  ·walk_at "d"
   walk_at "n"
   refine wR ho l1 yw hs ?_;walk_at "d";walk_at "n";refine sI ho hs ?_;walk_at "d";rw[cf (by simp[kP])];walk_at "n";rw[rD];refine cmp2 (S0:=[]) (fun aa:List Int=>.bool true) rfl (aJ ps) yw ?_ ?_
   ·intro aa mo u v acc R' hk;walk_at "d";refine vD (b:=aa) rfl (by have:=ba aa mo;omega) ?_;walk_at "d";refine t0 yw ?_;rw[xO.mpr ⟨aa,rfl,fZ.mp mo⟩];walk_at "d";exact hk _ _
   ·walk_at "d";refine⟨(aJ ps).map fun _=>true,by rw[map_map];rfl,?_⟩;rw[cf yv];exact⟨yw,hN _ _ ⟨_,_,_,yv,rfl,rfl⟩⟩
 ·rintro _ _ ⟨u5,u6,X,hX,rfl,rfl⟩;obtain⟨Y,Z,rfl⟩:∃Y Z,X=[Y,Z]:=by
   rw[gC]at hX;rcases X with _|⟨x,_|⟨y,_|⟨z,X⟩⟩⟩<;>simp at hX
   exact⟨x,y,rfl⟩
  walk_at "d"
  walk_at "n"
  refine DR hd ac hs fun ah p3 o' g' s' ag=>?_;walk_at "d";refine pY o' s' ?_;walk_at "d";refine oV ?_;walk_at "d";refine pY o' s' ?_;walk_at "d";refine x5 o' s' ?_;walk_at "d";refine Db o' g' s' ?_;walk_at "d"
  try trivial
end
end My
namespace My
open PySem L2
def top (i : Nat) : Stmt := PySem.Challenge.pw_gaugewright_k07_whole_all_sets.main.body.getD i (.Pass ⟨0, 0, 0, 0⟩)
abbrev yM:Stmt:=top 25
theorem CP:FnScope ["script","k"] ["script","k"] (zg yM):=fsd
abbrev xH:Stmt:=top 27
theorem xT:FnScope ["cell","left"] ["cell"] (zg xH):=fsd
abbrev uF:Stmt:=top 26
theorem uZ:FnScope ["seed"] ["seed"] (zg uF):=fsd
abbrev wK:Stmt:=top 28
theorem wS:FnScope ["pen","many","found"] ["pen","many"] (zg wK):=fsd
abbrev mF:Stmt:=top 32
theorem zC:FnScope ["pen","letters","way","first","names","word","at"] ["pen"] (zg mF):=fsd
abbrev wC:Stmt:=top 30
theorem xX:FnScope ["pen","way"] ["pen"] (zg wC):=fsd
abbrev rJ:Stmt:=top 33
theorem zY:FnScope ["pen","names","way","wides","drawing","k","low"] ["pen"] (zg rJ):=fsd
abbrev p6:Stmt:=top 36
theorem zW:FnScope ["drawing","found","name","low","high","longer","k"] ["drawing"] (zg p6):=fsd
abbrev uQ:Stmt:=top 37
theorem zN:FnScope ["drawing","pen","name","low","high","rest","part","wide"] ["drawing","pen"] (zg uQ):=fsd
abbrev vO:Stmt:=top 15
theorem CB:FnScope ["one"] ["one"] (zg vO):=fsd
abbrev yI:Stmt:=top 18
theorem FL:FnScope ["part"] ["part"] (zg yI):=fsd
abbrev tM:Stmt:=top 20
theorem o7:FnScope ["drawing","many","part"] ["drawing"] (zg tM):=fsd
abbrev xG:Stmt:=top 21
theorem zR:FnScope ["drawing","many"] ["drawing"] (zg xG):=fsd
abbrev pZ:Stmt:=top 23
theorem pU:FnScope ["beginnings","numbers","longer","beginning"] ["beginnings","numbers"] (zg pZ):=fsd
abbrev uW:Stmt:=top 22
theorem fL:FnScope ["drawing","beginnings","part"] ["drawing"] (zg uW):=fsd
abbrev vQ:Stmt:=top 29
theorem wA:FnScope ["found"] ["found"] (zg vQ):=fsd
abbrev tN:Stmt:=top 38
theorem zA:FnScope ["drawing","found","name","low","high"] ["drawing"] (zg tN):=fsd
abbrev wO:Stmt:=top 34
theorem mS:FnScope ["e","marks","words"] ["e"] (zg wO):=fsd
abbrev sV:Stmt:=top 39
theorem yO:FnScope ["drawing","e"] ["drawing"] (zg sV):=fsd
abbrev rV:Stmt:=top 35
theorem C2:FnScope ["found","due"] ["found","due"] (zg rV):=fsd
abbrev vY:Stmt:=top 13
theorem FG:FnScope ["thing"] ["thing"] (zg vY):=fsd
abbrev qN:Stmt:=top 19
theorem Cg:FnScope ["drawing","thing"] ["drawing","thing"] (zg qN):=fsd
abbrev s_law:Stmt:=top 40
theorem eW:FnScope ["script","cell","pen","drawing","due","turn","found","great"] ["script"] (zg s_law):=fsd
abbrev s_I_TooGreat:Stmt:=Er (top 11) 0
theorem D9:FnScope ["self","many","most"] ["self","many","most"] (zg s_I_TooGreat):=fsc (by decide +kernel)
structure Txt(mg:Str->Option bc):Prop where
 n_range:mg "range" = none
 n_len:mg "len" = none
 n_isinstance:mg "isinstance" = none
 n_list:mg "list" = none
 n_all:mg "all" = none
 n_zip:mg "zip" = none
 n_max:mg "max" = none
 n_int:mg "int" = none
 n_tuple:mg "tuple" = none
 n_reversed:mg "reversed" = none
 n_min:mg "min" = none
 n_bool:mg "bool" = none
 n_ValueError:mg "ValueError" = none
 g_MOST_SETS:∃t,mg "MOST_SETS" = some (.int 300 t)
structure Dds(K:bn)(mg:Str->Option bc):Prop where
 a0:Dd K mg "_law_cell_at" yM ["script","k"]
 a1:Dd K mg "_law_pen_of" xH ["cell"]
 a2:Dd K mg "_law_next" uF ["seed"]
 a3:Dd K mg "_law_draw" wK ["pen","many"]
 a4:Dd K mg "_law_names_of" mF ["pen"]
 a5:Dd K mg "_law_number_of" wC ["pen"]
 a6:Dd K mg "_law_small" rJ ["pen"]
 a7:Dd K mg "_law_all_of" p6 ["drawing"]
 a8:Dd K mg "_law_great_of" uQ ["drawing","pen"]
 a9:Dd K mg "size_of" vO ["one"]
 a10:Dd K mg "span_of" yI ["part"]
 a11:Dd K mg "how_many" tM ["drawing"]
 a12:Dd K mg "refuse_too_many_sets" xG ["drawing"]
 a13:Dd K mg "each_longer" pZ ["beginnings","numbers"]
 a14:Dd K mg "all_sets" uW ["drawing"]
 a15:Dd K mg "_law_whole" vQ ["found"]
 a16:Dd K mg "_law_many_of" tN ["drawing"]
 a17:Dd K mg "_law_kind" wO ["e"]
 a18:Dd K mg "_law_refused" sV ["drawing"]
 a19:Dd K mg "_law_tuple_of" rV ["found","due"]
 a20:Dd K mg "is_whole" vY ["thing"]
 a21:Dd K mg "is_set" qN ["drawing","thing"]
structure Exx(K:bn)(mg:Str->Option bc):Prop where
 ex:Exs K
 m_GaugeError:mg "GaugeError" = some (.ref 24)
 m_NoSpan:mg "NoSpan" = some (.ref 37)
 m_NoPart:mg "NoPart" = some (.ref 49)
 m_NoSet:mg "NoSet" = some (.ref 61)
 m_NoRow:mg "NoRow" = some (.ref 73)
 m_Unlike:mg "Unlike" = some (.ref 85)
 m_NoDrawing:mg "NoDrawing" = some (.ref 104)
 m_NoGap:mg "NoGap" = some (.ref 123)
 m_NoOffer:mg "NoOffer" = some (.ref 142)
 m_NoText:mg "NoText" = some (.ref 161)
 m_TooGreat:mg "TooGreat" = some (.ref 180)
 c_GaugeError:ExCls K 24 none
 c_NoSpan:ExCls K 37 none
 c_NoPart:ExCls K 49 none
 c_NoSet:ExCls K 61 none
 c_NoRow:ExCls K 73 none
 c_Unlike:ExCls K 85 none
 r_TooGreat:XI K 180 ["many","most"] "TooGreat.__init__" s_I_TooGreat
 a_many:ExsI K [180] "many"
 a_most:ExsI K [180] "most"
section
variable {P:bw}{w:df}{K:bn}{mg:Str->Option bc}{base:Heap}
theorem Cu{f:Addr}{fd:iq}(F:Fun K "__init__" "TooGreat.__init__" s_I_TooGreat f fd):FnOk P w K mg base CX0 1 f fd ["self","many","most"] (spI K ["many","most"]):=F.ok D9 FV fun p A outer s H vs Q E hr h=>⟨_,(zf (vE (pv 0) (pv 1) rfl) (zj (vE (pv 0) (pv 2) rfl))),init2 dz h⟩
local macro_rules|`(tactic|walk_at "r")=>do
 let ts<-("zh 2,zm 0,zw 0,aV 0,zG 0,bQ 2,zO 2,zO 0,cG 1,jE 0,lF 0,bR 2,uN 0,cK 0,m1 2,fJ 0,zh 0,jD 1,fK 3,tR 0,gV 0,cP 0,nH 2,mM 0,nR 0,eK 0,pP 0,bQ 0,rC 1,xV 0,iJ 3,iY 0,eO 2,At 1,pJ 0,m3 1,eG 1,eF 1,yJ 4,yC 0,uG 1,xA 0,lB 1,Ao 2,De 0,iJ 0,A0 0,fK 0,i6 1,qV 1,rZ 0,jD 0,cG 0,o0 0,An 0,AQ 2,jO 3,y0 0,E2 0,lB 0,jO 0,rF 0,Bp 1,jZ 2,A5 1,eG 0,eF 0,qD 0,Ee 0,v0 0,Dr 0,Al 2,B9 0,CZ 2,Do 1,El 0,Bt 1,eO 0,jZ 0,xK 0,aE 3,aY 2,gN 1,aY 0,aE 0,gN 0".splitOn ",").toArray.mapM fun x=>do
  let i:=x.splitOn " "
  let h<-`(term|?_)
  let hs:=Array.replicate ((i.getD 1 "").toNat!) h
  `(Lean.Parser.Tactic.tacticSeq|refine $(Lean.mkIdent (i.getD 0 "").toName) $hs*)
 `(tactic|repeat' (first|with_reducible (first $[|$ts:tacticSeq]*)|rfl))
theorem FC(T:Txt mg:=by assumption)(dd:Dds K mg:=by assumption):Df P w K mg base "_law_cell_at" ["script","k"] 1 (sp2 (pK K)):=by
 refine Df.of2 dd.a0 CP (fun v u=>[some v,some u]) (fun _ _=>rfl) fun f p A outer s H v u Q E hr h=>?_;obtain⟨a,ns,i,rfl,rfl,hS,h0,q⟩:=h;refine⟨_,(zf (bI (bH pN (pv 1) (zq Ek (by rfl) T.n_len dS (za (pv 0) zd)) (nomark _)) (zj (zK (aO u7 (pv 0) (pv 1) (fun _ _=>rfl)))) bJ) (zj (zK ze))),?_⟩;simp only[dP,nY,r9,tOp,AV,tCB,iS,iF,oE,tC,pO,sK,getElem?_cons_zero,getElem?_cons_succ];refine⟨a,_,rfl,.inl hS,?_⟩;simp only[sK,Ef,decide_eq_true_eq];refine ite2 (fun hi=>?_) (fun _=>q 0);obtain⟨n,e⟩:=Cp h0 hi;exact⟨a,_,i,_,rfl,rfl,hS,e,q n⟩
variable (T:Txt mg:=by assumption) (dd:Dds K mg:=by assumption) (xx:Exx K mg:=by assumption)
include T dd xx
theorem AW:Df P w K mg base "_law_pen_of" ["cell"] 1 (spN ["cell"] oW):=by
 exact Df.dN dd.a1 xT 1 rfl fun f p A outer s H E hr=>⟨_,_,(zf (zB (i:=1) xT.nd rfl lo (zq (DU rfl) (by rfl) T.n_max F4 (za (pv 0) (za (zy cO ze (pv 0)) zd)))) (zj (zK (bA (za (pv 1) (za (p7 Bv (by rfl) T.n_int nL (za (mH FZ (pv 1) (zy iN ze ze) (nomark _)) zd)) (za (zy fA (pv 1) ze) zd))))))),(by walk_at "r"),fun xs S R q=>q⟩
theorem uK:Df P w K mg base "_law_next" ["seed"] 1 (spN ["seed"] jN):=by
 exact Df.dN dd.a2 uZ 0 rfl fun f p A outer s H E hr=>⟨_,_,(zf (zB (i:=0) uZ.nd rfl lo (zy fA (zy zI (pv 0) ze) ze)) (zj (zK (zy fA (zy zI (zy zI (zy cE (pv 0) (pv 0)) (zy cE ze (pv 0))) ze) ze)))),(by walk_at "r"),fun xs S R q=>q⟩
theorem zL:Df P w K mg base "_law_draw" ["pen","many"] 2 (spN ["pen","many"] zp):=by
 exact Df.dN dd.a3 wS 1 rfl fun f p A outer s H E hr=>⟨_,_,(zf (bI (bH (dU hr.units) (aO aP (pv 0) ze (fun _ _=>rfl)) ze (nomark _)) (zf (zB (i:=2) wS.nd rfl lo (zy fA (aO aP (pv 0) ze (fun _ _=>rfl)) (pv 1))) (zf (qS (zy rE (aO aP (pv 0) ze (fun _ _=>rfl)) (pv 1)) (xR (pv 0) ze wI)) (zj (zK (pv 2))))) bJ) (zf (qS (zF uK hr dz (za (zy zI (zF uK hr dz (za (aO aP (pv 0) ze (fun _ _=>rfl)) zd)) ze) zd)) (xR (pv 0) ze wI)) (zj (zK (zy fA (zy rE (aO aP (pv 0) ze (fun _ _=>rfl)) ze) (pv 1)))))),(by walk_at "r"),fun xs S R q=>q⟩
theorem AM:Df P w K mg base "_law_names_of" ["pen"] 3 (spN ["pen"] kZ):=by
 exact Df.dN dd.a4 zC 6 rfl fun f p A outer s H E hr=>⟨_,_,(zf (zB (i:=1) zC.nd rfl (Or.inr rfl) aU) (zf (zB (i:=2) zC.nd rfl lo (zF zL hr dz (za (pv 0) (za ze zd)))) (zf (zB (i:=3) zC.nd rfl (Or.inr rfl) (zF zL hr dz (za (pv 0) (za ze zd)))) (zf (pG (i:=4) (fun _ _ h=>h) rfl (dY rfl rfl rfl rfl (N:=["k","letters","first"]) (caps:=[none,some 1,some 3]) (by show c7 ["pen","letters","way","first","names","word","at"] (zg mF).names _ _ _=true;decide +kernel)) zC.nd rfl rfl (gF rfl T.n_range (za ze zd)) (fun _ _ _ _=>(zD (i:=0) (by show jp (["k","letters","first"]:List Str);decide) rfl (gv rfl))) (fun _ _ _ _=>eJ) (fun _ _ _ _=>(zy cE (aO aP (pv 1) (zy fA (zy zI (pv 2) (zy cE ze (pv 0))) ze) (fun _ _=>rfl)) (zy zI ze (zy fA (zy zI (pv 2) (zy cE ze (pv 0))) ze))))) (zf (bI (bH (dU hr.units) (pv 2) ze (nomark _)) (zf (zB (i:=5) zC.nd rfl (Or.inr rfl) (iA PySem.F.plainAttrs_str PySem.F.slot_str_join PySem.F.type_str_join CF aU (za (iX (fun _ _ h=>h) rfl (dY rfl rfl rfl rfl (N:=["k","letters","first"]) (caps:=[none,some 1,some 3]) (by show c7 ["pen","letters","way","first","names","word","at"] (zg mF).names _ _ _=true;decide +kernel)) (gF rfl T.n_range (za ze zd)) (fun _ _ _ _=>(zD (i:=0) (by show jp (["k","letters","first"]:List Str);decide) rfl (gv rfl))) (fun _ _ _ _=>eJ) (fun _ _ _ _=>(aO aP (pv 1) (zy fA (zy zI (pv 2) (zy cE ze (pv 0))) ze) (fun _ _=>rfl)))) zd))) (zj (pG (i:=4) (fun _ _ h=>h) rfl (dY rfl rfl rfl rfl (N:=["k","word"]) (caps:=[none,some 5]) (by show c7 ["pen","letters","way","first","names","word","at"] (zg mF).names _ _ _=true;decide +kernel)) zC.nd rfl rfl (gF rfl T.n_range (za ze zd)) (fun _ _ _ _=>(zD (i:=0) (by show jp (["k","word"]:List Str);decide) rfl (gv rfl))) (fun _ _ _ _=>eJ) (fun _ _ _ _=>(iT lA (pv 1) jV (gB (zy zI (pv 0) ze))))))) bJ) (zf (bI (bH (dU hr.units) (pv 2) ze (nomark _)) (zj (zB (i:=4) zC.nd rfl lo (bA (za aU (za aU (za aU (za aU (za aU (za aU (za aU (za aU zd))))))))))) bJ) (zf (zB (i:=6) zC.nd rfl lo (zF zL hr dz (za (pv 0) (za ze zd)))) (zf (zB (i:=4) zC.nd rfl lo (zy pM (iT lA (pv 4) (gB (pv 6)) jV) (iT lA (pv 4) jV (gB (pv 6))))) (zf (bI (bH (dU hr.units) (zF zL hr dz (za (pv 0) (za ze zd))) ze (nomark _)) (zj (gD (A6 PySem.F.plainAttrs_list PySem.F.slot_list_reverse PySem.F.type_list_reverse Ce (pv 4)))) bJ) (zj (zK (pv 4)))))))))))),(zO (bQ lF zG) (zO (by walk_at "r") (zO (by walk_at "r") (zO (bQ (AA (i6 (zh aV zw)) zG eA (aE mM (aE jE zm (aE gV (aE cK zm (aE mM aV zm)) aV)) (aE cK aV (aE gV (aE cK zm (aE mM aV zm)) aV)))) zG) (zO (fK (by walk_at "r") (zO (bQ (v0 Ai lF (zh (hU (i6 (zh aV zw)) zG eA (aE jE zm (aE gV (aE cK zm (aE mM aV zm)) aV))) zw)) zG) (bQ (AA (i6 (zh aV zw)) zG eA (yJ yC zm xA (uG (aE cK zm aV)))) zG)) fJ) (by walk_at "r")))))),fun xs S R q=>q⟩
theorem B1:Df P w K mg base "_law_number_of" ["pen"] 3 (spN ["pen"] nO):=by
 exact Df.dN dd.a5 xX 1 rfl fun f p A outer s H E hr=>⟨_,_,(zf (zB (i:=1) xX.nd rfl lo (zF zL hr dz (za (pv 0) (za ze zd)))) (zf (bI (bH pN (pv 1) ze (nomark _)) (zj (zK (zy cO (zF zL hr dz (za (pv 0) (za ze zd))) ze))) bJ) (zf (bI (bH pN (pv 1) ze (nomark _)) (zj (zK (zy cO (zF zL hr dz (za (pv 0) (za ze zd))) ze))) bJ) (zj (zK (zy cE (zy cO (zF zL hr dz (za (pv 0) (za (zy cE ze (zy iN ze ze)) zd))) (zy iN ze ze)) (zy iN ze ze))))))),(by walk_at "r"),fun xs S R q=>q⟩
theorem DH:Df P w K mg base "_law_small" ["pen"] 4 (spN ["pen"] pW):=by
 exact Df.dN dd.a6 zY 6 rfl fun f p A outer s H E hr=>⟨_,_,(zf (zB (i:=1) zY.nd rfl lo (zF AM hr dz (za (pv 0) zd))) (zf (zB (i:=2) zY.nd rfl lo (zF zL hr dz (za (pv 0) (za ze zd)))) (zf (pG (i:=3) (fun _ _ h=>h) rfl (dY rfl rfl rfl rfl (N:=["k","pen"]) (caps:=[none,some 0]) (by show c7 ["pen","names","way","wides","drawing","k","low"] (zg rJ).names _ _ _=true;decide +kernel)) zY.nd rfl rfl (gF rfl T.n_range (za (zy zI ze (zF zL hr dz (za (pv 0) (za ze zd)))) zd)) (fun _ _ _ _=>(zD (i:=0) (by show jp (["k","pen"]:List Str);decide) rfl (gv rfl))) (fun _ _ _ _=>eJ) (fun _ _ _ _=>(zy zI ze (zF zL hr dz (za (pv 1) (za ze zd)))))) (zf (bI (bH (dU hr.units) (pv 2) ze (nomark _)) (zj (zB (i:=3) zY.nd rfl lo (aO aP (n9 (zQ (zy cE (bA (za ze zd)) ze) (zQ (bA (za ze (za ze zd))) (zQ (bA (za ze zd)) (zQ (bA (za ze (za ze zd))) (zQ (bA (za ze (za ze (za ze (za ze zd))))) (zQ (bA (za ze (za ze (za ze (za ze zd))))) n5))))))) (zF zL hr dz (za (pv 0) (za ze zd))) (fun _ _=>rfl)))) bJ) (zf (bI (bH (dU hr.units) (zF zL hr dz (za (pv 0) (za ze zd))) ze (nomark _)) (zj (zB (i:=3) zY.nd rfl lo (FT (pv 3) (nI oO ze)))) bJ) (zf (zB (i:=4) zY.nd rfl lo (bA zd)) (zf (cV fx rfl (gF rfl T.n_range (za (zq fH (by rfl) T.n_len dS (za (pv 3) zd)) zd)) (zD (i:=5) zY.nd rfl (gv rfl)) (zf (zB (i:=6) zY.nd rfl lo (zF B1 hr dz (za (pv 0) zd))) (zj (gD (iA PySem.F.plainAttrs_list PySem.F.slot_list_append PySem.F.type_list_append pX (pv 4) (za (eZ (za (aO aP (pv 1) (pv 5) (fun _ _=>rfl)) (za (pv 6) (za (zy cO (zy zI (pv 6) (aO aP (pv 3) (pv 5) (fun _ _=>rfl))) ze) zd)))) zd)))))) (zj (zK (p7 vT (by rfl) T.n_tuple n6 (za (pv 4) zd))))))))))),(zO (by walk_at "r") (zO (by walk_at "r") (zO (bQ (hU (i6 (zh (aE cK aV (m1 (i:=0) (zh zm (zh aV zw)))) zw)) zG eA (aE cK aV (m1 (i:=0) (zh zm (zh aV zw))))) zG) (by walk_at "r")))),fun xs S R q=>q⟩
theorem FN:Df P w K mg base "_law_all_of" ["drawing"] 1 (spN ["drawing"] oC):=by
 exact Df.dN dd.a7 zW 6 rfl fun f p A outer s H E hr=>⟨_,_,(zf (zB (i:=1) zW.nd rfl lo (bA (za (bA zd) zd))) (zf (cV fx rfl (By rfl T.n_reversed (za (pv 0) zd)) (kE (n:=3) rfl (bP (zD (i:=2) zW.nd rfl (gv rfl)) (bP (zD (i:=3) zW.nd rfl (Or.inr rfl)) (bP (zD (i:=4) zW.nd rfl (gv rfl)) iG)))) (zf (zB (i:=5) zW.nd rfl lo (bA zd)) (zf (cV fx rfl (gF rfl T.n_range (za (zy zI (zy cO (pv 4) (pv 3)) ze) zd)) (zD (i:=6) zW.nd rfl (Or.inr rfl)) (zj (gD (iA PySem.F.plainAttrs_list PySem.F.slot_list_extend PySem.F.type_list_extend tG (pv 5) (za (iX (fun _ _ h=>h) rfl (dY rfl rfl rfl rfl (N:=["behind","low","k"]) (caps:=[none,some 3,some 6]) (by show c7 ["drawing","found","name","low","high","longer","k"] (zg p6).names _ _ _=true;decide +kernel)) (eX (pv 1)) (fun _ _ _ _=>(zD (i:=0) (by show jp (["behind","low","k"]:List Str);decide) rfl (gv rfl))) (fun _ _ _ _=>eJ) (fun _ _ _ _=>(zy zI (bA (za (zy zI (pv 1) (pv 2)) zd)) (pv 0)))) zd))))) (zj (zB (i:=1) zW.nd rfl lo (pv 5)))))) (zj (zK (pv 1))))),(zO (by walk_at "r") (zO (iJ (by walk_at "r") (by walk_at "r") (EZ (zO (EY (zO (by walk_at "r") (iJ (by walk_at "r") zG (lB (jO rF zm (zh (hU (m3 zm) zG eA (aE cK (jD (zh (aE cK zm zm) zw)) zm)) zw)))))) (bQ zm zG)))) (cG zm))),fun xs S R q=>q⟩
theorem D6:Df P w K mg base "_law_great_of" ["drawing","pen"] 3 (spN ["drawing","pen"] oZ):=by
 exact Df.dN dd.a8 zN 6 rfl fun f p A outer s H E hr=>⟨_,_,(zf (qS (aO aP (pv 0) (nI oO ze) (fun _ _=>rfl)) (kE (n:=3) rfl (bP (zD (i:=2) zN.nd rfl (gv rfl)) (bP (zD (i:=3) zN.nd rfl (gv rfl)) (bP (zD (i:=4) zN.nd rfl (gv rfl)) iG))))) (zf (zB (i:=5) zN.nd rfl lo ze) (zf (cV fx rfl (eX (iT lA (pv 0) jV (gB (nI oO ze)))) (zD (i:=6) zN.nd rfl (gv rfl)) (zj (zB (i:=5) zN.nd rfl lo (zy cE (pv 5) (zy zI (zy cO (aO aP (pv 6) ze (fun _ _=>rfl)) (aO aP (pv 6) ze (fun _ _=>rfl))) ze))))) (zf (zB (i:=7) zN.nd rfl lo (zy zI (zy zI (zy rE ze (pv 5)) ze) (aO aP (bA (za ze (za ze (za (zF zL hr dz (za (pv 1) (za (zy iN ze ze) zd))) zd)))) (zF zL hr dz (za (pv 1) (za ze zd))) (fun _ _=>rfl)))) (zj (zK (zy zI (iT lA (pv 0) jV (gB (nI oO ze))) (eZ (za (eZ (za (pv 2) (za (pv 3) (za (zq (E3 rfl) (by rfl) T.n_min CJ (za (zy cO (zy iN ze ze) ze) (za (zy cO (zy zI (pv 3) (pv 7)) ze) zd))) zd)))) zd))))))))),(by walk_at "r"),fun xs S R q=>q⟩
theorem Bc:Df P w K mg base "size_of" ["one"] 1 (spN ["one"] nP):=by
 exact Df.dN dd.a9 CB 0 rfl fun f p A outer s H E hr=>⟨_,_,(zj (zK (zy zI (zy cO (aO aP (pv 0) ze (fun _ _=>rfl)) (aO aP (pv 0) ze (fun _ _=>rfl))) ze))),(by walk_at "r"),fun xs S R q=>q⟩
theorem CC:Df P w K mg base "span_of" ["part"] 1 (spN ["part"] pA):=by
 exact Df.dN dd.a10 FL 0 rfl fun f p A outer s H E hr=>⟨_,_,(zj (zK (eZ (za (aO aP (pv 0) ze (fun _ _=>rfl)) (za (aO aP (pv 0) ze (fun _ _=>rfl)) zd))))),(by walk_at "r"),fun xs S R q=>q⟩
theorem kW:Df P w K mg base "how_many" ["drawing"] 2 (spN ["drawing"] dL):=by
 exact Df.dN dd.a11 o7 2 rfl fun f p A outer s H E hr=>⟨_,_,(zf (zB (i:=1) o7.nd rfl lo ze) (zf (cV fx rfl (eX (pv 0)) (zD (i:=2) o7.nd rfl (gv rfl)) (zj (zB (i:=1) o7.nd rfl lo (zy cE (pv 1) (zF Bc hr dz (za (zF CC hr dz (za (pv 2) zd)) zd)))))) (zj (zK (pv 1))))),(by walk_at "r"),fun xs S R q=>q⟩
theorem Bi:DfX P w K mg base "refuse_too_many_sets" ["drawing"] 3 (spX ["drawing"] zU):=by
 exact DfX.dN dd.a12 zR 1 rfl fun f p A outer s H E EX hr=>⟨_,_,(zf (Bm (zB (i:=1) zR.nd rfl lo (zF kW hr dz (za (pv 0) zd)))) (zj (bI (PT.nox (bH yS (pv 1) (qZ rfl T.g_MOST_SETS) (nomark _))) (zj (B2 xx.r_TooGreat (fun _ _ F=>Cu F) B7 hr dz xx.m_TooGreat dz (za (pv 1) (za (qZ rfl T.g_MOST_SETS) zd)))) bJ))),(tV (sE (by walk_at "r")) (EO (Dn (by walk_at "r")) (AX xx.r_TooGreat.i xx.r_TooGreat.na (by walk_at "r")) (sE fJ))),fun xs S R q=>q⟩
theorem D4:Df P w K mg base "refuse_too_many_sets" ["drawing"] 3 (spN ["drawing"] zS):=by
 exact Df.dN dd.a12 zR 1 rfl fun f p A outer s H E hr=>⟨_,_,(zf (zB (i:=1) zR.nd rfl lo (zF kW hr dz (za (pv 0) zd))) (zj (bI (bH yS (pv 1) (qZ rfl T.g_MOST_SETS) (nomark _)) (zj Cw) bJ))),(by walk_at "r"),fun xs S R q=>q⟩
theorem yW:Df P w K mg base "each_longer" ["beginnings","numbers"] 1 (spN ["beginnings","numbers"] jJ):=by
 exact Df.dN dd.a13 pU 2 rfl fun f p A outer s H E hr=>⟨_,_,(zf (zB (i:=2) pU.nd rfl lo (bA zd)) (zf (cV fx rfl (eX (pv 0)) (zD (i:=3) pU.nd rfl (Or.inr rfl)) (zj (gD (iA PySem.F.plainAttrs_list PySem.F.slot_list_extend PySem.F.type_list_extend tG (pv 2) (za (iX (fun _ _ h=>h) rfl (dY rfl rfl rfl rfl (N:=["number","beginning"]) (caps:=[none,some 3]) (by show c7 ["beginnings","numbers","longer","beginning"] (zg pZ).names _ _ _=true;decide +kernel)) (eX (pv 1)) (fun _ _ _ _=>(zD (i:=0) (by show jp (["number","beginning"]:List Str);decide) rfl (gv rfl))) (fun _ _ _ _=>eJ) (fun _ _ _ _=>(zy zI (pv 1) (eZ (za (pv 0) zd))))) zd))))) (zj (zK (pv 2))))),(zO (by walk_at "r") (zO (iJ (m3 zm) zG (lB (jO rF zm (zh (hU (m3 zm) zG eA (aE cK zm (rC (zh zm zw)))) zw)))) (cG zm))),fun xs S R q=>q⟩
theorem FJ:DfX P w K mg base "all_sets" ["drawing"] 4 (spX ["drawing"] oA):=by
 exact DfX.dN dd.a14 fL 2 rfl fun f p A outer s H E EX hr=>⟨_,_,(zf (gD (B5 Bi pass1 hr dz (za (PE.nox (pv 0)) zd))) (PSs.nox (zf (zB (i:=1) fL.nd rfl lo (bA (za (eZ zd) zd))) (zf (cV fx rfl (eX (pv 0)) (zD (i:=2) fL.nd rfl (gv rfl)) (zj (zB (i:=1) fL.nd rfl lo (zF yW hr dz (za (pv 1) (za (v5 rfl rfl T.n_list rfl T.n_range (za (aO aP (pv 2) ze (fun _ _=>rfl)) (za (zy zI (aO aP (pv 2) ze (fun _ _=>rfl)) ze) zd))) zd)))))) (zj (zK (pv 1))))))),(tV (E8 (E7 (uX (zh zm zw)))) (sE (by walk_at "r"))),fun xs S R q=>q⟩
theorem EN:Df P w K mg base "all_sets" ["drawing"] 4 (spN ["drawing"] nS):=by
 exact Df.dN dd.a14 fL 2 rfl fun f p A outer s H E hr=>⟨_,_,(zf (gD (zF D4 hr dz (za (pv 0) zd))) (zf (zB (i:=1) fL.nd rfl lo (bA (za (eZ zd) zd))) (zf (cV fx rfl (eX (pv 0)) (zD (i:=2) fL.nd rfl (gv rfl)) (zj (zB (i:=1) fL.nd rfl lo (zF yW hr dz (za (pv 1) (za (v5 rfl rfl T.n_list rfl T.n_range (za (aO aP (pv 2) ze (fun _ _=>rfl)) (za (zy zI (aO aP (pv 2) ze (fun _ _=>rfl)) ze) zd))) zd)))))) (zj (zK (pv 1)))))),(by walk_at "r"),fun xs S R q=>q⟩
theorem vC:DfN P w K mg base "_law_whole" ["found"] 1 (spN ["found"] e8):=by
 exact DfN.dN dd.a15 wA 0 rfl fun f p A outer s H hr=>⟨_,_,(zj (zK (f9 (zq dX (by rfl) T.n_isinstance zn (za (pv 0) (za (dH rfl T.n_int nL (v:=.ty "int") rfl) zd))) (gX (rM (zq dX (by rfl) T.n_isinstance zn (za (pv 0) (za (dH rfl T.n_bool rH (v:=.ty "bool") rfl) zd)))))))),(by walk_at "r"),fun xs S R q=>q⟩
theorem w4:Df P w K mg base "_law_whole" ["found"] 1 (spN ["found"] e8):=by
 exact Df.dN dd.a15 wA 0 rfl fun f p A outer s H E hr=>⟨_,_,(zj (zK (f9 (zq dX (by rfl) T.n_isinstance zn (za (pv 0) (za (dH rfl T.n_int nL (v:=.ty "int") rfl) zd))) (gX (rM (zq dX (by rfl) T.n_isinstance zn (za (pv 0) (za (dH rfl T.n_bool rH (v:=.ty "bool") rfl) zd)))))))),(by walk_at "r"),fun xs S R q=>q⟩
theorem FE:DfC P w K mg base "_law_many_of" ["drawing"] 1 (spN ["drawing"] zV):=by
 exact DfC.dN dd.a16 zA 4 rfl fun f p A outer s H hr HC=>⟨_,_,(zf (zB (i:=1) zA.nd rfl lo ze) (zf (Eb fx HC (pv 0) (BS (n:=3) HC (bP (zD (i:=2) zA.nd rfl (gv rfl)) (bP (zD (i:=3) zA.nd rfl (gv rfl)) (bP (zD (i:=4) zA.nd rfl (gv rfl)) iG)))) (zj (zB (i:=1) zA.nd rfl lo (zy cE (pv 1) (zy cO (zy zI (pv 4) ze) (pv 3)))))) (zj (zK (pv 1))))),(by walk_at "r"),fun xs S R q=>q⟩
theorem Eg:Df P w K mg base "_law_many_of" ["drawing"] 1 (spN ["drawing"] zV):=by
 exact Df.dN dd.a16 zA 4 rfl fun f p A outer s H E hr=>⟨_,_,(zf (zB (i:=1) zA.nd rfl lo ze) (zf (cV fx rfl (EI (pv 0)) (kE (n:=3) rfl (bP (zD (i:=2) zA.nd rfl (gv rfl)) (bP (zD (i:=3) zA.nd rfl (gv rfl)) (bP (zD (i:=4) zA.nd rfl (gv rfl)) iG)))) (zj (zB (i:=1) zA.nd rfl lo (zy cE (pv 1) (zy cO (zy zI (pv 4) ze) (pv 3)))))) (zj (zK (pv 1))))),(by walk_at "r"),fun xs S R q=>q⟩
theorem C5:DfN P w K mg base "_law_kind" ["e"] 1 (spN ["e"] nN):=by
 exact DfN.dN dd.a17 mS 2 rfl fun f p A outer s H hr=>⟨_,_,(zf (zB (i:=1) mS.nd rfl lo (n9 (zQ (zq cR (by rfl) T.n_isinstance zn (za (pv 0) (za (cW (v:=.ref 37) rfl xx.m_NoSpan rfl) zd))) (zQ (zq cR (by rfl) T.n_isinstance zn (za (pv 0) (za (cW (v:=.ref 49) rfl xx.m_NoPart rfl) zd))) (zQ (zq cR (by rfl) T.n_isinstance zn (za (pv 0) (za (cW (v:=.ref 61) rfl xx.m_NoSet rfl) zd))) (zQ (zq cR (by rfl) T.n_isinstance zn (za (pv 0) (za (cW (v:=.ref 161) rfl xx.m_NoText rfl) zd))) n5)))))) (zf (zB (i:=1) mS.nd rfl lo (zy zI (pv 1) (n9 (zQ (zq cR (by rfl) T.n_isinstance zn (za (pv 0) (za (cW (v:=.ref 73) rfl xx.m_NoRow rfl) zd))) (zQ (zq cR (by rfl) T.n_isinstance zn (za (pv 0) (za (cW (v:=.ref 85) rfl xx.m_Unlike rfl) zd))) (zQ (zq cR (by rfl) T.n_isinstance zn (za (pv 0) (za (cW (v:=.ref 104) rfl xx.m_NoDrawing rfl) zd))) (zQ (zq cR (by rfl) T.n_isinstance zn (za (pv 0) (za (cW (v:=.ref 123) rfl xx.m_NoGap rfl) zd))) n5))))))) (zf (zB (i:=1) mS.nd rfl lo (zy zI (pv 1) (bA (za (zq cR (by rfl) T.n_isinstance zn (za (pv 0) (za (cW (v:=.ref 142) rfl xx.m_NoOffer rfl) zd))) (za (zq cR (by rfl) T.n_isinstance zn (za (pv 0) (za (cW (v:=.ref 180) rfl xx.m_TooGreat rfl) zd))) zd))))) (zf (bI (PW.pt (d9 (dQ (dZ (zq cR (by rfl) T.n_isinstance zn (za (pv 0) (za (dH rfl T.n_ValueError EF (v:=.ty "ValueError") rfl) zd))) (fun _=>rfl))) (iH (bH (gI hr.units) (iA PySem.F.plainAttrs_list PySem.F.slot_list_count PySem.F.type_list_count D7 (pv 1) (za cU zd)) ze (nomark _))))) (zj (zK aU)) bJ) (zf (zB (i:=2) mS.nd rfl lo (n9 (zQ aU (zQ aU (zQ aU (zQ aU (zQ aU (zQ aU (zQ aU (zQ aU (zQ aU (zQ aU n5)))))))))))) (zj (zK (aO aP (pv 2) (iA PySem.F.plainAttrs_list PySem.F.slot_list_index PySem.F.type_list_index (D8 hr.units) (pv 1) (za cU zd)) (fun _ _=>rfl))))))))),(zO (bQ (jD (zh (aY (cP xx.ex) (by walk_at "r")) (zh (aY (cP xx.ex) (by walk_at "r")) (zh (aY (cP xx.ex) (by walk_at "r")) (zh (aY (cP xx.ex) (by walk_at "r")) zw))))) zG) (zO (bQ (aE cK zm (jD (zh (aY (cP xx.ex) (by walk_at "r")) (zh (aY (cP xx.ex) (by walk_at "r")) (zh (aY (cP xx.ex) (by walk_at "r")) (zh (aY (cP xx.ex) (by walk_at "r")) zw)))))) zG) (zO (bQ (aE cK zm (jD (zh (aY (cP xx.ex) (by walk_at "r")) (zh (aY (cP xx.ex) (by walk_at "r")) zw)))) zG) (zO (fK (eO (eG (eF (aY (cP xx.ex) (by walk_at "r")))) (gN (aE iY (qD D1 zm (zh eK zw)) aV))) (cG lF) fJ) (zO (by walk_at "r") (cG (aE jE zm (qD AL zm (zh eK zw))))))))),fun xs S R q=>q⟩
theorem Dw:Df P w K mg base "_law_refused" ["drawing"] 5 (spN ["drawing"] nK):=by
 exact Df.dN dd.a18 yO 1 rfl fun f p A outer s H E hr=>⟨_,_,(zf (Ay (i:=1) (fun _ _ z=>z) rfl rfl yO.nd rfl rfl rfl xx.m_GaugeError xx.c_GaugeError (CV (EH FJ hr dz (fun _ _ z=>z) (za (pv 0) zd))) (fun _=>(zf (bI (PW.pt (d9 (bH (gI hr.units) (qW C5 (hr.suite _) dz (za (pv 1) zd)) aU (nomark _)) (d9 (dQ (dZ (qW vC (hr.suite _) dz (za (nW (pv 1) rfl) zd)) (fun _=>rfl))) (iH (dQ (dZ (qW vC (hr.suite _) dz (za (nW (pv 1) rfl) zd)) (fun _=>rfl))))))) (zj (zK cU)) bJ) (zj (zK (f9 (mH (dU hr.units) (nW (pv 1) rfl) (BT FE (hr.suite _) dz (za (pv 0) zd)) (nomark _)) (gX (mH (dU hr.units) (nW (pv 1) rfl) ze (nomark _))))))))) (zj (zK cU))),(zO (AK xx.ex rfl Dt (fun _ _ _ _=>rfl) (zh zm zw) (fun _=>BB (C6 (fK (eO (gN (aE iY (Cr rfl (zh zm zw)) lF)) (eO (eG (eF (bR (zh (oK xx.a_many zm) zw)))) (eG (eF (bR (zh (oK xx.a_most zm) zw)))))) (cG eK) fJ)) (BU (Ct (BX pP (yD (oK xx.a_many zm)) (C0 (uX (zh zm zw)))) (yD (aE pP (oK xx.a_most zm) aV)))))) (cG eK)),fun xs S R q=>q⟩
theorem Aw:Df P w K mg base "_law_tuple_of" ["found","due"] 2 (spN ["found","due"] oM):=by
 exact Df.dN dd.a19 C2 0 rfl fun f p A outer s H E hr=>⟨_,_,(zf (bI (PW.pt (d9 (dQ (dZ (zq dX (by rfl) T.n_isinstance zn (za (pv 0) (za (dH rfl T.n_tuple n6 (v:=.ty "tuple") rfl) zd))) (fun _=>rfl))) (iH (bH (gI hr.units) (zq fH (by rfl) T.n_len dS (za (pv 0) zd)) (zq fH (by rfl) T.n_len dS (za (pv 1) zd)) (nomark _))))) (zj (zK cU)) bJ) (zj (zK (f9 (zq (qA rfl) (by rfl) T.n_all pD (za (iX (fun _ _ h=>h) rfl (dY (L:=0) rfl rfl rfl rfl (N:=["number"]) (caps:=[none]) (by show c7 ["found","due"] (zg rV).names _ _ _=true;decide +kernel)) (eX (pv 0)) (fun _ _ _ _=>(zD (i:=0) (by show jp (["number"]:List Str);decide) rfl (gv rfl))) (fun _ _ _ _=>eJ) (fun _ _ _ _=>(zF w4 hr dz (za (pv 0) zd)))) zd)) (gX (mH (dU hr.units) (pv 0) (p7 vT (by rfl) T.n_tuple n6 (za (pv 1) zd)) (nomark _))))))),(zO (by walk_at "r") (cG (jZ (aY o0 (zh (hU (m3 zm) zG eA (bR (zh zm zw))) zw)) (by walk_at "r")))),fun xs S R q=>q⟩
theorem BN:Df P w K mg base "is_whole" ["thing"] 1 (spN ["thing"] oX):=by
 exact Df.dN dd.a20 FG 0 rfl fun f p A outer s H E hr=>⟨_,_,(zj (zK (f9 (zq dX (by rfl) T.n_isinstance zn (za (pv 0) (za (dH rfl T.n_int nL (v:=.ty "int") rfl) zd))) (gX (rM (zq dX (by rfl) T.n_isinstance zn (za (pv 0) (za (dH rfl T.n_bool rH (v:=.ty "bool") rfl) zd)))))))),(by walk_at "r"),fun xs S R q=>q⟩
theorem DK:Df P w K mg base "is_set" ["drawing","thing"] 2 (spN ["drawing","thing"] nZ):=by
 exact Df.dN dd.a21 Cg 0 rfl fun f p A outer s H E hr=>⟨_,_,(zf (bI (PW.pt (d9 (dQ (dZ (zq dX (by rfl) T.n_isinstance zn (za (pv 1) (za (dH rfl T.n_tuple n6 (v:=.ty "tuple") rfl) zd))) (fun _=>rfl))) (iH (bH (gI hr.units) (zq fH (by rfl) T.n_len dS (za (pv 1) zd)) (zq fH (by rfl) T.n_len dS (za (pv 0) zd)) (nomark _))))) (zj (zK cU)) bJ) (zj (zK (zq (qA rfl) (by rfl) T.n_all pD (za (iX (fun _ _ h=>h) rfl (dY (L:=0) rfl rfl rfl rfl (N:=["number","part"]) (caps:=[none,none]) (by show c7 ["drawing","thing"] (zg qN).names _ _ _=true;decide +kernel)) (wB rfl T.n_zip (za (pv 1) (za (pv 0) zd))) (fun _ _ _ _=>(kE (n:=2) rfl (bP (zD (i:=0) (by show jp (["number","part"]:List Str);decide) rfl (gv rfl)) (bP (zD (i:=1) (by show jp (["number","part"]:List Str);decide) rfl (gv rfl)) iG)))) (fun _ _ _ _=>eJ) (fun _ _ _ _=>(f9 (zF BN hr dz (za (pv 0) zd)) (gX (Av vU vU (aO aP (pv 1) ze (fun _ _=>rfl)) (pv 0) (aO aP (pv 1) ze (fun _ _=>rfl))))))) zd))))),(zO (by walk_at "r") (cG (aY o0 (zh (hU (tI (zh zm (zh zm zw))) (qV (nH zG (nH zG rZ))) eA (jZ (bR (zh zm zw)) (F5 pJ pJ (aE jE zm aV) zm (aE jE zm aV)))) zw)))),fun xs S R q=>q⟩
theorem ok_law{f:Addr}{fd:iq}(F:Fun K "law" "law" s_law f fd):FnOk P w K mg base CX0 6 f fd ["script"] (sp1 (sA K)):=by
 refine F.ok1 eW (fun v=>[some v,none,none,none,none,none,none,none]) (fun _=>rfl) fun z A outer s H v Q E hr h=>?_;obtain⟨a,ns,rfl,hS,p,q⟩:=h;refine⟨_,(zf (cV fx rfl (Eo (zy pM (bA (za (C3 FC hr dz (pv 0) ze) zd)) (iT sW (pv 0) (gB ze) (gB ze)))) (zD (i:=1) eW.nd rfl (gv rfl)) (zf (zB (i:=2) eW.nd rfl lo (zF AW hr dz (za (pv 1) zd))) (zf (zB (i:=3) eW.nd rfl (Or.inr rfl) (zF DH hr dz (za (pv 2) zd))) (zf (zB (i:=4) eW.nd rfl lo (zF FN hr dz (za (pv 3) zd))) (zf (cV fx rfl (gF rfl T.n_range (za ze zd)) (zD (i:=5) eW.nd rfl (gv rfl)) (zf (zB (i:=6) eW.nd rfl lo (zF EN hr dz (za (pv 3) zd))) (zf (bI (PW.pt (d9 (dQ (dZ (zq dX (by rfl) T.n_isinstance zn (za (pv 6) (za (dH rfl T.n_list tW (v:=.ty "list") rfl) zd))) (fun _=>rfl))) (d9 (bH (gI hr.units) (zq fH (by rfl) T.n_len dS (za (pv 6) zd)) (zq fH (by rfl) T.n_len dS (za (pv 4) zd)) (nomark _)) (iH (bH (gI hr.units) (zq fH (by rfl) T.n_len dS (za (pv 6) zd)) (zF kW hr dz (za (pv 3) zd)) (nomark _)))))) (zj (zK cU)) bJ) (zf (bI (dQ (dZ (zq (qA rfl) (by rfl) T.n_all pD (za (iX (fun _ _ h=>h) rfl (dY rfl rfl rfl rfl (N:=["one","other","drawing"]) (caps:=[none,none,some 3]) (by show c7 ["script","cell","pen","drawing","due","turn","found","great"] (zg s_law).names _ _ _=true;decide +kernel)) (wB rfl T.n_zip (za (pv 6) (za (pv 4) zd))) (fun _ _ _ _=>(BZ (K:=K) rfl (n:=2) rfl (bP (zD (i:=0) (by show jp (["one","other","drawing"]:List Str);decide) rfl (gv rfl)) (bP (zD (i:=1) (by show jp (["one","other","drawing"]:List Str);decide) rfl (gv rfl)) iG)))) (fun _ _ _ _=>eJ) (fun _ _ _ _=>(f9 (zF Aw hr dz (za (pv 0) (za (pv 1) zd))) (gX (mH DX (zF DK hr dz (za (pv 2) (za (pv 0) zd))) cU (nomark _)))))) zd)) (fun _=>rfl))) (zj (zK cU)) bJ) (zj (gD (iA PySem.F.plainAttrs_list PySem.F.slot_list_append PySem.F.type_list_append pX (pv 6) (za (eZ zd) zd)))))))) (zf (zB (i:=7) eW.nd rfl lo (zF D6 hr dz (za (pv 3) (za (pv 2) zd)))) (zj (bI (PW.pt (d9 (dQ (dZ (zF w4 hr dz (za (zF kW hr dz (za (pv 7) zd)) zd)) (fun _=>rfl))) (d9 (bH (gI hr.units) (zF kW hr dz (za (pv 7) zd)) (zF Eg hr dz (za (pv 7) zd)) (nomark _)) (iH (dQ (dZ (zF Dw hr dz (za (pv 7) zd)) (fun _=>rfl))))))) (zj (zK cU)) bJ)))))))) (zj (zK cU))),?_⟩;exact FP (m:=7) (db:=rP) (zO (bQ (bR (zh zm zw)) zG) (zO (bQ (m1 (i:=0) (zh zm zw)) zG) (zO (bQ (bR (zh zm zw)) zG) (zO (iJ (i6 (zh aV zw)) zG (zO (bQ (bR (zh zm zw)) zG) (zO (fK (eO (eG (eF (aY xV (zh zm (zh uN zw))))) (eO (gN (aE iY (aY nR (zh zm zw)) (aY nR (zh zm zw)))) (gN (aE iY (aY nR (zh zm zw)) (bR (zh zm zw)))))) (cG eK) fJ) (zO (fK (xK (eG (eF (aY o0 (zh (hU (tI (zh zm (zh zm zw))) (qV (nH zG (nH zG rZ))) eA (jZ (bR (zh zm (zh zm zw))) (aE Ed (bR (zh zm (zh zm zw))) eK))) zw))))) (cG eK) fJ) (lB (jO y0 zm (zh (rC zw) zw))))))) (zO (bQ (m1 (i:=1) (zh zm (zh zm zw))) zG) (fK (eO (eG (eF (bR (zh (bR (zh zm zw)) zw)))) (eO (gN (aE iY (bR (zh zm zw)) (bR (zh zm zw)))) (eG (eF (bR (zh zm zw)))))) (cG eK) fJ)))))) rfl rfl hS p (fun n=>Ey a n) dz fun _ H2 _=>q H2
end
end My
theorem Dq:L2.tabsG=[]:=rfl
namespace PySem.W.Fast
def tw9559821548821171114:Unit:=()
def tw6980406867792737038:Unit:=()
def tw16928270952231491925:Unit:=()
def tw9698087776703967017:Unit:=()
def tw14228874107467285235:Unit:=()
def tw16816472607136654946:Unit:=()
def tw14701192715184235645:Unit:=()
def tw928218064852515809:Unit:=()
def tw1264347962335902235:Unit:=()
def tw11567873544024091120:Unit:=()
def tw8797004058396897955:Unit:=()
def tw11337738890415168483:Unit:=()
def tw4370011333770597631:Unit:=()
def tw11219191151679822496:Unit:=()
def tw17325654145148320061:Unit:=()
def tw1449846671656476591:Unit:=()
def tw16457463092114492027:Unit:=()
def tw3976954647290742322:Unit:=()
def tw18058837725841993112:Unit:=()
def tw8003116517678108034:Unit:=()
def tw754730690656220272:Unit:=()
def tw15318768461642962662:Unit:=()
def tw14916882772709932957:Unit:=()
def tw13535420048391615731:Unit:=()
def tw17293778140433999137:Unit:=()
def tw8875265721772432255:Unit:=()
def tw4369347322665020149:Unit:=()
def tw6558416041607289000:Unit:=()
def tw12690350747302026857:Unit:=()
def tw3744901810661095916:Unit:=()
def tw5222351835590709703:Unit:=()
def tw7871557813710479540:Unit:=()
def tw5630849820829243153:Unit:=()
def tw10612224095818878165:Unit:=()
def tw14382144534292396815:Unit:=()
def tw17034691651843023856:Unit:=()
def tw8393958586899967396:Unit:=()
def tw13690634679686251388:Unit:=()
def tw13994012689064089543:Unit:=()
def tw6802469627148913055:Unit:=()
def tw9288328818585483594:Unit:=()
def tw18149348630700523507:Unit:=()
def tw8986747256577853177:Unit:=()
def tw1843374224819886740:Unit:=()
def tw10177224587099737506:Unit:=()
def tw17980074808897643947:Unit:=()
def tw4462016533523195131:Unit:=()
def tw16574653133631740062:Unit:=()
def tw16900691269254957521:Unit:=()
def tw18382889340166546123:Unit:=()
def tw6219250915851629940:Unit:=()
def tw7428228963789322524:Unit:=()
def tw11186443477458031253:Unit:=()
def tw2297456978588364473:Unit:=()
def tw12811875370209133077:Unit:=()
def tw11917871350314460394:Unit:=()
def tw16592961330613506325:Unit:=()
def tw4790013688347196117:Unit:=()
def tw5034634816408708250:Unit:=()
def tw12910259595981758634:Unit:=()
def tw4328093024986693502:Unit:=()
def tw2378418677068644960:Unit:=()
def tw5609816523730850971:Unit:=()
def tw5774676047215016471:Unit:=()
def tw10853914700444119102:Unit:=()
def tw3451823817888700231:Unit:=()
def tw10462908434682169530:Unit:=()
def tw15826734262343517507:Unit:=()
def tw5538344497063259057:Unit:=()
def tw2516691424117891210:Unit:=()
def tw2502439395113167777:Unit:=()
def tw486505996764490767:Unit:=()
def tw17383970539232121040:Unit:=()
def tw6319921249575386938:Unit:=()
def tw3955403242572564899:Unit:=()
def tw12143641722403318946:Unit:=()
def tw16186406437348259122:Unit:=()
def tw10647090381448930099:Unit:=()
def tw14335497420997483510:Unit:=()
def tw6873994852634839089:Unit:=()
def tw3152711054819815958:Unit:=()
def tw8531244329596803890:Unit:=()
def tw5252103345757500529:Unit:=()
def tw13989738080492933891:Unit:=()
def tw6811468393861623988:Unit:=()
def tw18299587940102904638:Unit:=()
def tw5448889679004800284:Unit:=()
def tw17593087285463139550:Unit:=()
def tw15280611059298280331:Unit:=()
def tw12014471643632665554:Unit:=()
def tw1924694762328930064:Unit:=()
def tw4712555425308114563:Unit:=()
def tw285424043787576643:Unit:=()
def tw12706774872998901236:Unit:=()
def tw10804776048650916917:Unit:=()
def tw1256838053685846682:Unit:=()
def tw2202606878229457856:Unit:=()
def tw1468983250397886186:Unit:=()
def tw17918759559788468907:Unit:=()
def tw17486942303679169895:Unit:=()
def tw7047231264572425730:Unit:=()
def tw885017118239923940:Unit:=()
def tw13401478024757557759:Unit:=()
def tw12072565850705100847:Unit:=()
def tw6190323633038897218:Unit:=()
def tw9084895015523781150:Unit:=()
def tw11462970877460506277:Unit:=()
def tw3697602153863158453:Unit:=()
def tw9101616919939303407:Unit:=()
def tw11670478225256057830:Unit:=()
def tw17594898706800971786:Unit:=()
def tw3746171721923171831:Unit:=()
def tw8971546429991581844:Unit:=()
def tw10901825807785665531:Unit:=()
def tw1871542009844238326:Unit:=()
def tw9257456522359288715:Unit:=()
def tw7973631126702425808:Unit:=()
def tw6779560017985572520:Unit:=()
def tw11926092320296380254:Unit:=()
def tw7987658840097475642:Unit:=()
def tw10204579115093295282:Unit:=()
def tw13295475692390343088:Unit:=()
def tw7957430001199888533:Unit:=()
def tw18180357042268328787:Unit:=()
def tw18206985898022882349:Unit:=()
def tw4554490014365326976:Unit:=()
def tw6712981740805353847:Unit:=()
def tw905480252594780949:Unit:=()
def tw12765532080294939261:Unit:=()
def tw7427596085990809105:Unit:=()
def tw5574342831322361470:Unit:=()
def tw14480095411354283305:Unit:=()
def tw14272564640935990448:Unit:=()
def tw18176006699800144613:Unit:=()
def tw4171183117647522133:Unit:=()
def tw602478490521847266:Unit:=()
def tw233387179187800981:Unit:=()
def tw12155102966584347298:Unit:=()
def tw10197681574316347474:Unit:=()
def tw6850871199869013832:Unit:=()
end PySem.W.Fast
open PySem PySem.W PyProof.Rows L2
set_option maxRecDepth 100000 in
set_option maxHeartbeats 0 in
theorem PySem.Challenge.cw_gaugewright_k07_whole_all_sets_holds : PySem.Challenge.rw_gaugewright_k07_whole_all_sets.Holds := by
 w_on;o_law;k_head;(case hw=>w_witness2)
 k_fill
 refine L2.walk_law (l := PySem.Challenge.rw_gaugewright_k07_whole_all_sets) (k := 6) rfl rfl ⟨rfl, by decide, by decide⟩ (fun w h Y => W.kIn_of Y) (fun w h Y => L2.TabsOk.none Dq) ?F
 case F=>
  intro w mg fa h KX G hmg;have d_law:Dd (L2.KOf KX) mg "law" My.s_law ["script"]:=by
   dsimp only[L2.KOf];refine' Dd.mk' KX G ?a ?l ?c ?k ?b
   (case a=>k_is);(case l=>k_is);(case c=>k_is);(case k=>k_is);(case b=>intro _ _ _ _ _ _ us hl;obtain⟨_,rfl⟩:=L2.len1 hl;rfl)
  have g13:∃t,mg "MOST_SETS" = some (.int 300 t):=by
   apply lz;apply li KX G
   k_is
  have T:My.Txt mg:=by
   refine' ⟨gq KX G ?z0,gq KX G ?z1,gq KX G ?z2,gq KX G ?z3,gq KX G ?z4,gq KX G ?z5,gq KX G ?z6,gq KX G ?z7,gq KX G ?z8,gq KX G ?z9,gq KX G ?z10,gq KX G ?z11,gq KX G ?z12,g13⟩
   (case z0=>k_is);(case z1=>k_is);(case z2=>k_is);(case z3=>k_is);(case z4=>k_is);(case z5=>k_is);(case z6=>k_is);(case z7=>k_is);(case z8=>k_is);(case z9=>k_is);(case z10=>k_is);(case z11=>k_is);(case z12=>k_is)
  have m24:mg "GaugeError" = some (.ref 24):=by
   apply li KX G
   k_is
  have c24:L2.ExCls (L2.KOf KX) 24 none:=by
   apply L2.exc_of_in;dsimp only[L2.KOf,L2.veB]
   k_exc
  have m37:mg "NoSpan" = some (.ref 37):=by
   apply li KX G
   k_is
  have k37:L2.ExK (L2.KOf KX) 37:=by
   dsimp only[L2.KOf];refine' L2.ExK.mk' ?a ?b ?c ?d ?e ?f
   (case a=>k_is);(case b=>k_is);(case c=>k_is);(case d=>k_is);(case e=>k_is);(case f=>rfl)
  have c37:L2.ExCls (L2.KOf KX) 37 none:=by
   apply L2.exc_of_in;dsimp only[L2.KOf,L2.veB]
   k_exc
  have m49:mg "NoPart" = some (.ref 49):=by
   apply li KX G
   k_is
  have k49:L2.ExK (L2.KOf KX) 49:=by
   dsimp only[L2.KOf];refine' L2.ExK.mk' ?a ?b ?c ?d ?e ?f
   (case a=>k_is);(case b=>k_is);(case c=>k_is);(case d=>k_is);(case e=>k_is);(case f=>rfl)
  have c49:L2.ExCls (L2.KOf KX) 49 none:=by
   apply L2.exc_of_in;dsimp only[L2.KOf,L2.veB]
   k_exc
  have m61:mg "NoSet" = some (.ref 61):=by
   apply li KX G
   k_is
  have k61:L2.ExK (L2.KOf KX) 61:=by
   dsimp only[L2.KOf];refine' L2.ExK.mk' ?a ?b ?c ?d ?e ?f
   (case a=>k_is);(case b=>k_is);(case c=>k_is);(case d=>k_is);(case e=>k_is);(case f=>rfl)
  have c61:L2.ExCls (L2.KOf KX) 61 none:=by
   apply L2.exc_of_in;dsimp only[L2.KOf,L2.veB]
   k_exc
  have m73:mg "NoRow" = some (.ref 73):=by
   apply li KX G
   k_is
  have k73:L2.ExK (L2.KOf KX) 73:=by
   dsimp only[L2.KOf];refine' L2.ExK.mk' ?a ?b ?c ?d ?e ?f
   (case a=>k_is);(case b=>k_is);(case c=>k_is);(case d=>k_is);(case e=>k_is);(case f=>rfl)
  have c73:L2.ExCls (L2.KOf KX) 73 none:=by
   apply L2.exc_of_in;dsimp only[L2.KOf,L2.veB]
   k_exc
  have m85:mg "Unlike" = some (.ref 85):=by
   apply li KX G
   k_is
  have k85:L2.ExK (L2.KOf KX) 85:=by
   dsimp only[L2.KOf];refine' L2.ExK.mk' ?a ?b ?c ?d ?e ?f
   (case a=>k_is);(case b=>k_is);(case c=>k_is);(case d=>k_is);(case e=>k_is);(case f=>rfl)
  have c85:L2.ExCls (L2.KOf KX) 85 none:=by
   apply L2.exc_of_in;dsimp only[L2.KOf,L2.veB]
   k_exc
  have m104:mg "NoDrawing" = some (.ref 104):=by
   apply li KX G
   k_is
  have k104:L2.ExK (L2.KOf KX) 104:=by
   dsimp only[L2.KOf];refine' L2.ExK.mk' ?a ?b ?c ?d ?e ?f
   (case a=>k_is);(case b=>k_is);(case c=>k_is);(case d=>k_is);(case e=>k_is);(case f=>rfl)
  have m123:mg "NoGap" = some (.ref 123):=by
   apply li KX G
   k_is
  have k123:L2.ExK (L2.KOf KX) 123:=by
   dsimp only[L2.KOf];refine' L2.ExK.mk' ?a ?b ?c ?d ?e ?f
   (case a=>k_is);(case b=>k_is);(case c=>k_is);(case d=>k_is);(case e=>k_is);(case f=>rfl)
  have m142:mg "NoOffer" = some (.ref 142):=by
   apply li KX G
   k_is
  have k142:L2.ExK (L2.KOf KX) 142:=by
   dsimp only[L2.KOf];refine' L2.ExK.mk' ?a ?b ?c ?d ?e ?f
   (case a=>k_is);(case b=>k_is);(case c=>k_is);(case d=>k_is);(case e=>k_is);(case f=>rfl)
  have m161:mg "NoText" = some (.ref 161):=by
   apply li KX G
   k_is
  have k161:L2.ExK (L2.KOf KX) 161:=by
   dsimp only[L2.KOf];refine' L2.ExK.mk' ?a ?b ?c ?d ?e ?f
   (case a=>k_is);(case b=>k_is);(case c=>k_is);(case d=>k_is);(case e=>k_is);(case f=>rfl)
  have m180:mg "TooGreat" = some (.ref 180):=by
   apply li KX G
   k_is
  have k180:L2.ExK (L2.KOf KX) 180:=by
   dsimp only[L2.KOf];refine' L2.ExK.mk' ?a ?b ?c ?d ?e ?f
   (case a=>k_is);(case b=>k_is);(case c=>k_is);(case d=>k_is);(case e=>k_is);(case f=>rfl)
  have sp:L2.SpK (L2.KOf KX):=by
   dsimp only[L2.KOf];refine' ⟨?a,?b⟩
   (case a=>k_is);(case b=>k_is)
  have i37:∃ini,L2.ExCls (L2.KOf KX) 37 ini:=⟨_,c37⟩;have i49:∃ini,L2.ExCls (L2.KOf KX) 49 ini:=⟨_,c49⟩;have i61:∃ini,L2.ExCls (L2.KOf KX) 61 ini:=⟨_,c61⟩;have i73:∃ini,L2.ExCls (L2.KOf KX) 73 ini:=⟨_,c73⟩;have i85:∃ini,L2.ExCls (L2.KOf KX) 85 ini:=⟨_,c85⟩;have i104:∃ini,L2.ExCls (L2.KOf KX) 104 ini:=by
   apply lz;refine' L2.exc_ofI ?l ?o ?s ?i c24
   (case l=>dsimp only[L2.KOf];k_is);(case o=>dsimp only[L2.KOf];k_is);(case s=>rfl);(case i=>dsimp only[L2.KOf];k_is)
  have i123:∃ini,L2.ExCls (L2.KOf KX) 123 ini:=by
   apply lz;refine' L2.exc_ofI ?l ?o ?s ?i c24
   (case l=>dsimp only[L2.KOf];k_is);(case o=>dsimp only[L2.KOf];k_is);(case s=>rfl);(case i=>dsimp only[L2.KOf];k_is)
  have i142:∃ini,L2.ExCls (L2.KOf KX) 142 ini:=by
   apply lz;refine' L2.exc_ofI ?l ?o ?s ?i c24
   (case l=>dsimp only[L2.KOf];k_is);(case o=>dsimp only[L2.KOf];k_is);(case s=>rfl);(case i=>dsimp only[L2.KOf];k_is)
  have i161:∃ini,L2.ExCls (L2.KOf KX) 161 ini:=by
   apply lz;refine' L2.exc_ofI ?l ?o ?s ?i c24
   (case l=>dsimp only[L2.KOf];k_is);(case o=>dsimp only[L2.KOf];k_is);(case s=>rfl);(case i=>dsimp only[L2.KOf];k_is)
  have i180:∃ini,L2.ExCls (L2.KOf KX) 180 ini:=by
   apply lz;refine' L2.exc_ofI ?l ?o ?s ?i c24
   (case l=>dsimp only[L2.KOf];k_is);(case o=>dsimp only[L2.KOf];k_is);(case s=>rfl);(case i=>dsimp only[L2.KOf];k_is)
  have n180_many:L2.NoAttr (L2.KOf KX) 180 "many":=by
   unfold L2.NoAttr;dsimp only[L2.KOf]
   k_is
  have n180_most:L2.NoAttr (L2.KOf KX) 180 "most":=by
   unfold L2.NoAttr;dsimp only[L2.KOf]
   k_is
  have e180:L2.ExI (L2.KOf KX) 180:=by
   refine' ⟨k180,?b,?c⟩
   (case b=>dsimp only[L2.KOf];k_is);(case c=>dsimp only[L2.KOf];k_is)
  have r180:L2.XI (L2.KOf KX) 180 ["many","most"] "TooGreat.__init__" My.s_I_TooGreat:=by
   refine' L2.XI.mk' ?l ?o ?s ?i c24 ?t ?f ?c ?k ?b ?kc k180 e180.hd e180.sa ?na
   (case l=>dsimp only[L2.KOf];k_is);(case o=>dsimp only[L2.KOf];k_is);(case s=>rfl);(case i=>dsimp only[L2.KOf];k_is);(case t=>dsimp only[L2.KOf];k_is);(case f=>dsimp only[L2.KOf];k_is);(case c=>dsimp only[L2.KOf];k_is);(case k=>dsimp only[L2.KOf];k_is);(case b=>intro _ _ _ _ _ _ us hl;obtain⟨_,_,_,rfl⟩:=L2.len3 hl;rfl);(case kc=>dsimp only[L2.KOf];k_is)
   (case na=>intro a m;simp only[gy,fi,or_false]at m;rcases m with rfl|rfl<;>assumption)
  have a_many:L2.ExsI (L2.KOf KX) [180] "many":=by
   refine⟨fun C m=>?_,fun C m=>?_⟩
   ·simp only[gy,fi,or_false]at m;rcases m with rfl<;>assumption
   ·simp only[gy,fi,or_false]at m;rcases m with rfl<;>assumption
  have a_most:L2.ExsI (L2.KOf KX) [180] "most":=by
   refine⟨fun C m=>?_,fun C m=>?_⟩
   ·simp only[gy,fi,or_false]at m;rcases m with rfl<;>assumption
   ·simp only[gy,fi,or_false]at m;rcases m with rfl<;>assumption
  have ex:L2.Exs (L2.KOf KX):=by
   refine⟨sp,fun C m=>?_,fun C m=>?_,fun C m=>?_⟩
   ·simp only[L2.excs,gy,fi,or_false]at m;rcases m with rfl|rfl|rfl|rfl|rfl|rfl|rfl|rfl|rfl|rfl<;>assumption
   ·simp only[L2.exc0,gy,fi,or_false]at m;rcases m with rfl|rfl|rfl|rfl|rfl<;>assumption
   ·simp only[L2.excs,gy,fi,or_false]at m;rcases m with rfl|rfl|rfl|rfl|rfl|rfl|rfl|rfl|rfl|rfl<;>assumption
  have xx:My.Exx (L2.KOf KX) mg:=⟨ex,m24,m37,m49,m61,m73,m85,m104,m123,m142,m161,m180,c24,c37,c49,c61,c73,c85,r180,a_many,a_most⟩;have dd:My.Dds (L2.KOf KX) mg:=by constructor<;>(dsimp only[L2.KOf];refine' Dd.mk' KX G ?a ?l ?c ?k ?b;(case a=>k_is);(case l=>k_is);(case c=>k_is);(case k=>k_is);(case b=>(intro _ _ _ _ _ _ us hl;first|(obtain⟨_,rfl⟩:=L2.len1 hl;rfl)|(obtain⟨_,_,rfl⟩:=L2.len2 hl;rfl))))
  obtain⟨f,fd,F,hm,_⟩:=d_law.ex;have e0:=hmg.symm.trans hm;cases e0;exact⟨fd,F.bind1 fun _ _ _ _ _ _ _=>rfl,fun base _ _=>My.ok_law T dd xx F⟩
#print axioms PySem.Challenge.cw_gaugewright_k07_whole_all_sets_holds
end