import PyProof.Rows.All
import Wide.All
import OpenK.AllK
import Wide.FinOn
import Lean
import PyProof.EqAt
import PyProof.EqKinds
import PyProof.TupleCall
import KE.KTupSum
import KE.KSortTup
import PyProof.SetKind
import PyProof.SetRoads
import PyProof.SetNew
import PyProof.DictKinds
import PyProof.NsDelKeeps
import PyProof.StrWalks
import KE.KEqDict
import KE.KDictList
import PyProof.AttrMissSeq
import PyProof.WalksMore
import KE.KDictOf
import PyProof.Rows.Range3
import KE.KItemsList
import PyProof.FactsAll.dict_3
import KE.KMinKey
import PyProof.Rows.CallKwBuiltin
import PyProof.TupleOfSeq
import KE.KLam
import KE.KNestM
import PyProof.Rows.StrNews
import KE.KIntText
import PyProof.TupleKey
import PyProof.DictFindH
import PyProof.DictRoadsH
import PyProof.DictItems
import PyProof.Rows.TupTab
import Wide.Seal
import PyProof.DictValues
import PyProof.Rows.SortRev
import PySem.Challenge.RW_gaugewright_k48_matched_gone_through
open Array renaming length_toList→jz
open Bool renaming false_ne_true→fh,and_eq_true→fu,false_eq_true→ia,eq_iff_iff→jg
open False renaming elim→iq
open ForInStep renaming yield→je
open Int renaming toNat_natCast→jn
open List renaming replicate→az,mem_append_left→ba,mem_cons_of_mem→bc,mem_append_right→bd,getElem?_eq_getElem→bg,getElem?_concat_length→bi,mem_cons_self→bn,length_map→bo,length_cons→br,size_toArray→bv,length_append→bx,getD_eq_getElem?_getD→bz,mem_of_getElem?→cf,map_cons→ck,getElem?_append_left→cn,range→cp,append_assoc→cu,eq_nil_of_length_eq_zero→dq,map_append→dw,getElem?_map→eg,length_singleton→fe,append_nil→fy,length_range→gh,replicate_succ→gi,drop_eq_getElem_cons→gj,nodup_nil→gn,Nodup→gt,lookup_cons→gw,getElem?_cons_succ→ib,getElem?_append_right→ic,filter_sublist→im,mem_map_of_mem→io,nodup_cons→iu,nodup_append→ix,getElem?_cons_zero→iy,map_map→jb,getElem?_set_self→jj,find?_cons_of_neg→jo,mem_cons→jr,not_mem_nil→jt,map_congr_left→ju,flatten_cons→jx,length_filter_le→jy,getElem?_set_ne→ke,find?_cons→km,length_take→ko
open Nat renaming le_refl→bp,lt_of_lt_of_le→cz,le_trans→dm,ne_of_lt→ff,le_of_lt→gu,lt_irrefl→jh,zero_le→kh
open Ne renaming symm→fw
open Option.some renaming inj→eo
open Or renaming inl→fk
open PyProof.Rows renaming IntsAre→gg,envOfC→ku
open PySem renaming Value→au,PyData→av,wpAny_bind→aw,Shared→ax,sizeLine→be,wpAny→bh,wpAny_pure→bj,Program→ca,starEach→cq,World→cy,bootBuiltins→dh,Around→ef,compareOp→fj,wpAny_holding→fv,wpAny_truthy_bool→fx,wpAny_newObj_type→ga,wpAny_field→gd,binaryOp→gf,wpAny_callSpecial?_slot→gk,sysModules→gq,mainGlobals→gv,wpAny_ite_false→ie,NameKind→ii,assignEach→ik,wpAny_setField_rec→iz,cLine→jc,FuncData→jd,wpAny_pyIter_list→jk,argBest→jp,wpAny_call_entry→jw,plainId_quiet→kc,wpAny_passesOwn→kf,codeAny_builtin→ki,wpAny_mono→kj,sliceBounds→kq,backTo→kr
open PySem.Around renaming under_plainId→ij
open PySem.Builtin.SmallTypes renaming nextOf→fb
open PySem.F renaming plain_min_loop→gx
open PySem.Heap renaming get?_push_of_some→bb,get?_push_size→bw,lt_size→cr,SameBut→fg,get?_update_other→gm
open PySem.Obj renaming mapSeq→kw
open PySem.PassesOwn renaming never→fi
open PySem.PyData renaming int→bq,canLayAll0→gp,canLay0→gz,eqv→iw,depthAll→jf
open PySem.SeqAt renaming shaped→cg,canLay_of_shaped→dn
open PySem.Value renaming ref→cw,none→jq,int→jv
open PySem.W renaming Frag→bf,mg_none_of→fq,kia_one→ji
open True renaming intro→ir
def bu:=@if_neg
def cb:=@if_pos
def ci:=@decide_eq_false
def fc:=@decide_eq_true
def ig:=@of_decide_eq_true
theorem yw{p:Prop}(h:p:=by omega):p:=h
theorem yv{p:Prop}(h:p:=by simp):p:=h
open Option (isSome_iff_exists isSome_map map_eq_some_iff map_some)
open Nat (le_of_lt le_refl le_succ le_trans lt_irrefl lt_of_lt_of_le mul_comm mul_le_mul ne_of_gt ne_of_lt zero_add zero_le)
open List (all_cons all_eq_true any_cons any_eq_true any_map append_assoc append_inj_left' append_nil cons_append drop_eq_getElem_cons drop_length eq_nil_of_length_eq_zero find?_cons find?_cons_of_neg find?_some flatMap_cons flatten_cons getD_eq_getElem?_getD getElem?_append_left getElem?_append_right getElem?_concat_length getElem?_cons_succ getElem?_cons_zero getElem?_eq_getElem getElem?_eq_none getElem?_map getElem?_set_ne getElem?_set_self getElem_mem length_append length_cons length_drop length_filter_le length_map length_nil length_range length_set length_singleton length_take lookup_cons map_append map_congr_left map_cons map_id' map_map map_nil mem_append mem_append_left mem_append_right mem_cons mem_cons_of_mem mem_cons_self mem_filter mem_iff_getElem? mem_map mem_map_of_mem mem_of_getElem? mem_range mem_singleton nil_append nodup_append nodup_cons nodup_nil not_mem_nil of_mem_zip range_succ replicate_succ set_cons_succ set_cons_zero size_toArray take_length take_zero)
open PySem.Heap (get?_push_of_some get?_push_size get?_update_other get?_update_self lt_size size_push)
open Array (length_toList)
theorem dz{p:Prop}[Decidable p](h:decide p=true:=by rfl):p:=ig h
set_option Elab.async false
set_option linter.all false
set_option maxRecDepth 100000
set_option maxHeartbeats 8000000
noncomputable section
namespace L2
open PySem PySem.Spec PyProof.Rows
section
abbrev Key:=Sum Int Str
def hV:Key->au->Bool
 | .inl k,v=>Value.isInt k v
 | .inr x,v=>Value.isStrOf x v
def FM(w:cy):Key->Int
 | .inl k=>hashInt k
 | .inr x=>hashStr w x
theorem zQ:∀{k:Key}{v:au},hV k v=true->(∃i t,k=Sum.inl i/\v=jv i t)\/(∃x t,k=Sum.inr x/\v=Value.str x t)
 | .inl i,v,h=>by
  obtain⟨t,e⟩:=Value.isInt_shape (k:=i) (v:=v) h;exact .inl ⟨i,t,rfl,e⟩
 | .inr x,v,h=>by
  obtain⟨t,e⟩:=Value.isStrOf_shape (x:=x) (v:=v) h;exact .inr ⟨x,t,rfl,e⟩
theorem B2(i:Int)(t:Tok):hV (.inl i) (.int i t)=true:=by simp[hV,Value.isInt]
theorem Cd(x:Str)(t:Tok):hV (.inr x) (.str x t)=true:=by simp[hV,Value.isStrOf]
theorem BR(a b:Int):decide ((Sum.inl a:Key)=Sum.inl b)=(a==b):=by
 by_cases e:a=b
 ·subst e;simp
 ·have h:¬(Sum.inl a:Key)=Sum.inl b:=fun q=>e (Sum.inl.inj q);rw[ci h];exact(beq_eq_false_iff_ne.mpr e).symm
theorem FJ(a b:Str):decide ((Sum.inr a:Key)=Sum.inr b)=decide (a=b):=by
 by_cases e:a=b
 ·subst e;simp
 ·have h:¬(Sum.inr a:Key)=Sum.inr b:=fun q=>e (Sum.inr.inj q);rw[ci h,ci e]
theorem C4(a:Int)(b:Str):decide ((Sum.inl a:Key)=Sum.inr b)=false:=ci (fun q=>nomatch q)
theorem BI(a:Str)(b:Int):decide ((Sum.inr a:Key)=Sum.inl b)=false:=ci (fun q=>nomatch q)
def zZ(prog:ca)(w:cy):PySem.KeyKind prog w Key where
 is:=hV
 hash:=FM w
 inj:=fun v a b ha hb=>by
  rcases zQ ha with ⟨i,t,rfl,rfl⟩|⟨x,t,rfl,rfl⟩
  ·rcases zQ hb with ⟨j,u,rfl,e⟩|⟨y,u,rfl,e⟩
   ·injection e with e1 _;rw[e1]
   ·exact nomatch e
  ·rcases zQ hb with ⟨j,u,rfl,e⟩|⟨y,u,rfl,e⟩
   ·exact nomatch e
   ·injection e with e1 _;rw[e1]
 byValue:=fun k v h=>by
  rcases zQ h with ⟨i,t,rfl,rfl⟩|⟨x,t,rfl,rfl⟩<;>rfl
 pyHash:=fun hv h=>by
  rcases zQ hv with ⟨i,t,rfl,rfl⟩|⟨x,t,rfl,rfl⟩
  ·exact wpAny_pyHash_int h
  ·exact wpAny_pyHash_str h
 eqBool:=fun hu hv h=>by
  rcases zQ hu with ⟨i,t,rfl,rfl⟩|⟨x,t,rfl,rfl⟩
  ·rcases zQ hv with ⟨j,u,rfl,rfl⟩|⟨y,u,rfl,rfl⟩
   ·rw[BR]at h;exact wpAny_eqBool_int h
   ·rw[C4]at h;exact SeqAt.EqAt.int_str i t y u _ _ _ _ h
  ·rcases zQ hv with ⟨j,u,rfl,rfl⟩|⟨y,u,rfl,rfl⟩
   ·rw[BI]at h;exact SeqAt.EqAt.str_int x t j u _ _ _ _ h
   ·rw[FJ]at h;exact wpAny_eqBool_str h
 «strs»:=fun k x t v h=>by
  rcases zQ h with ⟨i,u,rfl,e⟩|⟨y,u,rfl,e⟩
  ·exact nomatch e
  ·injection e with e1 _
   subst e1;cases v<;>rfl
theorem Az(prog:ca)(w:cy)(i:Int)(t:Tok):(zZ prog w).is (.inl i) (.int i t)=true:=B2 i t
theorem Cf(prog:ca)(w:cy)(x:Str)(t:Tok):(zZ prog w).is (.inr x) (.str x t)=true:=Cd x t
end
section
inductive V where
 |non|bl (b:Bool)|int (i:Int)|str (x:Str)|byt (b:Array UInt8)|flt (b:UInt64)|ref (a:Addr)|ty (n:String)
 deriving DecidableEq
def RelV:V->au->Prop
 | .non,u=>u=jq
 | .bl b,u=>u=Value.bool b
 | .int i,u=>∃t,u=jv i t
 | .str x,u=>∃t,u=Value.str x t
 | .byt b,u=>∃t,u=Value.bytes b t
 | .flt b,u=>∃t,u=Value.float b t
 | .ref a,u=>u=cw a
 | .ty n,u=>u=Value.type n
abbrev Vals:List V->List au->Prop:=Paired RelV
theorem Vals.length{xs:List V}{us:List au}(r:Vals xs us):xs.length=us.length:=Paired.length r
theorem Vals.get:∀{xs:List V}{us:List au}{i:Nat}{x:V},Vals xs us->xs[i]?=some x->∃u,us[i]?=some u/\RelV x u
 |_,_,_,_,.nil,e=>by simp at e
 |_,_,0,_,.cons r _,e=>by simp at e;subst e;exact⟨_,rfl,r⟩
 |_,_,i+1,x,.cons _ t,e=>by
  obtain⟨u,h1,h2⟩:=Vals.get (i:=i) (x:=x) t (by simpa using e);exact⟨u,by simpa using h1,h2⟩
theorem Vals.set{x:V}{u:au}(r:RelV x u):∀{xs:List V}{us:List au} (i:Nat),Vals xs us->Vals (xs.set i x) (us.set i u)
 |_,_,_,.nil=>.nil
 |_,_,0,.cons _ t=>.cons r t
 |_,_,i+1,.cons q t=>.cons q (Vals.set r i t)
theorem Vals.append:∀{xs ys:List V}{us ws:List au},Vals xs us->Vals ys ws->Vals (xs++ys) (us++ws)
 |_,_,_,_,.nil,s=>s
 |_,_,_,_,.cons r t,s=>.cons r (Vals.append t s)
theorem Vals.take:∀{xs:List V}{us:List au} (n:Nat),Vals xs us->Vals (xs.take n) (us.take n)
 |_,_,0,_=>.nil
 |_,_,_+1,.nil=>.nil
 |_,_,n+1,.cons r t=>.cons r (Vals.take n t)
theorem Vals.drop:∀{xs:List V}{us:List au} (n:Nat),Vals xs us->Vals (xs.drop n) (us.drop n)
 |_,_,0,r=>r
 |_,_,_+1,.nil=>.nil
 |_,_,n+1,.cons _ t=>Vals.drop n t
def RelO:Option V->Option au->Prop
 |some v,some u=>RelV v u
 |none,none=>True
 |_,_=>False
def KV{κ:Type}:List (κ×V)->List (κ×au)->Prop:=Paired fun(p:κ×V) (q:κ×au)=>p.1=q.1/\RelV p.2 q.2
def kV:Key->V
 | .inl i=>.int i
 | .inr x=>.str x
inductive HO where
 |lst (xs:List V)
 |tup (xs:List V)
 |dK (kvs:List (Key×V))|dT (kvs:List (List Key×V))
 |set (S:Int->Bool) (n:Nat)
 |ins (C dx:Addr) (fs:List (Str×V))
 |own (x:Addr)
 |xd (fs:List (Str×V))
 |met (f x:Addr)
 |rng (lo hi:Int)
 |frz (o:Obj) (u:HO)
 |tbl (ps:Array au)
 |ext (φ:Heap->Prop)
abbrev Hp:=Addr->Option HO
def upd(H:Hp)(a:Addr)(o:HO):Hp:=fun b=>if b=a then some o else H b
theorem zH{H:Hp}{a:Addr}{o:HO}:upd H a o a=some o:=by unfold upd;rw[cb rfl]
theorem zp{H:Hp}{a b:Addr}{o:HO}(h:b≠a):upd H a o b=H b:=by unfold upd;rw[bu h]
theorem Fu{H:Hp}{a b:Addr}{o u:HO}(h:H a=some o)(h':H b=some u)(d:o≠u):a≠b:=by
 intro e;subst e;rw[h]at h';exact d (eo h')
theorem zx{H:Hp}{a b:Addr}{o:HO}(h:H a=some o)(h':H b=none):a≠b:=by
 intro e;subst e;rw[h]at h';cases h'
def TblOk(H:Hp)(ps qs:Array au):Prop:=qs = #[]\/∃(l c:au) (q:Str) (t:Tok) (k:Addr) (oc:Obj) (vs:Array au) (t':Tok),ps = #[l,c,.str q t]/\qs = #[l,c,.ref k]/\H k=some (.frz oc (.own 0))/\oc.data=.fields vs/\vs[1]?=some (.str q t')
theorem TblOk.stay{H H':Hp}{ps qs:Array au}(x:TblOk H ps qs)(hf:∀b o u,H b=some (.frz o u)->H' b=some (.frz o u)):TblOk H' ps qs:=by
 rcases x with x|⟨l,c,q,t,k,oc,vs,t',e1,e2,e3,r⟩
 ·exact .inl x
 ·exact .inr ⟨l,c,q,t,k,oc,vs,t',e1,e2,hf _ _ _ e3,r⟩
section
variable (P:ca) (w:cy)
def ObjOk(H:Hp)(h:Heap)(a:Addr):HO->Prop
 | .lst xs=>xs.length<=be/\∃(its:List au) (n:Nat),Vals xs its/\h.get? a=some { cls:=.type "list",data:=.seq its.toArray n }
 | .tup xs=>(xs.length<=be/\∃o:Obj,h.get? a=some o/\o.dict=none)/\∃its:List au,Vals xs its/\IsTup h a its.toArray
 | .dK kvs=>kvs.length<=be/\(a==gq)=false/\∃vs,KV kvs vs/\h.DictOf (zZ P w) a vs
 | .dT kvs=>kvs.length<=be/\(a==gq)=false/\∃xs:List (List Key×Addr×au),
   Paired (fun(p:List Key×V) (q:List Key×Addr×au)=>p.1=q.1/\H q.2.1=some (.tup (p.1.map kV))/\RelV p.2 q.2.2) kvs xs /\
   ∃o es ep,h.get? a=some o/\o.ExactDict/\o.data=.dict es ep/\es.toList=xs.map (entryOfKey (tupleKind (zZ P w)))/\(xs.map (·.1)).Nodup
 | .set S n=>h.SetOf (intKind P w) a S n
 | .ins C dx fs=>H dx=some (.own a)/\fs.length<=1000/\dx≠a/\h.get? a=some (W.instObj C dx) /\
   ∃mA,h.Ns1 dx mA/\(∀f,RelO (fs.lookup f) (mA f))/\PySem.Within mA (fs.map (·.1))
 | .own _=>∃o,h.get? a=some o
 | .xd fs=>∃mA,h.Ns1 a mA/\∀f,RelO (fs.lookup f) (mA f)
 | .rng lo hi=>∃t u v,h.get? a=some { cls:=.type "range",data:=.fields #[.int lo t,.int hi u,.int 1 v] }
 | .frz o u=>h.get? a=some o/\ObjOk H h a u
 | .tbl ps=>∃qs:Array au,h.get? a=some { cls:=.none,data:=.fields qs }/\TblOk H ps qs
 | .met f x=>h.get? a=some (W.methodObj (.ref f) (.ref x))
 | .ext φ=>φ h/\(∃o,h.get? a=some o)/\∀h1 h2:Heap,φ h1->(∀o,h1.get? a=some o->h2.get? a=some o)->φ h2
def HOk(H:Hp)(h:Heap):Prop:=∀a o,H a=some o->ObjOk P w H h a o
end
section
variable {P:ca}{w:cy}{H H':Hp}{h h':Heap}{a:Addr}{o:HO}
theorem ObjOk.lt(x:ObjOk P w H h a o):a<h.objs.size:=by
 cases o with
 |lst xs=>obtain⟨_,_,_,_,e⟩:=x;exact cr e
 |tup xs=>obtain⟨_,_,_,p⟩:=x;exact p.lt
 |dK kvs=>obtain⟨_,_,_,_,o,_,_,e,_⟩:=x;exact cr e
 |dT kvs=>obtain⟨_,_,_,_,o,_,_,e,_⟩:=x;exact cr e
 |set S n=>obtain⟨o,_,_,_,e,_⟩:=x;exact cr e
 |ins C dx fs=>obtain⟨_,_,_,e,_⟩:=x;exact cr e
 |own y=>obtain⟨_,e⟩:=x;exact cr e
 |xd fs=>obtain⟨_,⟨_,_,_,e,_⟩,_⟩:=x;exact cr e
 |rng lo hi=>obtain⟨_,_,_,e⟩:=x;exact cr e
 |frz ob u=>obtain⟨e,_⟩:=x;exact cr e
 |tbl ps=>obtain⟨_,e,_⟩:=x;exact cr e
 |met f y=>exact cr (show h.get? a=some _ from x)
 |ext φ=>obtain⟨_,⟨_,e⟩,_⟩:=x;exact cr e
theorem Paired.mapP{α β:Type}{F G:α->β->Prop}:∀{l₁:List α}{l₂:List β},Paired F l₁ l₂->(∀a b,F a b->G a b)->Paired G l₁ l₂
 |_,_,.nil,_=>.nil
 |_,_,.cons r t,f=>.cons (f _ _ r) (Paired.mapP t f)
theorem ObjOk.stay(x:ObjOk P w H h a o)(k:∀b u,(b=a\/H b=some (.own a))->h.get? b=some u->h'.get? b=some u)
  (ho:∀b,H b=some (.own a)->H' b=some (.own a)) (ht:∀b xs,H b=some (.tup xs)->H' b=some (.tup xs))
  (hf:∀b o u,H b=some (.frz o u)->H' b=some (.frz o u):=by first|exact fun _ _ _ q=>q|(intro b o u q;rw[zp (zx q (by assumption))];exact q)):ObjOk P w H' h' a o:=by
 induction o with
 |lst xs=>obtain⟨z,aa,n,r,e⟩:=x;exact⟨z,aa,n,r,k _ _ (.inl rfl) e⟩
 |tup xs=>obtain⟨⟨z,o2,e2,d2⟩,aa,r,ob,e,c⟩:=x;exact⟨⟨z,o2,k _ _ (.inl rfl) e2,d2⟩,aa,r,ob,k _ _ (.inl rfl) e,c⟩
 |dK kvs=>obtain⟨z,y,vs,r,ob,es,ep,e,c⟩:=x;exact⟨z,y,vs,r,ob,es,ep,k _ _ (.inl rfl) e,c⟩
 |dT kvs=>
  obtain⟨z,y,xs,r,ob,es,ep,e,c⟩:=x;exact⟨z,y,xs,Paired.mapP r fun p q z=>⟨z.1,ht _ _ z.2.1,z.2.2⟩,ob,es,ep,k _ _ (.inl rfl) e,c⟩
 |set S n=>obtain⟨ob,es,ep,t,e,c⟩:=x;exact⟨ob,es,ep,t,k _ _ (.inl rfl) e,c⟩
 |ins C dx fs=>
  obtain⟨d,z,ne,e,mA,⟨od,es,ep,e2,c⟩,r⟩:=x;exact⟨ho _ d,z,ne,k _ _ (.inl rfl) e,mA,⟨od,es,ep,k _ _ (.inr d) e2,c⟩,r⟩
 |own y=>obtain⟨ob,e⟩:=x;exact⟨ob,k _ _ (.inl rfl) e⟩
 |xd fs=>obtain⟨mA,⟨od,es,ep,e,c⟩,r⟩:=x;exact⟨mA,⟨od,es,ep,k _ _ (.inl rfl) e,c⟩,r⟩
 |rng lo hi=>obtain⟨t,u,v,e⟩:=x;exact⟨t,u,v,k _ _ (.inl rfl) e⟩
 |frz ob u ih=>obtain⟨e,q⟩:=x;exact⟨k _ _ (.inl rfl) e,ih q⟩
 |tbl ps=>
  obtain⟨qs,e,q⟩:=x;exact⟨qs,k a _ (.inl rfl) e,q.stay hf⟩
 |met f y=>
  have e:h.get? a=some (W.methodObj (.ref f) (.ref y)):=x;show h'.get? a=some (W.methodObj (.ref f) (.ref y));exact k a _ (.inl rfl) e
 |ext φ=>obtain⟨p,⟨o,e⟩,st⟩:=x;exact⟨st _ _ p fun o q=>k _ _ (.inl rfl) q,⟨o,k _ _ (.inl rfl) e⟩,st⟩
theorem HOk.lt(x:HOk P w H h)(e:H a=some o):a<h.objs.size:=(x a o e).lt
theorem HOk.fresh(x:HOk P w H h)(e:h.objs.size<=a):H a=none:=by
 cases q:H a with
 |none=>rfl
 |some u=>exact absurd (cz (x.lt q) e) (jh _)
theorem HOk.kept(x:HOk P w H h)(k:∀b u,h.get? b=some u->h'.get? b=some u):HOk P w H h':=fun a o e=>
 (x a o e).stay (fun b u _ q=>k b u q) (fun _ q=>q) fun _ _ q=>q
theorem HOk.laid(x:HOk P w H h)(k:∀b u,h.get? b=some u->h'.get? b=some u)(hp:h.objs.size<=a)(p:ObjOk P w (upd H a o) h' a o):HOk P w (upd H a o) h':=fun b u e=>by
 have hn:=x.fresh hp;by_cases hb:b=a
 ·subst hb;rw[zH]at e;cases e;exact p
 ·rw[zp hb]at e;exact(x b u e).stay (fun c v _ q=>k c v q) (fun c q=>by rw[zp (zx q hn)];exact q) fun c xs q=>by rw[zp (zx q hn)];exact q
end
def Rd(H:Hp)(a:Addr)(u:HO):Prop:=H a=some u\/∃o,H a=some (.frz o u)
theorem Rd.ok{P:ca}{w:cy}{H:Hp}{h:Heap}{a:Addr}{u:HO}(r:Rd H a u)(x:HOk P w H h):ObjOk P w H h a u:=by
 rcases r with r|⟨o,r⟩
 ·exact x a u r
 ·obtain⟨_,q⟩:=x a _ r;exact q
def Mut:Option HO->Prop
 |some (.lst _)=>True
 |some (.dK _)=>True
 |some (.dT _)=>True
 |some (.set _ _)=>True
 |some (.ins _ _ _)=>True
 |some (.ext _)=>True
 |_=>False
section
variable {P:ca}{w:cy}{H:Hp}{h h':Heap}{x e:Addr}{o':HO}
theorem HOk.write(ok:HOk P w H h)(mu:Mut (H x))(he:e=x\/H e=some (.own x))(k:∀b u,b≠e->h.get? b=some u->h'.get? b=some u)(ac:∃u,h'.get? e=some u)
  (new:ObjOk P w (upd H x o') h' x o'):HOk P w (upd H x o') h':=fun b u q=>by
 have p:∀c y,H c=some (.own y)->c≠x:=fun c y r z=>by subst z;rw[r]at mu;exact mu
 have ab:∀c xs,H c=some (.tup xs)->c≠x:=fun c xs r z=>by subst z;rw[r]at mu;exact mu
 have aa:∀c o u,H c=some (.frz o u)->c≠x:=fun c o u r z=>by subst z;rw[r]at mu;exact mu
 by_cases hb:b=x
 ·subst hb;rw[zH]at q;cases q;exact new
 ·rw[zp hb]at q;by_cases hbe:b=e
  ·have q':H b=some (.own x):=by
    rcases he with z|z
    ·exact absurd (hbe.trans z) hb
    ·rw[hbe];exact z
   rw[q]at q';cases q';obtain⟨v,hv⟩:=ac;exact⟨v,by rw[hbe];exact hv⟩
  ·refine(ok b u q).stay (fun c v hc r=>k c v ?_ r) (fun c r=>by rw[zp (p c b r)];exact r) (fun c xs r=>by rw[zp (ab c xs r)];exact r) fun c o u r=>by rw[zp (aa c o u r)];exact r
   rcases hc with rfl|hc
   ·exact hbe
   ·rintro rfl;rcases he with z|z
    ·exact p c b hc z
    ·rw[hc]at z;cases z;exact hb rfl
end
structure Un(fs ex:List Addr)(H H':Hp)(h h':Heap):Prop where
 keep:∀b o,h.get? b=some o->H b=none->b∉fs->b∉ex->h'.get? b=some o
 slot:∀b o,h.get? b=some o->H b=none->b∈fs->b∉ex->∃sl,h'.get? b=some { o with slots:=sl }
 free:∀b o,h.get? b=some o->H b=none->b∉ex->H' b=none
 there:∀b o,h.get? b=some o->b∉ex->∃o',h'.get? b=some o'
 tups:∀b xs,H b=some (.tup xs)->H' b=some (.tup xs)
 frzs:∀b o u,H b=some (.frz o u)->H' b=some (.frz o u)
 tbls:∀b ps,H b=some (.tbl ps)->H' b=some (.tbl ps)
section
variable {fs fs' ex ex':List Addr}{H H1 H2:Hp}{h h1 h2 h':Heap}{a x e:Addr}{o:HO}
theorem Un.any(u:Un fs ex H H1 h h1){b:Addr}{ob:Obj}(q:h.get? b=some ob)(n:H b=none)(hx:b∉ex):∃sl,h1.get? b=some { ob with slots:=sl }:=by
 by_cases hb:b∈fs
 ·exact u.slot b ob q n hb hx
 ·exact⟨ob.slots,u.keep b ob q n hb hx⟩
theorem Un.trans(a:Un fs ex H H1 h h1)(b:Un fs ex H1 H2 h1 h2):Un fs ex H H2 h h2 where
 keep:=fun c ob q n hc hx=>b.keep c ob (a.keep c ob q n hc hx) (a.free c ob q n hx) hc hx
 slot:=fun c ob q n hc hx=>by
  obtain⟨sl,e1⟩:=a.slot c ob q n hc hx;obtain⟨p,e2⟩:=b.slot c _ e1 (a.free c ob q n hx) hc hx;exact⟨p,e2⟩
 free:=fun c ob q n hx=>by
  obtain⟨o',e1⟩:=a.there c ob q hx;exact b.free c o' e1 (a.free c ob q n hx) hx
 there:=fun c ob q hx=>by
  obtain⟨o',e1⟩:=a.there c ob q hx;exact b.there c o' e1 hx
 tups:=fun c xs q=>b.tups c xs (a.tups c xs q)
 frzs:=fun c ob xs q=>b.frzs c ob xs (a.frzs c ob xs q)
 tbls:=fun c ps q=>b.tbls c _ (a.tbls c ps q)
theorem Un.kept(k:∀b u,h.get? b=some u->h'.get? b=some u):Un fs ex H H h h':=
 ⟨fun b ob q _ _ _=>k b ob q,fun b ob q _ _ _=>⟨ob.slots,k b ob q⟩,fun _ _ _ n _=>n,fun b ob q _=>⟨ob,k b ob q⟩,fun _ _ q=>q,fun _ _ _ q=>q,fun _ _ q=>q⟩
theorem Un.refl:Un fs ex H H h h:=Un.kept fun _ _ q=>q
theorem Un.laid(k:∀b u,h.get? b=some u->h'.get? b=some u)(hp:h.objs.size<=a)(hn:H a=none):Un fs ex H (upd H a o) h h' where
 keep:=fun b u q _ _ _=>k b u q
 slot:=fun b u q _ _ _=>⟨u.slots,k b u q⟩
 free:=fun b u q n _=>by rw[zp (ff (cz (cr q) hp))];exact n
 there:=fun b u q _=>⟨u,k b u q⟩
 tups:=fun b xs q=>by rw[zp (zx q hn)];exact q
 frzs:=fun b u xs q=>by rw[zp (zx q hn)];exact q
 tbls:=fun b ps q=>by rw[zp (zx q hn)];exact q
theorem Un.write(mu:Mut (H x))(he:e=x\/H e=some (.own x))(k:∀b u,b≠e->h.get? b=some u->h'.get? b=some u)(p:∃u,h'.get? e=some u):Un fs ex H (upd H x o) h h':=by
 have hx:∀b,H b=none->b≠x:=fun b n z=>by subst z;rw[n]at mu;exact mu
 have hb:∀b,H b=none->b≠e:=fun b n z=>by
  subst z;rcases he with r|r
  ·exact hx b n r
  ·rw[n]at r;cases r
 have hm:∀b u,H b=some u->¬ Mut (some u)->b≠x:=fun b u q nm z=>by subst z;rw[q]at mu;exact nm mu
 refine⟨fun b u q n _ _=>k b u (hb b n) q,fun b u q n _ _=>⟨u.slots,k b u (hb b n) q⟩,fun b u q n _=>by rw[zp (hx b n)];exact n,fun b u q _=>?_,
  fun b xs q=>by rw[zp (hm b _ q fun z=>z)];exact q,fun b u xs q=>by rw[zp (hm b _ q fun z=>z)];exact q,fun b ps q=>by rw[zp (hm b _ q fun z=>z)];exact q⟩
 by_cases hbe:b=e
 ·subst hbe;exact p
 ·exact⟨u,k b u hbe q⟩
theorem Un.mono(u:Un fs ex H H1 h h1)(hs:∀b∈fs,b∈fs')(hx:∀b∈ex,b∈ex'):Un fs' ex' H H1 h h1:=
 ⟨fun b ob q n hb he=>u.keep b ob q n (fun z=>hb (hs b z)) fun z=>he (hx b z),fun _ _ q n _ he=>u.any q n fun z=>he (hx _ z),fun b ob q n he=>u.free b ob q n fun z=>he (hx b z),fun b ob q he=>u.there b ob q fun z=>he (hx b z),u.tups,u.frzs,u.tbls⟩
end
def trk(h:Heap)(H:Hp):List Addr:=(cp h.objs.size).filter fun a=>(H a).isSome
def d8(h:Heap)(H:Hp):Heap:=W.hideAll h (trk h H)
theorem DW(h:Heap)(H:Hp):(d8 h H).objs.size=h.objs.size:=W.hideAll_size _ _
theorem C9{h:Heap}{H:Hp}{b:Addr}{o:Obj}(e:h.get? b=some o)(n:H b=none):(d8 h H).get? b=some o:=
 W.hideAll_get _ e fun hm=>by
  have q:(H b).isSome=true:=(mem_filter.mp hm).2;rw[n]at q;simp at q
theorem Ct{h:Heap}{H:Hp}{b:Addr}{o:Obj}(e:(d8 h H).get? b=some o):h.get? b=some o/\H b=none:=by
 have e':h.get? b=some o:=W.of_hideAll (trk h H) e;refine⟨e',?_⟩;cases q:H b with
 |none=>rfl
 |some x=>
  have hm:b∈trk h H:=mem_filter.mpr ⟨mem_range.mpr (cr e'),by simp[q]⟩;have z:(d8 h H).get? b=none:=W.hideAll_none (trk h H) hm;rw[z]at e;cases e
def BF(g h:Heap)(L:Addr):List (Addr×Obj):=(cp h.objs.size).filterMap fun a=>if a=L\/(g.get? a).isSome=true then none else (h.get? a).map fun o=>(a,o)
def rest(g h:Heap)(L d:Addr):List (Addr×Obj):=(BF g h L).filter fun p=>decide (p.1≠d)
end
section
def tabsG:List ((Addr×Addr)×Array au):=[]
def BltAt(base:Heap)(mg:Str->Option au):Prop:=∃bm ob,mg "__builtins__" = some (.ref bm)/\bm≠builtinsNs/\base.get? bm=some ob/\ob.cls=.type "module"/\ob.dict=some builtinsNs/\ob.data=.plain
structure Frf(fs:List Addr)(H:Hp):Prop where
 free:∀b∈fs,H b=none
 tab:∀q∈tabsG,H q.1.2=some (.tbl q.2)
structure Mod(K:bf)(mg:Str->Option au)(base:Heap):Prop where
 kin:K.In base
 glob:base.Ns gv mg
 blt:∃mb,base.Ns builtinsNs mb/\∀x:Str,x ≠ "__name__"->mb x=dh x
 nolimit:base.NoLimit
 bm:BltAt base mg
 hd:∀q∈tabsG,W.CodeHd base q.1.1 q.1.2
structure Cx where
 prog:ca
 w:cy
 K:bf
 mg:Str->Option au
 base:Heap
 A:ef
 N:List Str
 s₀:ax
 H₀:Hp
 env:Env
 outer:List Env
 stack:List Env
 ex:List Addr
 fn:Str->Bool
 calm:Bool
 pn:List (Addr×Obj)
 xe:au->ax->Prop
def frs(l:List Env):List Addr:=l.filterMap (·.frame)
abbrev Cx.fs (X:Cx):List Addr:=frs X.outer
def Vis(sc:Scope)(x:Str):Prop:=sc.names.lookup x=some .local\/sc.names.lookup x=some .cell\/sc.names.lookup x=some .free
def Loc(sc:Scope)(x:Str):Prop:=sc.names.lookup x=some .local\/sc.names.lookup x=some .cell
def Look(env:Env)(h:Heap)(m:Str->Option au)(x:Str)(u:au):Prop:=
 (env.kindOf x=some .local/\m x=some u)\/((env.kindOf x=some .cell\/env.kindOf x=some .free)/\∃c,env.cells.lookup x=some c/\h.IsCell c (some u))
structure Cx.Ok(X:Cx):Prop where
 mod:Mod X.K X.mg X.base
 kind:X.env.scope.kind=.function
 glob:X.env.globals=gv
 blt:X.env.builtins=builtinsNs
 above:X.s₀.heap.objs.size<=X.env.locals
 inj:∀x y c,X.env.cells.lookup x=some c->X.env.cells.lookup y=some c->x=y
 has:∀x,(X.env.kindOf x=some .cell\/X.env.kindOf x=some .free)->∃c,X.env.cells.lookup x=some c
 cab:∀x c,X.fn x=true->X.env.cells.lookup x=some c->X.s₀.heap.objs.size<=c
 hd:X.calm=true->X.A.handled=none
 frames:X.A.frames=some X.stack
 stk:X.stack=X.outer\/(X.stack=X.env::X.outer/\X.env.frame=some X.env.locals)
 exf:∀b∈X.ex,b≠X.env.locals/\∀x c,X.env.cells.lookup x=some c->c≠b
 bs:∀b o,X.base.get? b=some o->X.s₀.heap.get? b=some o/\X.H₀ b=none
 bsz:X.base.objs.size<=X.s₀.heap.objs.size
 noex:∀b o,X.base.get? b=some o->b∉X.ex
 exfs:∀b∈X.ex,b∉X.fs
 funs:X.s₀.heap.FunFrames X.base X.outer
 frf:Frf X.fs X.H₀
structure Inv(X:Cx)(zc:List (Addr×Obj))(σ:List (Option V))(H:Hp)(s:ax):Prop where
 ok:X.Ok
 os:s.os=X.s₀.os
 bare:AllBare s.gens
 base:Un X.fs X.ex X.H₀ H X.s₀.heap s.heap
 loc:∃m,s.heap.Ns X.env.locals m/\∀(i:Nat) (x:Str) (v:V),X.N[i]?=some x->σ[i]?=some (some v)->Vis X.env.scope x->∃u,RelV v u/\Look X.env s.heap m x u
 cell:∀x c,X.env.cells.lookup x=some c->∃v,s.heap.IsCell c v
 free:H X.env.locals=none
 freeC:∀x c,X.env.cells.lookup x=some c->H c=none
 pin:∀p∈X.pn++zc,s.heap.get? p.1=some p.2/\H p.1=none/\p.1≠X.env.locals/\p.1∉X.fs/\∀v,p.2.data≠.cell v
 hok:HOk X.prog X.w H s.heap
 len:σ.length=X.N.length
section
variable {X:Cx}{zc:List (Addr×Obj)}{σ:List (Option V)}{H H':Hp}{s:ax}{h':Heap}
theorem Cx.Ok.nofr(ok:X.Ok){b:Addr}{o:Obj}(e:X.base.get? b=some o):b∉X.fs:=fun hb=>by
 have:=(ok.funs.mem hb).1;rw[e]at this;cases this
theorem Inv.bs(I:Inv X zc σ H s):∀b o,X.base.get? b=some o->s.heap.get? b=some o/\H b=none:=fun b o e=>
 ⟨I.base.keep b o (I.ok.bs b o e).1 (I.ok.bs b o e).2 (I.ok.nofr e) (I.ok.noex b o e),I.base.free b o (I.ok.bs b o e).1 (I.ok.bs b o e).2 (I.ok.noex b o e)⟩
theorem Inv.bk(I:Inv X zc σ H s):∀b o,X.base.get? b=some o->s.heap.get? b=some o:=fun b o e=>(I.bs b o e).1
theorem Inv.mod(I:Inv X zc σ H s):Mod X.K X.mg X.base:=I.ok.mod
theorem Inv.kIn(I:Inv X zc σ H s):X.K.In s.heap:=I.ok.mod.kin.keeps I.bk
theorem Inv.lt(I:Inv X zc σ H s):X.env.locals<s.heap.objs.size:=let ⟨_,hn,_⟩:=I.loc;hn.lt
theorem Inv.sz(I:Inv X zc σ H s):X.s₀.heap.objs.size<=s.heap.objs.size:=dm I.ok.above (gu I.lt)
theorem Inv.nofs(I:Inv X zc σ H s){a:Addr}(h:s.heap.objs.size<=a):a∉X.fs:=fun hb=>by
 obtain⟨_,o,ho,_⟩:=I.ok.funs.mem hb;exact absurd (cz (cr ho) (dm I.sz h)) (jh _)
theorem Inv.cne(I:Inv X zc σ H s):∀x c,X.env.cells.lookup x=some c->c≠X.env.locals:=fun x c e z=>by
 obtain⟨v,o,ho,hd⟩:=I.cell x c e;obtain⟨m,⟨o',es,ep,q,p,_⟩,_⟩:=I.loc;rw[z,q]at ho;cases ho;rw[p]at hd;cases hd
theorem Inv.funs(I:Inv X zc σ H s):s.heap.FunFrames X.base X.outer:=by
 have p:∀(l:List Env),(∀b∈frs l,b∈X.fs)->X.s₀.heap.FunFrames X.base l->s.heap.FunFrames X.base l:=by
  intro l;induction l with
  |nil=>intro _ _;trivial
  |cons env r ih=>
   intro hs hl;obtain⟨hk,⟨L,o,hf,hn,ho,hd⟩,hr⟩:=hl;have hL:L∈X.fs:=hs L (by unfold frs;rw[List.filterMap_cons,hf];exact bn);obtain⟨sl,e⟩:=I.base.slot L o ho (I.ok.frf.free L hL) hL fun z=>I.ok.exfs L z hL;exact⟨hk,⟨L,_,hf,hn,e,hd⟩,ih (fun b hb=>hs b (by unfold frs;rw[List.filterMap_cons,hf];exact bc _ hb)) hr⟩
 exact p X.outer (fun _ hb=>hb) I.ok.funs
theorem Inv.stack(I:Inv X zc σ H s):s.heap.FunFrames X.base X.stack:=by
 rcases I.ok.stk with e|⟨e,hf⟩
 ·rw[e];exact I.funs
 ·rw[e];obtain⟨m,hn,_⟩:=I.loc;refine .cons (by rw[I.ok.kind];decide) hf hn ?_ I.funs;exact Heap.get?_none_of_le (dm I.ok.bsz I.ok.above)
theorem Inv.stkSub(I:Inv X zc σ H s):∀b∈frs X.stack,b∈X.env.locals::X.fs:=fun b hb=>by
 rcases I.ok.stk with e|⟨e,hf⟩
 ·rw[e]at hb;exact bc _ hb
 ·rw[e]at hb;unfold frs at hb;rw[List.filterMap_cons,hf]at hb;exact hb
theorem Inv.stkFree(I:Inv X zc σ H s):Frf (frs X.stack) H:=⟨fun b hb=>by
 rcases mem_cons.mp (I.stkSub b hb)with e|hb
 ·rw[e];exact I.free
 ·obtain⟨_,o,ho,_⟩:=I.ok.funs.mem hb;exact I.base.free b o ho (I.ok.frf.free b hb) fun z=>I.ok.exfs b z hb,fun q hq=>I.base.tbls _ _ (I.ok.frf.tab q hq)⟩
theorem Inv.step{g':Array GenState}{t':Nat}{d':Drawn}{ch:List Addr}(I:Inv X zc σ H s)
  (hch:∀b∈ch,(b∈X.ex\/X.s₀.heap.objs.size<=b)/\b≠X.env.locals/\(∀x c,X.env.cells.lookup x=some c->c≠b)/\∀p∈X.pn++zc,p.1≠b)
  (keep:∀b o,b≠X.env.locals->b∉X.fs->b∉ch->s.heap.get? b=some o->H b=none->h'.get? b=some o)
  (slot:∀b o,b≠X.env.locals->b∈X.fs->b∉ch->s.heap.get? b=some o->H b=none->∃sl,h'.get? b=some { o with slots:=sl }) (free:∀b o,b∉ch->s.heap.get? b=some o->H b=none->H' b=none)
  (there:∀b o,b∉ch->s.heap.get? b=some o->∃o',h'.get? b=some o')
  (tups:∀b xs,H b=some (.tup xs)->H' b=some (.tup xs)) (frzs:∀b o u,H b=some (.frz o u)->H' b=some (.frz o u)) (tbls:∀b ps,H b=some (.tbl ps)->H' b=some (.tbl ps))
  (ns:∀m,s.heap.Ns X.env.locals m->h'.Ns X.env.locals m) (hok:HOk X.prog X.w H' h') (hg:AllBare g'):
  Inv X zc σ H' { s with heap:=h',gens:=g',drawn:=d',toks:=t' }:=by
 have ac:∀b o,X.s₀.heap.get? b=some o->b≠X.env.locals:=fun b o e=>ff (cz (cr e) I.ok.above);have ab:∀b o,X.s₀.heap.get? b=some o->b∉X.ex->b∉ch:=fun b o e hx hb=>by
  rcases(hch b hb).1 with z|z
  ·exact hx z
  ·exact absurd (cz (cr e) z) (jh _)
 have y:∀x c,X.env.cells.lookup x=some c->∀v,s.heap.IsCell c v->h'.IsCell c v:=fun x c e v ⟨o,ho,hd⟩=>by
  have aa:c∉ch:=fun z=>(hch c z).2.2.1 x c e rfl;by_cases hc:c∈X.fs
  ·obtain⟨sl,q⟩:=slot c o (I.cne x c e) hc aa ho (I.freeC x c e);exact⟨_,q,hd⟩
  ·exact⟨o,keep c o (I.cne x c e) hc aa ho (I.freeC x c e),hd⟩
 refine⟨I.ok,I.os,hg,⟨fun b o e n hb hx=>?_,fun b o e n hb hx=>?_,fun b o e n hx=>?_,fun b o e hx=>?_,fun b xs e=>tups b xs (I.base.tups b xs e),fun b o xs e=>frzs b o xs (I.base.frzs b o xs e),fun b ps e=>?_⟩,?_,fun x c e=>?_,?_,fun x c e=>?_,fun p hp=>?_,hok,I.len⟩
 ·exact keep b o (ac b o e) hb (ab b o e hx) (I.base.keep b o e n hb hx) (I.base.free b o e n hx)
 ·obtain⟨sl,e1⟩:=I.base.slot b o e n hb hx;obtain⟨ae,e2⟩:=slot b _ (ac b o e) hb (ab b o e hx) e1 (I.base.free b o e n hx);exact⟨ae,e2⟩
 ·obtain⟨o',e1⟩:=I.base.there b o e hx;exact free b o' (ab b o e hx) e1 (I.base.free b o e n hx)
 ·obtain⟨o',e1⟩:=I.base.there b o e hx;exact there b o' (ab b o e hx) e1
 ·exact tbls b _ (I.base.tbls b ps e)
 ·obtain⟨m,hn,hl⟩:=I.loc;refine⟨m,ns m hn,fun i x v e1 e2 e3=>?_⟩;obtain⟨u,r,l⟩:=hl i x v e1 e2 e3;refine⟨u,r,?_⟩;rcases l with l|⟨k,c,e,z⟩
  ·exact .inl l
  ·exact .inr ⟨k,c,e,y x c e _ z⟩
 ·obtain⟨v,z⟩:=I.cell x c e;exact⟨v,y x c e v z⟩
 ·obtain⟨m,⟨o,_,_,ho,_⟩,_⟩:=I.loc;exact free _ o (fun z=>(hch _ z).2.1 rfl) ho I.free
 ·obtain⟨v,o,ho,hd⟩:=I.cell x c e;exact free c o (fun z=>(hch c z).2.2.1 x c e rfl) ho (I.freeC x c e)
 ·obtain⟨e,n,ne,nf,d⟩:=I.pin p hp;have aa:p.1∉ch:=fun z=>(hch p.1 z).2.2.2 p hp rfl;exact⟨keep p.1 p.2 ne nf aa e n,free p.1 p.2 aa e n,ne,nf,d⟩
theorem Inv.un{t':Nat}(I:Inv X zc σ H s)(u:Un X.fs [] H H' s.heap h')(hok:HOk X.prog X.w H' h'):Inv X zc σ H' { s with heap:=h',toks:=t' }:=by
 obtain⟨m,⟨o,es,ep,ho,r⟩,_⟩:=id I.loc;obtain⟨sl,hL⟩:=u.any ho I.free yv;exact I.step (g':=s.gens) (d':=s.drawn) (ch:=[]) (fun _ z=>nomatch z) (fun b o _ hb _ e n=>u.keep b o e n hb yv) (fun b o _ hb _ e n=>u.slot b o e n hb yv) (fun b o _ e n=>u.free b o e n yv) (fun b o _ e=>u.there b o e yv) u.tups u.frzs u.tbls (fun m' hm=>by
  obtain⟨o',q,y,p,r'⟩:=hm;rw[ho]at p;cases p;exact⟨_,q,y,hL,r'⟩) hok I.bare
theorem Inv.call{g':Array GenState}{t':Nat}{d':Drawn}{ch:List Addr}(I:Inv X zc σ H s)(u:Un (frs X.stack) ch H H' s.heap h')(hok:HOk X.prog X.w H' h')(hg:AllBare g')
  (hch:∀b∈ch,(b∈X.ex\/X.s₀.heap.objs.size<=b)/\b≠X.env.locals/\(∀x c,X.env.cells.lookup x=some c->c≠b)/\∀p∈X.pn++zc,p.1≠b):
  Inv X zc σ H' { s with heap:=h',gens:=g',drawn:=d',toks:=t' }:=by
 obtain⟨m,⟨o,es,ep,ho,r⟩,_⟩:=id I.loc;obtain⟨sl,hL⟩:=u.any ho I.free fun z=>(hch _ z).2.1 rfl;exact I.step (ch:=ch) hch (fun b o hL hb hc e n=>u.keep b o e n (fun z=>(mem_cons.mp (I.stkSub b z)).elim hL hb) hc) (fun b o _ _ hc e n=>u.any e n hc) (fun b o hc e n=>u.free b o e n hc) (fun b o hc e=>u.there b o e hc) u.tups u.frzs u.tbls (fun m' hm=>by
  obtain⟨o',y,aa,q,r'⟩:=hm;rw[ho]at q;cases q;exact⟨_,y,aa,hL,r'⟩) hok hg
theorem Inv.turned{t':Nat}{it:Addr}(I:Inv X zc σ H s)(k:∀b o,b≠it->s.heap.get? b=some o->h'.get? b=some o)(hn:H it=none)(hL:it≠X.env.locals)
  (h1:it∈X.ex\/X.s₀.heap.objs.size<=it) (h2:∀x c,X.env.cells.lookup x=some c->c≠it) (h3:∀p∈X.pn++zc,p.1≠it):Inv X zc σ H { s with heap:=h',toks:=t' }:=by
 have y:∀b u,H b=some u->b≠it:=fun b u e z=>by rw[z,hn]at e;cases e
 refine I.step (g':=s.gens) (d':=s.drawn) (ch:=[it]) (fun b hb=>?_) (fun b o _ _ hc e _=>k b o (fun z=>hc (by simp[z])) e) (fun b o _ _ hc e _=>⟨o.slots,k b o (fun z=>hc (by simp[z])) e⟩) (fun _ _ _ _ n=>n)
  (fun b o hc e=>⟨o,k b o (fun z=>hc (by simp[z])) e⟩) (fun _ _ e=>e) (fun _ _ _ e=>e) (fun _ _ e=>e) (fun m hm=>?_) (fun b u e=>?_) I.bare
 ·have e:b=it:=by simpa using hb
  subst e;exact⟨h1,hL,h2,h3⟩
 ·obtain⟨o,es,ep,ho,r⟩:=hm;exact⟨o,es,ep,k _ o (fw hL) ho,r⟩
 ·refine(I.hok b u e).stay (fun c v hc q=>k c v ?_ q) (fun _ q=>q) fun _ _ q=>q;rcases hc with z|z
  ·rw[z];exact y b u e
  ·exact y c _ z
theorem Inv.tok(I:Inv X zc σ H s)(t:Nat):Inv X zc σ H { s with toks:=t }:=I.un (h':=s.heap) (t':=t) Un.refl I.hok
theorem Inv.kept{t':Nat}(I:Inv X zc σ H s)(k:∀b u,s.heap.get? b=some u->h'.get? b=some u):Inv X zc σ H { s with heap:=h',toks:=t' }:=I.un (Un.kept k) (I.hok.kept k)
theorem Inv.laid{a:Addr}{o:HO}{t':Nat}(I:Inv X zc σ H s)(k:∀b u,s.heap.get? b=some u->h'.get? b=some u)(hp:s.heap.objs.size<=a)(p:ObjOk X.prog X.w (upd H a o) h' a o):
  Inv X zc σ (upd H a o) { s with heap:=h',toks:=t' }:=I.un (Un.laid k hp (I.hok.fresh hp)) (I.hok.laid k hp p)
theorem Inv.write{x e:Addr}{o:HO}{t':Nat}(I:Inv X zc σ H s)(mu:Mut (H x))(he:e=x\/H e=some (.own x))(k:∀b u,b≠e->s.heap.get? b=some u->h'.get? b=some u)(p:∃u,h'.get? e=some u)
  (new:ObjOk X.prog X.w (upd H x o) h' x o):Inv X zc σ (upd H x o) { s with heap:=h',toks:=t' }:=I.un (Un.write mu he k p) (I.hok.write mu he k p new)
theorem Inv.pins_of{q:List (Addr×Obj)}(I:Inv X zc σ H s)(h:∀p∈q,s.heap.get? p.1=some p.2/\H p.1=none/\p.1≠X.env.locals/\p.1∉X.fs/\∀v,p.2.data≠.cell v):Inv X q σ H s:=
 ⟨I.ok,I.os,I.bare,I.base,I.loc,I.cell,I.free,I.freeC,fun p hp=>(mem_append.mp hp).elim (fun z=>I.pin p (ba _ z)) (h p),I.hok,I.len⟩
theorem tR{N:List Str}(hN:N.Nodup){i j:Nat}{x:Str}(a:N[i]?=some x)(b:N[j]?=some x):i=j:=by
 obtain⟨h1,e1⟩:=List.getElem?_eq_some_iff.mp a;obtain⟨h2,e2⟩:=List.getElem?_eq_some_iff.mp b;exact(List.getElem_inj hN).mp (e1.trans e2.symm)
theorem DX{M:Model}{A:ef}{E:au->ax->Prop}{i:Nat}{x:Str}{v:V}{u:au}{Q:Unit->ax->Prop}(I:Inv X zc σ H s)(hN:X.N.Nodup)(hi:X.N[i]?=some x)(hx:Loc X.env.scope x)(r:RelV v u)
  (h:∀s',Inv X zc (σ.set i (some v)) H s'->(∃a,fg a s.heap s'.heap/\(a=X.env.locals\/X.env.cells.lookup x=some a))->Q () s') (hf:X.fn x=true\/X.env.scope.names.lookup x=some .local:=by first|exact .inl rfl|exact .inr rfl|assumption):bh M A (storeName X.env x u) Q E s:=by
 obtain⟨m,hn,hl⟩:=id I.loc;have aj:(X.env.scope.kind==.class||(X.env.scope.kind==.module&&X.env.locals != X.env.globals))=false:=by rw[I.ok.kind];rfl
 have ai:i<σ.length:=by rw[I.len];exact(List.getElem?_eq_some_iff.mp hi).1
 have ae:=I.cne;have aa:∀{a:Addr}{h':Heap},(∃o,s.heap.get? a=some o/\H a=none)->fg a s.heap h'->HOk X.prog X.w H h':=fun {a h'} ha hs b ob e=>by
  obtain⟨_,_,ab⟩:=ha;refine(I.hok b ob e).stay (fun c w' hc q=>(hs.2 c ?_).trans q) (fun _ q=>q) fun _ _ q=>q;rintro rfl;rcases hc with rfl|hc
  ·rw[ab]at e;cases e
  ·rw[ab]at hc;cases hc
 rcases hx with hk|hk
 ·refine wpAny_storeName_local hk hn (fun h' ak hs=>?_) aj;obtain⟨oL,_,_,al,_⟩:=id hn;refine h _ ⟨I.ok,I.os,I.bare,⟨fun b o e n hb hx=>?_,fun b o e n hb hx=>?_,I.base.free,fun b o e hx=>?_,I.base.tups,I.base.frzs,I.base.tbls⟩,⟨_,ak,fun j y v' e1 e2 e3=>?_⟩,fun y c e=>?_,I.free,I.freeC,fun p hp=>?_,aa ⟨oL,al,I.free⟩ hs,by simpa using I.len⟩ ⟨_,hs,.inl rfl⟩
  ·exact(hs.2 b (ff (cz (cr e) I.ok.above))).trans (I.base.keep b o e n hb hx)
  ·obtain⟨sl,e1⟩:=I.base.slot b o e n hb hx;exact⟨sl,(hs.2 b (ff (cz (cr e) I.ok.above))).trans e1⟩
  ·obtain⟨o',e1⟩:=I.base.there b o e hx;exact⟨o',(hs.2 b (ff (cz (cr e) I.ok.above))).trans e1⟩
  ·by_cases hj:j=i
   ·subst hj;rw[hi]at e1;cases e1;rw[jj ai]at e2;cases e2;exact⟨u,r,.inl ⟨hk,yv⟩⟩
   ·rw[ke (fw hj)]at e2;obtain⟨u',r',q⟩:=hl j y v' e1 e2 e3;refine⟨u',r',?_⟩;rcases q with ⟨k,e⟩|⟨k,c,e,z⟩
    ·refine .inl ⟨k,?_⟩;have:y≠x:=fun e=>hj (tR hN e1 (e▸hi));simp[this,e]
    ·exact .inr ⟨k,c,e,z.sameBut hs (ae y c e)⟩
  ·obtain⟨w',z⟩:=I.cell y c e;exact⟨w',z.sameBut hs (ae y c e)⟩
  ·obtain⟨e,n,ne,nf,d⟩:=I.pin p hp;exact⟨(hs.2 p.1 ne).trans e,n,ne,nf,d⟩
 ·have ac:X.fn x=true:=by
   rcases hf with z|z
   ·exact z
   ·rw[z]at hk;cases hk
  obtain⟨c,hc⟩:=I.ok.has x (.inl hk);obtain⟨w',z⟩:=I.cell x c hc;refine wpAny_storeName_cell I.ok.kind hk hc z (fun h' ah hs=>?_);obtain⟨oc,ag,af⟩:=id z;refine h { s with heap:=h' } ⟨I.ok,I.os,I.bare,⟨fun b o e n hb hx=>?_,fun b o e n hb hx=>?_,I.base.free,fun b o e hx=>?_,I.base.tups,I.base.frzs,I.base.tbls⟩,⟨m,hn.sameBut hs (fw (ae x c hc)),fun j y v' e1 e2 e3=>?_⟩,fun y c' e=>?_,I.free,I.freeC,fun p hp=>?_,aa ⟨oc,ag,I.freeC x c hc⟩ hs,by simpa using I.len⟩ ⟨c,hs,.inr hc⟩
  ·exact(hs.2 b (ff (cz (cr e) (I.ok.cab x c ac hc)))).trans (I.base.keep b o e n hb hx)
  ·obtain⟨sl,e1⟩:=I.base.slot b o e n hb hx;exact⟨sl,(hs.2 b (ff (cz (cr e) (I.ok.cab x c ac hc)))).trans e1⟩
  ·obtain⟨o',e1⟩:=I.base.there b o e hx;exact⟨o',(hs.2 b (ff (cz (cr e) (I.ok.cab x c ac hc)))).trans e1⟩
  ·by_cases hj:j=i
   ·subst hj;rw[hi]at e1;cases e1;rw[jj ai]at e2;cases e2;exact⟨u,r,.inr ⟨.inl hk,c,hc,ah⟩⟩
   ·rw[ke (fw hj)]at e2;obtain⟨u',r',q⟩:=hl j y v' e1 e2 e3;refine⟨u',r',?_⟩;rcases q with q|⟨k,c',e,z'⟩
    ·exact .inl q
    ·refine .inr ⟨k,c',e,z'.sameBut hs ?_⟩;rintro rfl;exact hj (tR hN e1 (I.ok.inj _ _ _ e hc▸hi))
  ·by_cases hcc:c'=c
   ·subst hcc;exact⟨_,ah⟩
   ·obtain⟨w2,z2⟩:=I.cell y c' e;exact⟨w2,z2.sameBut hs hcc⟩
  ·obtain⟨e,n,ne,nf,d⟩:=I.pin p hp;refine⟨(hs.2 p.1 ?_).trans e,n,ne,nf,d⟩;intro q;rw[q,ag]at e;have q':oc=p.2:=eo e;exact d w' (by rw[<- q'];exact af)
theorem o7{M:Model}{A:ef}{E:au->ax->Prop}{i:Nat}{x:Str}{v:V}{u:au}{Q:Unit->ax->Prop}(I:Inv X zc σ H s)(hN:X.N.Nodup)(hi:X.N[i]?=some x)(hx:Loc X.env.scope x)(r:RelV v u)
  (h:∀s',Inv X zc (σ.set i (some v)) H s'->Q () s') (hf:X.fn x=true\/X.env.scope.names.lookup x=some .local:=by first|exact .inl rfl|exact .inr rfl|assumption):bh M A (storeName X.env x u) Q E s:=
 DX I hN hi hx r (fun s' I' _=>h s' I') hf
theorem Inv.call'{s':ax}{ch:List Addr}(I:Inv X zc σ H s)(ho:s'.os=s.os)(u:Un (frs X.stack) ch H H' s.heap s'.heap)(hok:HOk X.prog X.w H' s'.heap)(hg:AllBare s'.gens)
  (hch:∀b∈ch,(b∈X.ex\/X.s₀.heap.objs.size<=b)/\b≠X.env.locals/\(∀x c,X.env.cells.lookup x=some c->c≠b)/\∀p∈X.pn++zc,p.1≠b):Inv X zc σ H' s':=by
 obtain⟨h',g',d',t',o'⟩:=s';have e:o'=s.os:=ho;subst e;exact I.call (g':=g') (t':=t') (d':=d') u hok hg hch
end
abbrev XK:=au->Option Addr->Hp->Prop
abbrev St:=List (Option V)
abbrev VK:=V->Hp->Prop
abbrev TE:=St->Hp->VK->Prop
abbrev TT:=St->Hp->(Bool->Hp->Prop)->Prop
abbrev TA:=St->Hp->(List V->Hp->Prop)->Prop
structure Ends where
 nx:St->Hp->Prop
 rt:VK
 bk:St->Hp->Prop:=fun _ _=>False
 ct:St->Hp->Prop:=fun _ _=>False
abbrev TS:=Ends->St->Hp->Prop
def EP(X:Cx)(zc:List (Addr×Obj))(σ:St)(Q:VK)(u:au)(s':ax):Prop:=∃v H',Inv X zc σ H' s'/\RelV v u/\Q v H'
def TP(X:Cx)(zc:List (Addr×Obj))(σ:St)(Q:Bool->Hp->Prop)(b:Bool)(s':ax):Prop:=∃H',Inv X zc σ H' s'/\Q b H'
def AP(X:Cx)(zc:List (Addr×Obj))(σ:St)(Q:List V->Hp->Prop)(us:List au)(s':ax):Prop:=∃vs H',Inv X zc σ H' s'/\Vals vs us/\Q vs H'
def SP(X:Cx)(zc:List (Addr×Obj))(D:Ends)(f:Flow)(s':ax):Prop:=
 match f with
 | .next=>∃ σ' H',Inv X zc σ' H' s'/\D.nx σ' H'
 | .brk=>∃ σ' H',Inv X zc σ' H' s'/\D.bk σ' H'
 | .cont=>∃ σ' H',Inv X zc σ' H' s'/\D.ct σ' H'
 | .ret u=>∃v σ' H',Inv X zc σ' H' s'/\RelV v u/\D.rt v H'
def PE(X:Cx)(e:Expr)(t:TE):Prop:=
 ∀(zc:List (Addr×Obj)) (s:ax) (σ:St) (H:Hp) (Q:VK),Inv X zc σ H s->t σ H Q->bh (model X.prog X.w) X.A (eval e X.env) (EP X zc σ Q) X.xe s
def PT(X:Cx)(e:Expr)(t:TT):Prop:=
 ∀(zc:List (Addr×Obj)) (s:ax) (σ:St) (H:Hp) (Q:Bool->Hp->Prop),Inv X zc σ H s->t σ H Q->bh (model X.prog X.w) X.A (isTrue e X.env (eval e X.env)) (TP X zc σ Q) X.xe s
def PW(X:Cx)(e:Expr)(t:TT):Prop:=
 ∀(whole:Sem au) (zc:List (Addr×Obj)) (s:ax) (σ:St) (H:Hp) (Q:Bool->Hp->Prop),Inv X zc σ H s->t σ H Q->bh (model X.prog X.w) X.A (isTrue e X.env whole) (TP X zc σ Q) X.xe s
theorem PW.pt{X:Cx}{e:Expr}{t:TT}(h:PW X e t):PT X e t:=h _
def PA(X:Cx)(es:List Expr)(t:TA):Prop:=
 ∀(pos:Pos) (zc:List (Addr×Obj)) (s:ax) (σ:St) (H:Hp) (Q:List V->Hp->Prop),Inv X zc σ H s->t σ H Q->bh (model X.prog X.w) X.A (spliced (kr pos (cq es X.env))) (AP X zc σ Q) X.xe s
def PS(X:Cx)(st:Stmt)(t:TS):Prop:=
 ∀(zc:List (Addr×Obj)) (s:ax) (σ:St) (H:Hp) (D:Ends),Inv X zc σ H s->t D σ H->bh (model X.prog X.w) X.A (exec st X.env) (SP X zc D) X.xe s
def PSs(X:Cx)(st:List Stmt)(t:TS):Prop:=
 ∀(zc:List (Addr×Obj)) (s:ax) (σ:St) (H:Hp) (D:Ends),Inv X zc σ H s->t D σ H->bh (model X.prog X.w) X.A (execs st X.env) (SP X zc D) X.xe s
theorem thn{α:Type}{t:Sem α}{Q Q':α->ax->Prop}{M:Model}{A:ef}{E:au->ax->Prop}{s:ax}(h:bh M A t Q E s)(hQ:∀a s,Q a s->Q' a s):bh M A t Q' E s:=kj h hQ fun _ _ x=>x
end
section
section
variable {X:Cx}
def dG(i:Nat):TE:=fun σ H Q=>∃v,σ[i]?=some (some v)/\Q v H
def tC(v:V):TE:=fun _ H Q=>Q v H
theorem A7{i:Nat}{x:Str}{pos:Pos}(hN:X.N[i]?=some x)(hv:Vis X.env.scope x)(hd:(x==("__debug__":Str))=false:=by decide)(p:(x==("__classdict__":Str))=false:=by decide):PE X (.Name x pos) (dG i):=by
 intro zc s σ H Q I h;obtain⟨v,e,h⟩:=h;obtain⟨m,hn,hl⟩:=I.loc;obtain⟨u,r,l⟩:=hl i x v hN e hv;have fin:EP X zc σ Q u s:=⟨v,H,I,r,h⟩;rcases l with ⟨hk,hm⟩|⟨hk,c,hc,hcell⟩
 ·exact wpAny_Name (wpAny_loadName_local I.ok.kind hk hn hm fin) hd
 ·rcases hk with hk|hk
  ·exact wpAny_Name (wpAny_loadName_cell I.ok.kind hk hc hcell fin) hd
  ·exact wpAny_Name (wpAny_loadName_free I.ok.kind hk hc hcell fin p) hd
theorem zg{i j pos}:PE X (.Constant (.int i) j pos) (tC (.int i)):=fun _ _ _ H _ I h=>wpAny_Constant_int ⟨.int i,H,I.tok _,⟨_,rfl⟩,h⟩
theorem dD{b j pos}:PE X (.Constant (.bool b) j pos) (tC (.bl b)):=fun _ _ _ H _ I h=>Constant_bool ⟨.bl b,H,I,rfl,h⟩
theorem rQ{j pos}:PE X (.Constant .none j pos) (tC .non):=fun _ _ _ H _ I h=>Constant_none ⟨.non,H,I,rfl,h⟩
def Gl(X:Cx)(x:Str):Prop:=X.env.kindOf x=some .globalImplicit
theorem Fa{E:au->ax->Prop}{zc:List (Addr×Obj)}{s:ax}{σ:St}{H:Hp}{x:Str}{u:au}{pos:Pos}{Q:au->ax->Prop}(I:Inv X zc σ H s)(hg:Gl X x)(hm:X.mg x=some u)(h:Q u s)
  (hd:(x==("__debug__":Str))=false:=by decide):bh (model X.prog X.w) X.A (eval (.Name x pos) X.env) Q E s:=
 Calls.Name_function_global I.ok.kind hg (Calls.loadGlobal_global (by rw[I.ok.glob];exact I.mod.glob.keeps I.bk) hm h) hd
theorem lR{E:au->ax->Prop}{zc:List (Addr×Obj)}{s:ax}{σ:St}{H:Hp}{x:Str}{u:au}{pos:Pos}{Q:au->ax->Prop}(I:Inv X zc σ H s)(hg:Gl X x)(hm:X.mg x=none)(hv:dh x=some u)(h:Q u s)
  (hn:x ≠ "__name__":=by decide) (hd:(x==("__debug__":Str))=false:=by decide):bh (model X.prog X.w) X.A (eval (.Name x pos) X.env) Q E s:=by
 obtain⟨mb,h1,h2⟩:=I.mod.blt;exact Calls.Name_function_global I.ok.kind hg (Calls.loadGlobal_builtin (by rw[I.ok.glob];exact I.mod.glob.keeps I.bk) hm (by rw[I.ok.blt];exact h1.keeps I.bk) ((h2 x hn).trans hv) h) hd
theorem nU{x:Str}{v:V}{u:au}{pos:Pos}(hg:Gl X x)(hm:X.mg x=none)(hv:dh x=some u)(r:RelV v u)(hn:x ≠ "__name__":=by decide)(hd:(x==("__debug__":Str))=false:=by decide):PE X (.Name x pos) (tC v):=
 fun _ _ _ H _ I h=>lR I hg hm hv ⟨v,H,I,r,h⟩ hn hd
variable {a b:Expr}{ta tb:TE}{pos:Pos}
variable {tA tB':TT}{rest:List Expr}
def tOr(t u:TT):TT:=fun σ H Q=>t σ H fun c H1=>if c=true then Q true H1 else u σ H1 Q
def xR(t:TT):TT:=fun σ H Q=>t σ H fun c H1=>Q (!c) H1
theorem iX(ha:PT X a tA):PW X (.BoolOp .Or [a] pos) tA:=by
 intro wh zc s σ H Q I h;refine isTrue_or (thn (ha zc s σ H Q I h) fun c s1 e=>?_);cases c with
 |false=>exact isTrue_or_nil e
 |true=>exact e
theorem eK(ha:PT X a tA)(hb:PW X (.BoolOp .Or (b::rest) pos) tB'):PW X (.BoolOp .Or (a::b::rest) pos) (tOr tA tB'):=by
 intro wh zc s σ H Q I h;refine isTrue_or (thn (ha zc s σ H _ I h) fun c s1 ⟨H1,I1,q1⟩=>?_);cases c with
 |true=>exact⟨H1,I1,q1⟩
 |false=>exact hb wh zc s1 σ H1 Q I1 q1
theorem cW(ha:PT X a tA):PT X (.UnaryOp .Not a pos) (xR tA):=by
 intro zc s σ H Q I h;exact isTrue_not (ha zc s σ H (fun c H1=>Q (!c) H1) I h)
def x6(ta tb:TE):TE:=fun σ H Q=>ta σ H fun x H1=>∃c,x=.bl c/\if c=true then tb σ H1 Q else Q (.bl false) H1
def vH(ta tb:TE):TE:=fun σ H Q=>ta σ H fun x H1=>∃c,x=.bl c/\if c=true then Q (.bl true) H1 else tb σ H1 Q
def sK(ta:TE):TE:=fun σ H Q=>ta σ H fun x H1=>∃c,x=.bl c/\Q (.bl (!c)) H1
theorem sE{op}{t:TE}(h:PE X a t):PE X (.BoolOp op [a] pos) t:=fun zc s σ H Q I hw=>BoolOp_one (h zc s σ H Q I hw)
theorem Ei(ha:PE X a ta)(hb:PE X (.BoolOp .And (b::rest) pos) tb):PE X (.BoolOp .And (a::b::rest) pos) (x6 ta tb):=by
 intro zc s σ H Q I h;refine BoolOp_and (thn (ha zc s σ H _ I h) fun v s1 ⟨x,H1,I1,r1,q1⟩=>?_);obtain⟨c,rfl,q1⟩:=q1;cases r1;refine fx ?_;cases c with
 |true=>exact hb zc s1 σ H1 Q I1 q1
 |false=>exact⟨.bl false,H1,I1,rfl,q1⟩
theorem C7(ha:PE X a ta)(hb:PE X (.BoolOp .Or (b::rest) pos) tb):PE X (.BoolOp .Or (a::b::rest) pos) (vH ta tb):=by
 intro zc s σ H Q I h;refine BoolOp_or (thn (ha zc s σ H _ I h) fun v s1 ⟨x,H1,I1,r1,q1⟩=>?_);obtain⟨c,rfl,q1⟩:=q1;cases r1;refine fx ?_;cases c with
 |false=>exact hb zc s1 σ H1 Q I1 q1
 |true=>exact⟨.bl true,H1,I1,rfl,q1⟩
theorem ER(ha:PE X a ta):PE X (.UnaryOp .Not a pos) (sK ta):=by
 intro zc s σ H Q I h;refine UnaryOp_ (thn (ha zc s σ H _ I h) fun v s1 ⟨x,H1,I1,r1,q1⟩=>?_);obtain⟨c,rfl,q1⟩:=q1;cases r1;exact not_of (fx ⟨.bl (!c),H1,I1,rfl,q1⟩)
end
end
section
def SqL(K:bf)(H:Hp)(a:Addr)(xs:List V):Prop:=
 Rd H a (.lst xs) \/
  ∃(o:Obj) (its:Array au) (n:Nat),K.lookup a=some o/\o.cls=.type "list"/\o.dict=none/\o.data=.seq its n/\its.size<=be/\Vals xs its.toList
def SqT(K:bf)(H:Hp)(a:Addr)(xs:List V):Prop:=
 Rd H a (.tup xs) \/
  ∃(o:Obj) (its:Array au) (n:Nat),K.lookup a=some o/\o.cls=.type "tuple"/\o.data=.seq its n/\its.size<=be/\Vals xs its.toList
def Ag:au->Option V
 | .none=>some .non
 | .bool b=>some (.bl b)
 | .int i _=>some (.int i)
 | .str x _=>some (.str x)
 | .bytes b _=>some (.byt b)
 | .float b _=>some (.flt b)
 | .ref a=>some (.ref a)
 | .type n=>some (.ty n)
 |_=>none
theorem RelV.abs{x:V}{u:au}(r:RelV x u):Ag u=some x:=by
 cases x with
 |non=>cases r;rfl
 |bl _=>cases r;rfl
 |int _=>obtain⟨t,rfl⟩:=r;rfl
 |str _=>obtain⟨t,rfl⟩:=r;rfl
 |byt _=>obtain⟨t,rfl⟩:=r;rfl
 |flt _=>obtain⟨t,rfl⟩:=r;rfl
 |ref _=>cases r;rfl
 |ty _=>cases r;rfl
theorem RelV.inj{x y:V}{u:au}(r:RelV x u)(q:RelV y u):x=y:=eo (r.abs.symm.trans q.abs)
theorem Vals.inj:∀{xs ys:List V}{us:List au},Vals xs us->Vals ys us->xs=ys
 |_,_,_,.nil,.nil=>rfl
 |_,_,_,.cons r t,.cons r' t'=>by rw[r.inj r',Vals.inj t t']
section
variable {X:Cx}{zc:List (Addr×Obj)}{σ:St}{H:Hp}{s:ax}{a:Addr}{xs ys:List V}
theorem SqL.of{K:bf}(h:H a=some (.lst xs)):SqL K H a xs:=.inl (.inl h)
theorem SqT.of{K:bf}(h:H a=some (.tup xs)):SqT K H a xs:=.inl (.inl h)
theorem Inv.list(I:Inv X zc σ H s)(h:SqL X.K H a xs):∃p:List au,Vals xs p/\PlainL s.heap a p.toArray/\xs.length<=be:=by
 rcases h with h|⟨o,p,n,hk,hc,hd,hs,hz,r⟩
 ·obtain⟨z,p,n,r,e⟩:=h.ok I.hok;exact⟨p,r,⟨_,n,e,rfl,rfl,rfl⟩,z⟩
 ·refine⟨p.toList,r,⟨o,n,I.kIn a o hk,hc,hd,by simpa using hs⟩,?_⟩;have e:=r.length;simp only[jz]at e;omega
theorem Inv.tuple(I:Inv X zc σ H s)(h:SqT X.K H a xs):∃q:List au,Vals xs q/\IsTup s.heap a q.toArray/\xs.length<=be:=by
 rcases h with h|⟨o,q,n,hk,hc,hs,hz,r⟩
 ·obtain⟨z,q,r,p⟩:=h.ok I.hok;exact⟨q,r,p,z.1⟩
 ·refine⟨q.toList,r,⟨o,I.kIn a o hk,hc,n,by simpa using hs⟩,?_⟩;have e:=r.length;simp only[jz]at e;omega
theorem Inv.list_inj(I:Inv X zc σ H s)(h:SqL X.K H a xs)(h':SqL X.K H a ys):xs=ys:=by
 obtain⟨p,r,⟨o,n,e,_,_,d⟩,_⟩:=I.list h;obtain⟨its',r',⟨o',n',e',_,_,d'⟩,_⟩:=I.list h';rw[e]at e';cases e';rw[d]at d';injection d' with d1 _
 have:p=its':=by simpa using congrArg Array.toList d1
 subst this;exact r.inj r'
theorem Inv.tuple_inj(I:Inv X zc σ H s)(h:SqT X.K H a xs)(h':SqT X.K H a ys):xs=ys:=by
 obtain⟨p,r,⟨o,e,_,n,d⟩,_⟩:=I.tuple h;obtain⟨its',r',⟨o',e',_,n',d'⟩,_⟩:=I.tuple h';rw[e]at e';cases e';rw[d]at d';injection d' with d1 _
 have:p=its':=by simpa using congrArg Array.toList d1
 subst this;exact r.inj r'
end
abbrev Cx.wish (X:Cx) (E:au->ax->Prop):Cx:={ X with xe:=E }
abbrev Cx.nox (X:Cx):Cx:=X.wish fun _ _=>False
theorem Cx.Ok.wish{X:Cx}(ok:X.Ok)(E:au->ax->Prop):(X.wish E).Ok:=
 ⟨ok.mod,ok.kind,ok.glob,ok.blt,ok.above,ok.inj,ok.has,ok.cab,ok.hd,ok.frames,ok.stk,ok.exf,ok.bs,ok.bsz,ok.noex,ok.exfs,ok.funs,ok.frf⟩
theorem Cx.Ok.unwish{X:Cx}{E:au->ax->Prop}(ok:(X.wish E).Ok):X.Ok:=
 ⟨ok.mod,ok.kind,ok.glob,ok.blt,ok.above,ok.inj,ok.has,ok.cab,ok.hd,ok.frames,ok.stk,ok.exf,ok.bs,ok.bsz,ok.noex,ok.exfs,ok.funs,ok.frf⟩
section
variable {X:Cx}{zc:List (Addr×Obj)}{σ:St}{H:Hp}{s:ax}{E:au->ax->Prop}
theorem Inv.wish(I:Inv X zc σ H s)(E:au->ax->Prop):Inv (X.wish E) zc σ H s:=⟨I.ok.wish E,I.os,I.bare,I.base,I.loc,I.cell,I.free,I.freeC,I.pin,I.hok,I.len⟩
theorem Inv.unwish(I:Inv (X.wish E) zc σ H s):Inv X zc σ H s:=⟨I.ok.unwish,I.os,I.bare,I.base,I.loc,I.cell,I.free,I.freeC,I.pin,I.hok,I.len⟩
theorem SP.unwish{D:Ends}{f:Flow}{s':ax}(h:SP (X.wish E) zc D f s'):SP X zc D f s':=by
 cases f with
 |next=>obtain⟨σ',H',I,q⟩:=h;exact⟨σ',H',I.unwish,q⟩
 |brk=>obtain⟨σ',H',I,q⟩:=h;exact⟨σ',H',I.unwish,q⟩
 |cont=>obtain⟨σ',H',I,q⟩:=h;exact⟨σ',H',I.unwish,q⟩
 |ret u=>obtain⟨v,σ',H',I,r,q⟩:=h;exact⟨v,σ',H',I.unwish,r,q⟩
theorem PSs.nox{st:List Stmt}{t:TS}(h:PSs X.nox st t):PSs X st t:=fun zc s σ H D I hw=>
 kj (h zc s σ H D (I.wish _) hw) (fun _ _ q=>q.unwish) fun _ _ z=>iq z
end
section
variable {X:Cx}{st:Stmt}{rest:List Stmt}{t u:TS}{e:Expr}{te:TE}{pos:Pos}
def pK:TS:=fun D σ H=>D.nx σ H
def bN(t u:TS):TS:=fun D σ H=>t { D with nx:=u D } σ H
theorem bF:PSs X [] pK:=fun _ _ σ H _ I h=>wpAny_execs_nil ⟨σ,H,I,h⟩
theorem zh(h1:PS X st t)(h2:PSs X rest u):PSs X (st::rest) (bN t u):=by
 intro zc s σ H D I h;refine wpAny_execs_cons (thn (h1 zc s σ H { D with nx:=u D } I h) fun f s1 q=>?_);cases f with
 |next=>
  obtain⟨σ',H',I',q⟩:=q;exact h2 zc s1 σ' H' D I' q
 |ret v=>exact q
 |brk=>exact q
 |cont=>exact q
theorem zl(h1:PS X st t):PSs X [st] t:=by
 intro zc s σ H D I h;refine wpAny_execs_cons (thn (h1 zc s σ H D I h) fun f s1 q=>?_);cases f with
 |next=>exact wpAny_execs_nil q
 |ret v=>exact q
 |brk=>exact q
 |cont=>exact q
def u8:TS:=fun D σ H=>D.ct σ H
theorem Cc:PS X (.Continue pos) u8:=fun _ _ σ H _ I h=>wpAny_Continue ⟨σ,H,I,h⟩
theorem Inv.quiet{zc:List (Addr×Obj)}{σ:St}{H:Hp}{s:ax}(I:Inv X zc σ H s):interactive X.env=false:=by simp[interactive,I.ok.kind]
def pT(te:TE):TS:=fun D σ H=>te σ H fun _ H1=>D.nx σ H1
theorem iH(he:PE X e te)(hs:swapsWith e none pos.line X.env=pure false:=by rfl):PS X (.Expr e pos) (pT te):=by
 intro zc s σ H D I h;exact wpAny_Expr_any (thn (he zc s σ H _ I h) fun v s1 ⟨x,H1,I1,r1,q1⟩=>⟨σ,H1,I1,q1⟩) I.quiet hs
def oX(te:TE):TS:=fun D σ H=>te σ H D.rt
theorem zB(he:PE X e te):PS X (.Return (some e) pos) (oX te):=by
 intro zc s σ H D I h;exact wpAny_Return_some (thn (he zc s σ H _ I h) fun v s1 ⟨x,H1,I1,r1,q1⟩=>⟨x,σ,H1,I1,r1,q1⟩)
def lD(c:TT)(t u:TS):TS:=fun D σ H=>c σ H fun b H1=>if b=true then t D σ H1 else u D σ H1
theorem bD{c:Expr}{a b:List Stmt}{tc:TT}(hc:PT X c tc)(ha:PSs X a t)(hb:PSs X b u):PS X (.If c a b pos) (lD tc t u):=by
 intro zc s σ H D I h;refine wpAny_If (thn (hc zc s σ H _ I h) fun d s1 ⟨H1,I1,q1⟩=>?_);cases d with
 |true=>exact ha zc s1 σ H1 D I1 q1
 |false=>exact hb zc s1 σ H1 D I1 q1
end
abbrev TG:=V->St->Hp->(St->Hp->Prop)->Prop
abbrev TGs:=List V->St->Hp->(St->Hp->Prop)->Prop
def PG(X:Cx)(p:Expr)(t:TG):Prop:=
 ∀(zc:List (Addr×Obj)) (s:ax) (σ:St) (H:Hp) (v:V) (u:au) (Q:St->Hp->Prop),Inv X zc σ H s->RelV v u->t v σ H Q ->
  bh (model X.prog X.w) X.A (assign p X.env u) (fun _ s'=>∃ σ' H',Inv X zc σ' H' s'/\Q σ' H') X.xe s
def PGs(X:Cx)(ts:List Expr)(t:TGs):Prop:=
 ∀(zc:List (Addr×Obj)) (s:ax) (σ:St) (H:Hp) (vs:List V) (us:List au) (Q:St->Hp->Prop),Inv X zc σ H s->Vals vs us->t vs σ H Q ->
  bh (model X.prog X.w) X.A (assignInOrder ((ik ts X.env).map (·.2)) us) (fun _ s'=>∃ σ' H',Inv X zc σ' H' s'/\Q σ' H') X.xe s
abbrev TSet:=V->V->V->Hp->(Hp->Prop)->Prop
def PSet(X:Cx)(t:TSet):Prop:=
 ∀(zc:List (Addr×Obj)) (s:ax) (σ:St) (H:Hp) (o i v:V) (ov iv u:au) (Q:Hp->Prop),Inv X zc σ H s->RelV o ov->RelV i iv->RelV v u->t o i v H Q ->
  bh (model X.prog X.w) X.A (setItem ov iv u) (fun _ s'=>∃H',Inv X zc σ H' s'/\Q H') X.xe s
section
variable {X:Cx}{pos:Pos}
def fM(i:Nat):TG:=fun v σ H Q=>Q (σ.set i (some v)) H
theorem zq{i:Nat}{x:Str}(hN:X.N.Nodup)(hi:X.N[i]?=some x)(hx:Loc X.env.scope x)(hf:X.fn x=true\/X.env.scope.names.lookup x=some .local:=by first|exact .inl rfl|exact .inr rfl|assumption):PG X (.Name x pos) (fM i):=by
 intro zc s σ H v u Q I r h;exact wpAny_assign_Name (o7 I hN hi hx r (fun s' I'=>⟨_,H,I',h⟩) hf)
def uH:TGs:=fun vs σ H Q=>vs=[]/\Q σ H
def sB(t:TG)(u:TGs):TGs:=fun vs σ H Q=>∃v r,vs=v::r/\t v σ H fun σ' H'=>u r σ' H' Q
theorem gJ:PGs X [] uH:=by
 intro zc s σ H vs us Q I r h;obtain⟨e,h⟩:=h;subst e;cases r;exact assignInOrder_nil ⟨σ,H,I,h⟩
theorem zL{e:Expr}{es:List Expr}{t:TG}{u:TGs}(h1:PG X e t)(h2:PGs X es u)
  (hs:(ik (e::es) X.env).map (·.2)=assign e X.env::(ik es X.env).map (·.2):=by rfl):PGs X (e::es) (sB t u):=by
 intro zc s σ H vs us Q I r h;obtain⟨v,vr,e1,h⟩:=h;subst e1;cases r with
 |cons r rr=>
  rw[hs];refine assignInOrder_cons (thn (h1 zc s σ H _ _ _ I r h) fun _ s1 ⟨σ1,H1,I1,q1⟩=>?_);exact h2 zc s1 σ1 H1 _ _ Q I1 rr q1
def x0(K:bf)(n:Nat)(t:TGs):TG:=fun v σ H Q=>∃a xs,v=.ref a/\SqT K H a xs/\xs.length=n/\t xs σ H Q
theorem h8{es:List Expr}{k:Nat}{t:TGs}{n:Nat}(hc:X.calm=true)(h:PGs X es t)
  (hn:(ik es X.env).length=n:=by rfl) (hst:(ik es X.env).findIdx? (·.1)=none:=by rfl):PG X (.Tuple es k pos) (x0 X.K n t):=by
 intro zc s σ H v u Q I r hw;obtain⟨a,xs,e1,hq,hl,hw⟩:=hw;subst e1;cases r;obtain⟨p,rv,ht,hz⟩:=I.tuple hq;refine assign_Tuple_tuple (I.ok.hd hc) ht (by simp[hn,<- hl,rv.length]) hst fun h' hx=>?_;have I1:Inv X zc σ H { s with heap:=h' }:=I.kept (t':=s.toks) fun b o e=>hx b o (ff (cr e)) e;exact h zc _ σ H xs _ Q I1 (by simpa using rv) hw
def vV(to ti:TE)(t:TSet):TG:=fun v σ H Q=>to σ H fun o H1=>ti σ H1 fun i H2=>t o i v H2 fun H3=>Q σ H3
theorem tQ{o i:Expr}{to ti:TE}{t:TSet}(ho:PE X o to)(hi:PE X i ti)(hs:PSet X t)
  (ha:∀v,assign (.Subscript o i pos) X.env v=(do
   let ov <- holding [v] (eval o X.env)
   let iv <- holding [v,ov] (eval i X.env)
   standAt pos
   holding [v,ov,iv] (setItem ov iv v)
   release [v,ov,iv] []):=by intro _;rfl):PG X (.Subscript o i pos) (vV to ti t):=by
 intro zc s σ H v u Q I r h;rw[ha];refine aw (fv (thn (ho zc s σ H _ I h) fun ov s1 ⟨x,H1,I1,r1,q1⟩=>?_));refine aw (fv (thn (hi zc s1 σ H1 _ I1 q1) fun iv s2 ⟨y,H2,I2,r2,q2⟩=>?_));refine aw (wpAny_standAt (aw (fv (thn (hs zc s2 σ H2 x y v ov iv u _ I2 r1 r2 r q2) fun _ s3 ⟨H3,I3,q3⟩=>?_))));exact wpAny_release ⟨σ,H3,I3,q3⟩
def iB(te:TE)(g:TG):TS:=fun D σ H=>te σ H fun x H1=>g x σ H1 D.nx
theorem jQ{tg e:Expr}{te:TE}{g:TG}(he:PE X e te)(hg:PG X tg g)(hs:swapsWithSole [tg] e pos.line X.env=pure false:=by rfl)(hw:swappedStores [tg] e X.env=pure none:=by rfl)
  (h1:(ik [tg] X.env).map (·.2)=[assign tg X.env]:=by rfl):PS X (.Assign [tg] e pos) (iB te g):=by
 intro zc s σ H D I h;refine wpAny_Assign_stores (thn (he zc s σ H _ I h) fun v s1 ⟨x,H1,I1,r1,q1⟩=>?_) hs hw;rw[h1];exact thn (hg zc s1 σ H1 x v _ I1 r1 q1) fun _ s2 q=>q
theorem zN{i:Nat}{x:Str}{e:Expr}{te:TE}{pos':Pos}(hN:X.N.Nodup)(hi:X.N[i]?=some x)(hx:Loc X.env.scope x)(he:PE X e te)(hs:swapsWith e (some (.Name x pos')) pos.line X.env=pure false:=by rfl)(hf:X.fn x=true\/X.env.scope.names.lookup x=some .local:=by first|exact .inl rfl|exact .inr rfl|assumption):
  PS X (.Assign [.Name x pos'] e pos) (iB te (fM i)):=by
 intro zc s σ H D I h;refine wpAny_Assign_Name (thn (he zc s σ H _ I h) fun v s1 ⟨y,H1,I1,r1,q1⟩=>?_) hs;exact o7 I1 hN hi hx r1 (fun s2 I2=>⟨_,H1,I2,q1⟩) hf
end
structure It where
 go:Nat->Hp->Prop
 yld:Nat->Hp->V->Hp->Prop
 stop:Nat->Hp->Prop
def FpOk(X:Cx)(zc:List (Addr×Obj))(H:Hp)(b:Addr):Prop:=
 H b=none/\b≠X.env.locals/\b∉X.fs/\(b∈X.ex\/X.s₀.heap.objs.size<=b)/\(∀x c,X.env.cells.lookup x=some c->c≠b)/\∀p∈X.pn++zc,p.1≠b
theorem Inv.fpOk{X:Cx}{zc:List (Addr×Obj)}{σ:St}{H H':Hp}{s:ax}{b:Addr}(I:Inv X zc σ H s)(hb:s.heap.objs.size<=b)(hn:H' b=none):FpOk X zc H' b:=by
 refine⟨hn,ne_of_gt (cz I.lt hb),I.nofs hb,.inr (dm I.sz hb),fun x c e z=>?_,fun p hp z=>?_⟩
 ·obtain⟨v,q⟩:=I.cell x c e;exact absurd (cz q.lt (by rw[z];exact hb)) (jh _)
 ·exact absurd (cz (cr (I.pin p hp).1) (by rw[z];exact hb)) (jh _)
structure Turn(P:ca)(w:cy)(K:bf)(tg:Expr)(J:It)(fp:List Addr)(it:Addr)(tn:Nat->Heap->Prop):Prop where
 mem:it∈fp
 obj:∀i h,tn i h->∀b∈fp,∃o,h.get? b=some o/\∀v,o.data≠.cell v
 keep:∀i h h',tn i h->(∀b∈fp,∀o,h.get? b=some o->h'.get? b=some o)->tn i h'
 item:∀(X:Cx),X.prog=P->X.w=w->X.K=K->X.calm=true->∀(i:Nat) (zc:List (Addr×Obj)) (s:ax) (σ:St) (H:Hp) (E:au->ax->Prop),Inv X zc σ H s->(∀b∈fp,FpOk X zc H b)->tn i s.heap->J.go i H ->
  bh (model P w) X.A (pyNext (.ref it)) (fun r s1=>∃u,r=some u /\
   bh (model P w) X.A (letOwnedTupleGo tg (.ref it) u) (fun _ s2=>∃x H',Inv X zc σ H' s2/\RelV x u/\J.yld i H x H'/\tn (i+1) s2.heap/\∀b∈fp,H' b=none) E s1) E s
 done:∀(X:Cx),X.prog=P->X.w=w->X.K=K->X.calm=true->∀(i:Nat) (zc:List (Addr×Obj)) (s:ax) (σ:St) (H:Hp) (E:au->ax->Prop),Inv X zc σ H s->(∀b∈fp,FpOk X zc H b)->tn i s.heap->J.stop i H ->
  bh (model P w) X.A (pyNext (.ref it)) (fun r s1=>r=none/\Inv X zc σ H s1) E s
 self:∀(A:ef) (i:Nat) (s:ax) (Q:au->ax->Prop) (E:au->ax->Prop),tn i s.heap->Q (.ref it) s->bh (model P w) A (pyIter (.ref it)) Q E s
abbrev TI:=St->Hp->(It->Hp->Prop)->Prop
def PIE(X:Cx)(zc:List (Addr×Obj))(σ:St)(tg:Expr)(R:It->Hp->Prop)(p:au)(s2:ax):Prop:=
 ∃(it:Addr) (fp:List Addr) (tn:Nat->Heap->Prop) (J:It) (H':Hp),p=.ref it/\Inv X zc σ H' s2/\Turn X.prog X.w X.K tg J fp it tn/\tn 0 s2.heap/\(∀b∈fp,FpOk X zc H' b)/\R J H'
def PI(X:Cx)(tg iter:Expr)(wi:TI):Prop:=
 ∀(zc:List (Addr×Obj)) (s:ax) (σ:St) (H:Hp) (R:It->Hp->Prop),Inv X zc σ H s->wi σ H R ->
  bh (model X.prog X.w) X.A (eval iter X.env) (fun v s1=>bh (model X.prog X.w) X.A (pyIter v) (PIE X zc σ tg R) X.xe s1) X.xe s
theorem mX{M:Model}{A:ef}{E:au->ax->Prop}{s:ax}{tg:Expr}{it:Addr}{u:au}{o:Obj}{n:String}{vs:Array au}{Q:Unit->ax->Prop}(ho:s.heap.get? it=some o)(hc:o.cls=.type n)(hd:o.data=.fields vs)
    (hn:["enumerate","zip","dict_itemiterator","dict_reverseitemiterator","odict_iterator","itertools.zip_longest","itertools.pairwise"].contains n=false) (hQ:Q () s):bh M A (letOwnedTupleGo tg (.ref it) u) Q E s:=by
  unfold letOwnedTupleGo;cases tg<;>first
    |exact bj hQ
    | (cases u<;>first
        |exact bj hQ
        | (refine aw (wpAny_load ho ?_)
           rw[hc,hd];show bh M A (if (["enumerate","zip","dict_itemiterator","dict_reverseitemiterator","odict_iterator","itertools.zip_longest","itertools.pairwise"].contains n&&vs[0]?==some (rawInt _))=true then _ else _) Q E s;rw[bu (by intro h;rw[hn,Bool.false_and]at h;cases h)];exact bj hQ))
def Itl(K:bf)(a:Addr):It:=
 ⟨fun i H=>∃xs x,SqL K H a xs/\xs[i]?=some x,fun i H x H'=>H'=H/\∀xs,SqL K H a xs->xs[i]?=some x,fun i H=>∃xs,SqL K H a xs/\xs.length<=i⟩
def Itt(K:bf)(a:Addr):It:=
 ⟨fun i H=>∃xs x,SqT K H a xs/\xs[i]?=some x,fun i H x H'=>H'=H/\∀xs,SqT K H a xs->xs[i]?=some x,fun i H=>∃xs,SqT K H a xs/\xs.length<=i⟩
def Itr(lo:Int)(n:Nat):It:=⟨fun i _=>i<n,fun i H x H'=>H'=H/\x=.int (lo+i),fun i _=>n<=i⟩
theorem uZ{P:ca}{w:cy}{K:bf}{tg:Expr}(a it:Addr):Turn P w K tg (Itl K a) [it] it (fun i h=>h.IsListIter it a i) where
 mem:=by simp
 obj:=fun i h st b hb=>by
  have e:b=it:=by simpa using hb
  subst e;obtain⟨o,e,c,d⟩:=st;exact⟨o,e,fun v z=>by rw[d]at z;cases z⟩
 keep:=fun i h h' st k=>st.at fun o e=>k it yv o e
 item:=by
  intro X hP hw hK hc i zc s σ H E I hf st hg;subst hP hw hK;obtain⟨xs,x,hq,hx⟩:=hg;obtain⟨y,rv,p,hz⟩:=I.list hq;obtain⟨u,hu,ru⟩:=rv.get hx;obtain⟨f0,f1,f2,f3,f4,f5⟩:=hf it yv;refine wpAny_pyNext_list_item st p.isList (x:=u) (by simpa using hu) fun h' q sb=>?_;have I1:Inv X zc σ H { s with heap:=h' }:=I.turned (t':=s.toks) (fun b o hb e=>(sb.2 b hb).trans e) f0 f1 f3 f4 f5;obtain⟨o,e,c,d⟩:=id q;exact⟨u,rfl,mX (s:={ s with heap:=h' }) e c d dz ⟨x,H,I1,ru,⟨rfl,fun ys hy=>by rw[I.list_inj hy hq];exact hx⟩,q,fun b hb=>(hf b hb).1⟩⟩
 done:=by
  intro X hP hw hK hc i zc s σ H E I hf st hg;subst hP hw hK;obtain⟨xs,hq,hx⟩:=hg;obtain⟨y,rv,p,hz⟩:=I.list hq;obtain⟨f0,f1,f2,f3,f4,f5⟩:=hf it yv;have hl:=rv.length;exact wpAny_pyNext_list_end (I.ok.hd hc) st p.isList (by simp;omega) fun h' eb=>⟨rfl,I.turned (t':=s.toks) (fun b o hb e=>eb b o hb e) f0 f1 f3 f4 f5⟩
 self:=fun _ _ _ _ _ st h=>wpAny_pyIter_listiter st h
theorem Ah{P:ca}{w:cy}{K:bf}{tg:Expr}(a it:Addr):Turn P w K tg (Itt K a) [it] it (fun i h=>h.IsTupleIter it a i) where
 mem:=by simp
 obj:=fun i h st b hb=>by
  have e:b=it:=by simpa using hb
  subst e;obtain⟨o,e,c,d⟩:=st;exact⟨o,e,fun v z=>by rw[d]at z;cases z⟩
 keep:=fun i h h' st k=>st.at fun o e=>k it yv o e
 item:=by
  intro X hP hw hK hc i zc s σ H E I hf st hg;subst hP hw hK;obtain⟨xs,x,hq,hx⟩:=hg;obtain⟨q,rv,p,hz⟩:=I.tuple hq;obtain⟨u,hu,ru⟩:=rv.get hx;obtain⟨f0,f1,f2,f3,f4,f5⟩:=hf it yv;refine wpAny_pyNext_tuple_item st (show s.heap.IsTuple a q.toArray from p) (x:=u) (by simpa using hu) fun h' y sb=>?_;have I1:Inv X zc σ H { s with heap:=h' }:=I.turned (t':=s.toks) (fun b o hb e=>(sb.2 b hb).trans e) f0 f1 f3 f4 f5;obtain⟨o,e,c,d⟩:=id y;exact⟨u,rfl,mX (s:={ s with heap:=h' }) e c d dz ⟨x,H,I1,ru,⟨rfl,fun ys hy=>by rw[I.tuple_inj hy hq];exact hx⟩,y,fun b hb=>(hf b hb).1⟩⟩
 done:=by
  intro X hP hw hK hc i zc s σ H E I hf st hg;subst hP hw hK;obtain⟨xs,hq,hx⟩:=hg;obtain⟨q,rv,p,hz⟩:=I.tuple hq;obtain⟨f0,f1,f2,f3,f4,f5⟩:=hf it yv;have hl:=rv.length;exact wpAny_pyNext_tuple_end (I.ok.hd hc) st (show s.heap.IsTuple a q.toArray from p) (by simp;omega) fun h' eb=>⟨rfl,I.turned (t':=s.toks) (fun b o hb e=>eb b o hb e) f0 f1 f3 f4 f5⟩
 self:=fun _ _ _ _ _ st h=>wpAny_pyIter_tupleiter st h
theorem Fg{P:ca}{w:cy}{K:bf}{tg:Expr}(it:Addr)(lo:Int)(n:Nat):Turn P w K tg (Itr lo n) [it] it (fun i h=>IsRangeIter h it (lo+(i:Nat)*1) ((n:Int)-(i:Nat)) 1) where
 mem:=by simp
 obj:=fun i h st b hb=>by
  have e:b=it:=by simpa using hb
  subst e;exact⟨_,st,fun v z=>by
   have z':Data.fields _=Data.cell v:=z;cases z'⟩
 keep:=fun i h h' st k=>k it yv _ st
 item:=by
  intro X hP hw hK hc i zc s σ H E I hf st hg;subst hP hw hK;obtain⟨f0,f1,f2,f3,f4,f5⟩:=hf it yv;have W:=Walks.range (prog:=X.prog) (w:=X.w) (I.ok.hd hc) it lo 1 n;refine W.item i s _ _ hg st fun v h' tk hv p kk=>?_;obtain⟨t,rfl⟩:=hv;have I1:Inv X zc σ H { s with heap:=h',toks:=tk }:=I.turned (fun b o hb e=>kk b o (by simpa using hb) e) f0 f1 f3 f4 f5;refine⟨_,rfl,mX (s:={ s with heap:=h',toks:=tk }) (n:="range_iterator") p rfl rfl dz ⟨.int (lo+i),H,I1,⟨t,?_⟩,⟨rfl,rfl⟩,p,fun b hb=>(hf b hb).1⟩⟩;rw[Int.mul_one]
 done:=by
  intro X hP hw hK hc i zc s σ H E I hf st hg;subst hP hw hK;obtain⟨f0,f1,f2,f3,f4,f5⟩:=hf it yv;exact wpAny_pyNext_range_end (I.ok.hd hc) st (by have:n<=i:=hg;omega) fun h' eb=>⟨rfl,I.turned (t':=s.toks) (fun b o hb e=>eb b o hb e) f0 f1 f3 f4 f5⟩
 self:=fun _ _ _ _ _ st h=>wpAny_pyIter_rangeiter st h
end
section
section
variable {X:Cx}{tg:Expr}
def oY(K:bf)(tl:TE):TI:=fun σ H R=>tl σ H fun x H1=>∃a,x=.ref a/\(∃xs,SqL K H1 a xs)/\R (Itl K a) H1
theorem Ba{l:Expr}{tl:TE}(hl:PE X l tl):PI X tg l (oY X.K tl):=by
 intro zc s σ H R I h;refine thn (hl zc s σ H _ I h) fun v s1 ⟨x,H1,I1,r1,q1⟩=>?_;obtain⟨a,e,⟨xs,hq⟩,q⟩:=q1;subst e;cases r1;obtain⟨y,rv,p,hz⟩:=I1.list hq;refine jk p.isList ?_;refine⟨s1.heap.objs.size,[s1.heap.objs.size],_,_,H1,rfl,I1.kept (t':=s1.toks) fun b o e=>bb _ e,uZ a _,⟨_,bw _ rfl,rfl,rfl⟩,fun b hb=>?_,q⟩;have e:b=s1.heap.objs.size:=by simpa using hb
 subst e;exact I1.fpOk (bp _) (I1.hok.fresh (bp _))
def lE(wi:TI)(g:TG)(tb:TS):TS:=fun D σ H=>wi σ H fun J H1=>∃W:Nat->Nat->St->Hp->Prop,(∃m,W 0 m σ H1)/\∀i m σ H,W i m σ H ->
 (J.stop i H/\D.nx σ H)\/(J.go i H/\∃N:St->Hp->Prop,(∀ σ' H',N σ' H'->∃m',m'<m/\W (i+1) m' σ' H')/\∀x H',J.yld i H x H'->g x σ H' fun σ2 H2=>tb { D with nx:=N,ct:=N,bk:=D.nx } σ2 H2)
def jJ(fp:List Addr)(h:Heap):List (Addr×Obj):=fp.filterMap fun b=>(h.get? b).map fun o=>(b,o)
theorem mF{fp:List Addr}{h:Heap}{b:Addr}{o:Obj}(hb:b∈fp)(e:h.get? b=some o):(b,o)∈jJ fp h:=List.mem_filterMap.mpr ⟨b,hb,by rw[e];rfl⟩
theorem Cg{fp:List Addr}{h:Heap}{p:Addr×Obj}(hp:p∈jJ fp h):p.1∈fp/\h.get? p.1=some p.2:=by
 obtain⟨b,hb,e⟩:=List.mem_filterMap.mp hp;cases q:h.get? b with
 |none=>rw[q]at e;cases e
 |some o=>
  rw[q]at e;have e':(b,o)=p:=eo e;subst e';exact⟨hb,q⟩
theorem Inv.pinned{zc:List (Addr×Obj)}{σ:St}{H:Hp}{s:ax}{fp:List Addr}(I:Inv X zc σ H s)(hf:∀b∈fp,FpOk X zc H b)(ho:∀b∈fp,∃o,s.heap.get? b=some o/\∀v,o.data≠.cell v):Inv X (zc++jJ fp s.heap) σ H s:=
 I.pins_of fun p hp=>(mem_append.mp hp).elim (fun z=>I.pin p (bd _ z)) fun z=>by
  obtain⟨hb,e⟩:=Cg z;obtain⟨f0,f1,f2,_⟩:=hf p.1 hb;obtain⟨o,e',d⟩:=ho p.1 hb;rw[e]at e';cases e';exact⟨e,f0,f1,f2,d⟩
theorem Inv.unpinned{zc pl:List (Addr×Obj)}{σ:St}{H:Hp}{s:ax}(I:Inv X (zc++pl) σ H s):Inv X zc σ H s:=I.pins_of fun p hp=>I.pin p (bd _ (ba _ hp))
theorem cO{iter:Expr}{y:List Stmt}{wi:TI}{g:TG}{tb:TS}{pos:Pos}(hp:PassesOwn (model X.prog X.w) X.A X.env X.xe)(hc:X.calm=true)(hi:PI X tg iter wi)(hg:PG X tg g)(hb:PSs X y tb)
  (hs:∀x,foldedSetIterable iter X.env x=pure x:=by intro _;rfl):PS X (.For tg iter y [] pos) (lE wi g tb):=by
 intro zc s σ H D I h;refine wpAny_For (thn (hi zc s σ H _ I h) fun v s1 h1=>thn h1 fun ag s2 h2=>?_) hs;obtain⟨it,fp,tn,J,H2,e,I2,T,ae,f2,W,⟨m0,w0⟩,ab⟩:=h2;subst e
 have q:∀{H':Hp},(∀b∈fp,H' b=none)->∀b∈fp,FpOk X zc H' b:=fun hn b hb=>⟨hn b hb,(f2 b hb).2⟩;refine codeAny_forLoop_any (fun n s'=>∃i σ' H',Inv X zc σ' H' s'/\tn i s'.heap/\(∀b∈fp,H' b=none)/\W i n σ' H') ?_ m0 ⟨0,σ,H2,I2,ae,fun b hb=>(f2 b hb).1,w0⟩;rintro n s3 ⟨i,σ3,H3,I3,ac,aa,w3⟩;rcases ab i n σ3 H3 w3 with ⟨stop,qn⟩|⟨go,N,hN,step⟩
 ·refine kf hp (thn (T.done X rfl rfl rfl hc i zc s3 σ3 H3 X.xe I3 (q aa) ac stop) fun r s4 ⟨hr,I4⟩=>?_);subst hr;exact wpAny_execs_nil ⟨σ3,H3,I4,qn⟩
 ·refine kf hp (thn (T.item X rfl rfl rfl hc i zc s3 σ3 H3 X.xe I3 (q aa) ac go) fun r s4 ⟨u,hr,h4⟩=>?_);subst hr;refine kf hp (thn h4 fun _ s5 ⟨x,H5,I5,r5,y5,z,af⟩=>?_);have I5':=I5.pinned (q af) (T.obj _ _ z);refine kf hp (thn (hg _ s5 σ3 H5 x u _ I5' r5 (step x H5 y5)) fun _ s6 ⟨σ6,H6,I6,q6⟩=>?_);refine kf hp (thn (hb _ s6 σ6 H6 _ I6 q6) fun f s7 q7=>?_);have p:∀{σ7:St}{H7:Hp},Inv X (zc++jJ fp s5.heap) σ7 H7 s7->N σ7 H7->∃m,m<n/\∃i σ' H',Inv X zc σ' H' s7/\tn i s7.heap/\(∀b∈fp,H' b=none)/\W i m σ' H':=fun {σ7 H7} I7 n7=>by
   obtain⟨m',hm,w7⟩:=hN σ7 H7 n7;refine⟨m',hm,i+1,σ7,H7,I7.unpinned,T.keep _ _ _ z fun b hb o e=>(I7.pin (b,o) (bd _ (bd _ (mF hb e)))).1,fun b hb=>?_,w7⟩;obtain⟨o,e,d⟩:=T.obj _ _ z b hb;exact(I7.pin (b,o) (bd _ (bd _ (mF hb e)))).2.1
  cases f with
  |next=>obtain⟨σ7,H7,I7,n7⟩:=q7;exact p I7 n7
  |cont=>obtain⟨σ7,H7,I7,n7⟩:=q7;exact p I7 n7
  |brk=>obtain⟨σ7,H7,I7,q7⟩:=q7;exact⟨σ7,H7,I7.unpinned,q7⟩
  |ret v=>obtain⟨x7,σ7,H7,I7,r7,q7⟩:=q7;exact⟨x7,σ7,H7,I7.unpinned,r7,q7⟩
end
theorem BT{K:bf}{a:Addr}{xs:List V}{g:TG}{tb:TS}{D:Ends}{σ:St}{H:Hp}(Pv:Nat->St->Hp->Prop)(h0:Pv 0 σ H)(hl:∀i σ H,i<=xs.length->Pv i σ H->SqL K H a xs)
  (hs:∀i x σ H,xs[i]?=some x->Pv i σ H->g x σ H fun σ2 H2=>tb { D with nx:=Pv (i+1),ct:=Pv (i+1),bk:=D.nx } σ2 H2) (hd:∀ σ H,Pv xs.length σ H->D.nx σ H):
  ∃W:Nat->Nat->St->Hp->Prop,(∃m,W 0 m σ H)/\∀i m σ H,W i m σ H ->
   ((Itl K a).stop i H/\D.nx σ H)\/((Itl K a).go i H/\∃N:St->Hp->Prop,(∀ σ' H',N σ' H'->∃m',m'<m/\W (i+1) m' σ' H')/\∀x H',(Itl K a).yld i H x H'->g x σ H' fun σ2 H2=>tb { D with nx:=N,ct:=N,bk:=D.nx } σ2 H2):=by
 refine⟨fun i m σ H=>m=xs.length-i/\i<=xs.length/\Pv i σ H,⟨xs.length,yv,kh _,h0⟩,?_⟩;rintro i m σ H ⟨rfl,hi,p⟩;have q:=hl i σ H hi p;by_cases hlt:i<xs.length
 ·refine .inr ⟨⟨xs,xs[i],q,by simp[hlt]⟩,Pv (i+1),fun σ' H' p'=>⟨xs.length-(i+1),yw,rfl,hlt,p'⟩,fun x H' y=>?_⟩;obtain⟨e,y⟩:=y;subst e;exact hs i x σ _ (y xs q) p
 ·have e:i=xs.length:=yw
  subst e;exact .inl ⟨⟨xs,q,bp _⟩,hd σ H p⟩
end
section
abbrev R2:=V->V->Hp->VK->Prop
def OpR(X:Cx)(f:au->au->Sem au)(r:R2):Prop:=
 ∀(zc:List (Addr×Obj)) (s:ax) (σ:St) (H:Hp) (x y:V) (v u:au) (Q:VK),Inv X zc σ H s->RelV x v->RelV y u->r x y H Q ->
  bh (model X.prog X.w) X.A (f v u) (EP X zc σ Q) X.xe s
def UnR(X:Cx)(f:au->Sem au)(r:V->Hp->VK->Prop):Prop:=
 ∀(zc:List (Addr×Obj)) (s:ax) (σ:St) (H:Hp) (x:V) (v:au) (Q:VK),Inv X zc σ H s->RelV x v->r x H Q ->
  bh (model X.prog X.w) X.A (f v) (EP X zc σ Q) X.xe s
def CallR(X:Cx)(f:au)(r:List V->Hp->VK->Prop):Prop:=
 ∀(zc:List (Addr×Obj)) (s:ax) (σ:St) (H:Hp) (xs:List V) (us:List au) (Q:VK),Inv X zc σ H s->Vals xs us->r xs H Q ->
  bh (model X.prog X.w) X.A (call f us) (EP X zc σ Q) X.xe s
def TruR(X:Cx)(r:V->Hp->(Bool->Hp->Prop)->Prop):Prop:=
 ∀(zc:List (Addr×Obj)) (s:ax) (σ:St) (H:Hp) (x:V) (v:au) (Q:Bool->Hp->Prop),Inv X zc σ H s->RelV x v->r x H Q ->
  bh (model X.prog X.w) X.A (truthy v) (TP X zc σ Q) X.xe s
def tOp(r:R2)(ta tb:TE):TE:=fun σ H Q=>ta σ H fun x H1=>tb σ H1 fun y H2=>r x y H2 Q
def tUn(r:V->Hp->VK->Prop)(ta:TE):TE:=fun σ H Q=>ta σ H fun x H1=>r x H1 Q
def rI(C:Int->Int->Prop)(g:Int->Int->V):R2:=fun x y H Q=>∃i j,x=.int i/\y=.int j/\C i j/\Q (g i j) H
def rI0(g:Int->Int->V):R2:=fun x y H Q=>∃i j,x=.int i/\y=.int j/\Q (g i j) H
def rU(g:Int->V):V->Hp->VK->Prop:=fun x H Q=>∃i,x=.int i/\Q (g i) H
section
variable {X:Cx}{a b c:Expr}{ta tb tc:TE}{pos:Pos}
theorem qE(ha:PE X a ta)(hb:PE X b tb){zc:List (Addr×Obj)}{s:ax}{σ:St}{H:Hp}{R:V->V->Hp->Prop}(I:Inv X zc σ H s)
  (h:ta σ H fun x H1=>tb σ H1 fun y H2=>R x y H2) {Q:au->ax->Prop}{f:au->au->Sem au}
  (hf:∀v u s2 x y H2,Inv X zc σ H2 s2->RelV x v->RelV y u->R x y H2->bh (model X.prog X.w) X.A (f v u) Q X.xe s2):
  bh (model X.prog X.w) X.A (eval a X.env) (fun v s₁=>bh (model X.prog X.w) X.A (eval b X.env) (fun u s₂=>bh (model X.prog X.w) X.A (f v u) Q X.xe s₂) X.xe s₁) X.xe s:=by
 refine thn (ha zc s σ H _ I h) fun v s1 ⟨x,H1,I1,r1,q1⟩=>?_;refine thn (hb zc s1 σ H1 _ I1 q1) fun u s2 ⟨y,H2,I2,r2,q2⟩=>?_;exact hf v u s2 x y H2 I2 r1 r2 q2
theorem zF{op:Operator}{r:R2}(ho:OpR X (gf op) r)(ha:PE X a ta)(hb:PE X b tb):PE X (.BinOp a op b pos) (tOp r ta tb):=by
 intro zc s σ H Q I h;exact wpAny_BinOp (qE ha hb I h fun v u s2 x y H2 I2 rx ry q=>ho zc s2 σ H2 x y v u Q I2 rx ry q)
theorem oM{op:UnaryOp}{r:V->Hp->VK->Prop}(ho:UnR X (unaryOp op) r)(ha:PE X a ta):PE X (.UnaryOp op a pos) (tUn r ta):=by
 intro zc s σ H Q I h;exact UnaryOp_ (thn (ha zc s σ H _ I h) fun v s1 ⟨x,H1,I1,r1,q1⟩=>ho zc s1 σ H1 x v Q I1 r1 q1)
theorem opI{f:au->au->Sem au}{C:Int->Int->Prop}{g:Int->Int->Int}
  (rule:∀(i j:Int) (t u:Tok) (s:ax) (Q:au->ax->Prop) (E:au->ax->Prop),C i j->Q (.int (g i j) s.toks) { s with toks:=s.toks+1 }->bh (model X.prog X.w) X.A (f (.int i t) (.int j u)) Q E s):
  OpR X f (rI C fun i j=>.int (g i j)):=by
 intro zc s σ H x y v u Q I rx ry h;obtain⟨i,j,rfl,rfl,hc,q⟩:=h;obtain⟨t,rfl⟩:=rx;obtain⟨t',rfl⟩:=ry;exact rule i j t t' s _ _ hc ⟨.int (g i j),H,I.tok _,⟨_,rfl⟩,q⟩
theorem vK{f:au->au->Sem au}{g:Int->Int->Int}
  (rule:∀(i j:Int) (t u:Tok) (s:ax) (Q:au->ax->Prop) (E:au->ax->Prop),Q (.int (g i j) s.toks) { s with toks:=s.toks+1 }->bh (model X.prog X.w) X.A (f (.int i t) (.int j u)) Q E s):
  OpR X f (rI0 fun i j=>.int (g i j)):=by
 intro zc s σ H x y v u Q I rx ry h;obtain⟨i,j,rfl,rfl,q⟩:=h;obtain⟨t,rfl⟩:=rx;obtain⟨t',rfl⟩:=ry;exact rule i j t t' s _ _ ⟨.int (g i j),H,I.tok _,⟨_,rfl⟩,q⟩
theorem r8{f:au->au->Sem au}{g:Int->Int->Bool}
  (rule:∀(i j:Int) (t u:Tok) (s:ax) (Q:au->ax->Prop) (E:au->ax->Prop),Q (.bool (g i j)) s->bh (model X.prog X.w) X.A (f (.int i t) (.int j u)) Q E s):
  OpR X f (rI0 fun i j=>.bl (g i j)):=by
 intro zc s σ H x y v u Q I rx ry h;obtain⟨i,j,rfl,rfl,q⟩:=h;obtain⟨t,rfl⟩:=rx;obtain⟨t',rfl⟩:=ry;exact rule i j t t' s _ _ ⟨.bl (g i j),H,I,rfl,q⟩
def CDivN(i j:Int):Prop:=j≠0/\j.natAbs<1073741824
def CPow(i j:Int):Prop:=0<=j/\j<=1000000/\i.natAbs<2 ^ 64
theorem Ca:OpR X (gf .Add) (rI0 fun i j=>.int (i+j)):=vK fun _ _ _ _ _ _ _ q=>add_int q
theorem fU:OpR X (gf .Sub) (rI0 fun i j=>.int (i-j)):=vK fun _ _ _ _ _ _ _ q=>sub_int q
theorem Fb:OpR X (gf .FloorDiv) (rI CDivN fun i j=>.int (i.fdiv j)):=opI fun _ _ _ _ _ _ _ hc q=>floordiv_int hc.1 q (.inl (PyProof.noPylong_small hc.2))
theorem lI:OpR X (gf .Mod) (rI (fun _ j=>0<j) fun i j=>.int (i % j)):=opI fun i j _ _ _ _ _ hc q=>by
 have h1:(0:Int)<j:=hc;exact mod_int' yw (by rw[Int.fmod_eq_emod_of_nonneg i yw];exact q)
theorem m6:OpR X (gf .Pow) (rI CPow fun i j=>.int (i ^ j.toNat)):=opI fun _ _ _ _ _ _ _ hc q=>pow_int_small hc.1 hc.2.1 hc.2.2 q
theorem unI{f:au->Sem au}{g:Int->Int}
  (rule:∀(i:Int) (t:Tok) (s:ax) (Q:au->ax->Prop) (E:au->ax->Prop),Q (.int (g i) s.toks) { s with toks:=s.toks+1 }->bh (model X.prog X.w) X.A (f (.int i t)) Q E s):
  UnR X f (rU fun i=>.int (g i)):=by
 intro zc s σ H x v Q I rx h;obtain⟨i,rfl,q⟩:=h;obtain⟨t,rfl⟩:=rx;exact rule i t s _ _ ⟨.int (g i),H,I.tok _,⟨_,rfl⟩,q⟩
theorem pW:UnR X (unaryOp .USub) (rU fun i=>.int (-i)):=unI fun _ _ _ _ _ q=>neg_int q
end
section
variable {X:Cx}{a b c:Expr}{ta tb tc:TE}{pos:Pos}
theorem uF{zc:List (Addr×Obj)}{σ:St}{H:Hp}{s:ax}{Q:VK}{k k':Bool}(I:Inv X zc σ H s)(q:Q (.bl k) H)(e:k=k'):EP X zc σ Q (.bool k') s:=by
 subst e;exact⟨.bl k,H,I,rfl,q⟩
theorem qL:OpR X (fj .Lt) (rI0 fun i j=>.bl (decide (i<j))):=r8 fun _ _ _ _ _ _ _ q=>lt_int q
theorem mT:OpR X (fj .LtE) (rI0 fun i j=>.bl (decide (i<=j))):=r8 fun _ _ _ _ _ _ _ q=>le_int q
theorem Bh:OpR X (fj .GtE) (rI0 fun i j=>.bl (decide (j<=i))):=r8 fun _ _ _ _ _ _ _ q=>ge_int q
theorem FO:OpR X (fj .IsNot) (fun x y H Q=>y=.non/\Q (.bl (!decide (x=.non))) H):=by
 intro zc s σ H x y v u Q I rx ry h;obtain⟨rfl,q⟩:=h;cases ry;refine isnot_none_gen (uF I q ?_);cases x<;>first
  | (cases rx;rfl)
  | (obtain⟨t,rfl⟩:=rx;rfl)
theorem DV:OpR X (fj .NotIn) (fun x y H Q=>∃i j,x=.str i/\y=.str j/\Q (.bl (!(!(Builtin.Str.occurrences j i 0 j.length 1).isEmpty))) H):=by
 intro zc s σ H x y v u Q I rx ry h;obtain⟨i,j,rfl,rfl,q⟩:=h;obtain⟨t,rfl⟩:=rx;obtain⟨t',rfl⟩:=ry;exact notIn_str (uF I q rfl)
theorem OpR.or{f:au->au->Sem au}{r r':R2}(h:OpR X f r)(h':OpR X f r'):OpR X f (fun x y H Q=>r x y H Q\/r' x y H Q):=by
 intro zc s σ H x y v u Q I rx ry q;rcases q with q|q
 ·exact h zc s σ H x y v u Q I rx ry q
 ·exact h' zc s σ H x y v u Q I rx ry q
theorem nomark(b:Expr){op:CmpOp}(h:op≠.In:=by decide)(h2:op≠.NotIn:=by decide):behindInMarks op b=false:=by
 have e1:(op==CmpOp.In)=false:=by cases op<;>first|rfl|exact absurd rfl h
 have e2:(op==CmpOp.NotIn)=false:=by cases op<;>first|rfl|exact absurd rfl h2
 cases b<;>simp[behindInMarks,e1,e2]
theorem mQ{op:CmpOp}{r:R2}(ho:OpR X (fj op) r)(ha:PE X a ta)(hb:PE X b tb)(hm:behindInMarks op b=false):PE X (.Compare a [op] [b] pos) (tOp r ta tb):=by
 intro zc s σ H Q I h;exact wpAny_Compare1 (qE ha hb I h fun v u s2 x y H2 I2 rx ry q=>ho zc s2 σ H2 x y v u Q I2 rx ry q) hm
def nI(t:TE):TT:=fun σ H Q=>t σ H fun x H'=>∃k,x=.bl k/\Q k H'
theorem bW{op:CmpOp}{r:R2}(ho:OpR X (fj op) r)(ha:PE X a ta)(hb:PE X b tb)(hm:behindInMarks op b=false):PT X (.Compare a [op] [b] pos) (nI (tOp r ta tb)):=by
 intro zc s σ H Q I h;refine wpAny_isTrue_Compare1 (thn (ha zc s σ H _ I h) fun v s1 ⟨x,H1,I1,r1,q1⟩=>thn (hb zc s1 σ H1 _ I1 q1) fun u s2 ⟨y,H2,I2,r2,q2⟩=>
  thn (ho zc s2 σ H2 x y v u _ I2 r1 r2 q2) fun c s3 ⟨z,H3,I3,r3,k,e,q3⟩=>?_) hm
 subst e;cases r3;exact fx ⟨H3,I3,q3⟩
def xX(r r':R2)(ta tb tc:TE):TE:=fun σ H Q=>ta σ H fun x H1=>tb σ H1 fun y H2=>r x y H2 fun z H3=>∃k,z=.bl k /\
 (if k=true then tc σ H3 fun w' H4=>r' y w' H4 Q else Q (.bl false) H3)
theorem y8{op p:CmpOp}{r r':R2}(ho:OpR X (fj op) r)(q:OpR X (fj p) r')(ha:PE X a ta)(hb:PE X b tb)(hc:PE X c tc)
  (hm:lastMarks [op,p] [b,c]=false:=by with_unfolding_all rfl):PE X (.Compare a [op,p] [b,c] pos) (xX r r' ta tb tc):=by
 intro zc s σ H Q I h;refine Compare_chain (thn (ha zc s σ H _ I h) fun v s1 ⟨x,H1,I1,r1,q1⟩=>chain_link (thn (hb zc s1 σ H1 _ I1 q1) fun u s2 ⟨y,H2,I2,r2,q2⟩=>
  thn (ho zc s2 σ H2 x y v u _ I2 r1 r2 q2) fun d s3 ⟨z,H3,I3,r3,k,e,q3⟩=>?_)) hm
 subst e;cases r3;refine fx ?_;cases k with
 |false=>exact ite_ff ⟨.bl false,H3,I3,rfl,q3⟩
 |true=>exact ite_tt (chain_last (thn (hc zc s3 σ H3 _ I3 q3) fun w' s4 ⟨z',H4,I4,r4,q4⟩=>q zc s4 σ H4 y z' u w' Q I4 r2 r4 q4))
def TruV(K:bf)(x:V)(H:Hp)(k:Bool):Prop:=
 match x with
 | .non=>k=false
 | .bl b=>k=b
 | .int i=>k=(i != 0)
 | .str y=>y.length<=be/\k=((y.length:Int) != 0)
 | .byt y=>y.size<=be/\k=((y.size:Int) != 0)
 | .ref p=>(∃xs,SqL K H p xs/\k=!xs.isEmpty)\/(∃xs,SqT K H p xs/\k=!xs.isEmpty)\/∃kvs,H p=some (.dK kvs)/\k=!kvs.isEmpty
 |_=>False
theorem BU{κ:Type}{kvs:List (κ×V)}{vs:List (κ×au)}(r:KV kvs vs):(!vs.isEmpty)=!kvs.isEmpty:=by
 cases r<;>rfl
theorem u9{xs:List V}{p:List au}(r:Vals xs p):(!p.toArray.isEmpty)=!xs.isEmpty:=by
 cases r<;>simp
theorem line63:(be:Nat)<2 ^ 63:=by rw[sizeLine_eq];decide
theorem Bn:TruR X (fun x H Q=>∃k,TruV X.K x H k/\Q k H):=by
 intro zc s σ H x v Q I rx h;obtain⟨k,e,q⟩:=h;have hl:=line63;have hs:be=16777216:=sizeLine_eq;cases x with
 |non=>
  cases rx;have e':k=false:=e;subst e';exact truthy_none ⟨H,I,q⟩
 |bl b=>
  cases rx;have e':k=b:=e;subst e';exact fx ⟨H,I,q⟩
 |int i=>
  obtain⟨t,rfl⟩:=rx;have e':k=(i != 0):=e;subst e';exact PySem.P.truthy_int ⟨H,I,q⟩
 |str y=>
  obtain⟨t,rfl⟩:=rx;obtain⟨hy,e'⟩:y.length<=be/\k=((y.length:Int) != 0):=e;subst e';exact PySem.P.truthy_str yw ⟨H,I.tok _,q⟩
 |byt y=>
  obtain⟨t,rfl⟩:=rx;obtain⟨hy,e'⟩:y.size<=be/\k=((y.size:Int) != 0):=e;subst e';exact W.truthy_bytes yw ⟨H,I.tok _,q⟩
 |ref p=>
  cases rx;have e':(∃xs,SqL X.K H p xs/\k=!xs.isEmpty)\/(∃xs,SqT X.K H p xs/\k=!xs.isEmpty)\/∃kvs,H p=some (.dK kvs)/\k=!kvs.isEmpty:=e;rcases e' with ⟨xs,hx,e'⟩|⟨xs,hx,e'⟩|⟨kvs,hx,e'⟩
  ·subst e';obtain⟨aa,r,pl,hz⟩:=I.list hx;have z:=r.length;exact wpAny_truthy_list pl.isList (by simp only[bv];omega) ⟨H,I.tok _,by rw[u9 r];exact q⟩
  ·subst e';obtain⟨aa,r,pl,hz⟩:=I.tuple hx;have z:=r.length;exact truthy_tuple pl (by simp only[bv];omega) ⟨H,I.tok _,by rw[u9 r];exact q⟩
  ·subst e';obtain⟨hz,hS,vs,r,m⟩:kvs.length<=be/\(p==gq)=false/\∃vs,KV kvs vs/\s.heap.DictOf (zZ X.prog X.w) p vs:=I.hok p _ hx;have z:kvs.length=vs.length:=Paired.length r;exact wpAny_truthy_dict hS m yw ⟨H,I.tok _,by rw[BU r];exact q⟩
 |_=>exact(show False from e).elim
theorem zV(ha:PE X a ta)(he:∀whole,isTrue a X.env whole=(do let v <- whole;standAt a.pos;holding [v] (truthy v))):
  PT X a (fun σ H Q=>ta σ H fun x H'=>∃k,TruV X.K x H' k/\Q k H'):=by
 intro zc s σ H Q I h;exact isTrue_plain (thn (ha zc s σ H _ I h) fun v s1 ⟨x,H1,I1,r1,q1⟩=>Bn zc s1 σ H1 x v Q I1 r1 q1) (he _)
theorem Cp:OpR X (gf .Add) (fun x y H Q=>∃i j,x=.str i/\y=.str j/\i.length+j.length<=be/\Q (.str (i++j)) H):=by
 intro zc s σ H x y v u Q I rx ry h;obtain⟨i,j,rfl,rfl,hz,q⟩:=h;obtain⟨t,rfl⟩:=rx;obtain⟨t',rfl⟩:=ry;exact add_str (fun t' tk=>⟨.str (i++j),H,I.tok _,⟨_,rfl⟩,q⟩) hz
theorem vals1{x:V}{us:List au}(r:Vals [x] us):∃u,us=[u]/\RelV x u:=by
 cases r with
 |cons r1 r2=>cases r2;exact⟨_,rfl,r1⟩
theorem vals2{x y:V}{us:List au}(r:Vals [x,y] us):∃u w',us=[u,w']/\RelV x u/\RelV y w':=by
 cases r with
 |cons r1 r2=>
  cases r2 with
  |cons r3 r4=>cases r4;exact⟨_,_,rfl,r1,r3⟩
theorem xK:CallR X (.builtin "abs") (fun xs H Q=>∃i,xs=[.int i]/\Q (.int (if i<0 then -i else i)) H):=by
 intro zc s σ H xs us Q I r h;obtain⟨i,rfl,q⟩:=h;obtain⟨u,rfl,t,rfl⟩:=vals1 r;exact call_abs_int fun u tk=>⟨.int (if i<0 then -i else i),H,I.tok _,⟨_,rfl⟩,q⟩
theorem EV(hc:X.calm=true):CallR X (.builtin "max") (fun xs H Q=>∃i j,xs=[.int i,.int j]/\Q (.int (if j>i then j else i)) H):=by
 intro zc s σ H xs us Q I r h;obtain⟨i,j,rfl,q⟩:=h;obtain⟨u,w',rfl,⟨t,rfl⟩,⟨t',rfl⟩⟩:=vals2 r;refine max_two_ints (I.ok.hd hc) fun h' tk k=>⟨_,H,I.kept k,?_,q⟩;by_cases hj:j>i
 ·rw[cb hj,cb hj];exact⟨_,rfl⟩
 ·rw[bu hj,bu hj];exact⟨_,rfl⟩
theorem EQ:CallR X (.type "int") (fun xs H Q=>(∃i,xs=[.int i]/\Q (.int i) H)\/∃k,xs=[.bl k]/\Q (.int (if k then 1 else 0)) H):=by
 intro zc s σ H xs us Q I r h;rcases h with ⟨i,rfl,q⟩|⟨k,rfl,q⟩
 ·obtain⟨u,rfl,t,rfl⟩:=vals1 r;exact call_int_int ⟨.int i,H,I,⟨_,rfl⟩,q⟩
 ·obtain⟨u,rfl,r1⟩:=vals1 r;cases r1;exact call_int_bool ⟨.int (if k then 1 else 0),H,I.tok _,⟨_,rfl⟩,q⟩
end
end
section
structure ObjM(h:Heap)(x dx C:Addr)(mA:Str->Option au):Prop where
 obj:h.get? x=some (W.instObj C dx)
 ns:h.Ns1 dx mA
 ne:dx≠x
theorem Ft{h:Heap}{dx:Addr}{mA:Str->Option au}(n:h.Ns1 dx mA):∃od,h.get? dx=some od/\∀name,W.lookIn name od=some (mA name):=by
 obtain⟨o,es,ep,ho,hd,hk,_,hm⟩:=n;refine⟨o,ho,fun name=>?_⟩;have e:=hm name;unfold nsFind findBy at e;rw[<- Array.find?_toList]at e;unfold W.lookIn;rw[hd];dsimp only;split
 ·rename_i y q;rw[q]at e;exact congrArg some e
 ·rename_i q;rw[q]at e;have a:es.toList.any (·.refKey)=false:=by
   rw[List.any_eq_false];intro y hy;obtain⟨z,t,p⟩:=hk y (Array.mem_toList_iff.mp hy);simp[DictEntry.refKey,p]
  have a':¬ es.toList.any (·.refKey)=true:=by rw[a];exact fh
  rw[bu a'];exact congrArg some e
theorem ObjM.look{h:Heap}{x dx C:Addr}{mA:Str->Option au}(I:ObjM h x dx C mA):∃od,W.InstAt h x (W.instObj C dx) C (some od)/\∀name,W.lookIn name od=some (mA name):=
 let ⟨od,ho,hl⟩:=Ft I.ns
 ⟨od,⟨I.obj,rfl,rfl,ho⟩,hl⟩
theorem RelO.some_of{v:V}{o:Option au}(r:RelO (some v) o):∃u,o=some u/\RelV v u:=by
 cases o with
 |none=>exact(show False from r).elim
 |some u=>exact⟨u,rfl,r⟩
section
variable {P:ca}{w:cy}{H H':Hp}{h h':Heap}{a C dx:Addr}{fs fs':List (Str×V)}
theorem Dy(hok:HOk P w H h)(e:H a=some (.ins C dx fs)):∃mA,ObjM h a dx C mA/\(∀f,RelO (fs.lookup f) (mA f))/\PySem.Within mA (fs.map (·.1))/\fs.length<=1000/\H dx=some (.own a):=by
 obtain⟨d,z,ne,ob,mA,n,r,q⟩:=(show ObjOk P w H h a (.ins C dx fs)from hok a _ e);exact⟨mA,⟨ob,n,ne⟩,r,q,z,d⟩
end
structure Cls(K:bf)(C:Addr):Prop where
 pg:W.plainGet K C Str.empty=true
 hd:W.hasDictIn K C=true
 po:W.plainOver K C=true
 sa:W.findIn K (.ref C) "__setattr__" = some (some (.builtin "object.__setattr__"))
theorem Cls.get{K:bf}{C:Addr}(c:Cls K C)(f:Str):W.plainGet K C f=true:=c.pg
section
variable {X:Cx}{zc:List (Addr×Obj)}{σ:St}{H:Hp}{s:ax}{A:ef}{E:au->ax->Prop}{Q:au->ax->Prop}{c:au}{b:Bool}
inductive TyOf (K:bf) (H:Hp):V->au->Prop where
 |non:TyOf K H .non (.type "NoneType")
 |bl (x:Bool):TyOf K H (.bl x) (.type "bool")
 |int (i:Int):TyOf K H (.int i) (.type "int")
 |str (x:Str):TyOf K H (.str x) (.type "str")
 |flt (x:UInt64):TyOf K H (.flt x) (.type "float")
 |lst {a:Addr}{xs:List V} (e:H a=some (.lst xs)):TyOf K H (.ref a) (.type "list")
 |frz {a:Addr}{o:Obj}{xs:List V} (e:H a=some (.frz o (.lst xs))):TyOf K H (.ref a) (.type "list")
 |tup {a:Addr}{xs:List V} (e:H a=some (.tup xs)):TyOf K H (.ref a) (.type "tuple")
 |dK {a:Addr}{kvs:List (Key×V)} (e:Rd H a (.dK kvs)):TyOf K H (.ref a) (.type "dict")
 |dT {a:Addr}{kvs:List (List Key×V)} (e:Rd H a (.dT kvs)):TyOf K H (.ref a) (.type "dict")
 |ins {a C dx:Addr}{fs:List (Str×V)} (e:H a=some (.ins C dx fs)) (cl:Cls K C) (ha:W.findIn K (.ref C) "__class__" = some (some (.builtin "object.__class__")))
   (hn:W.specialIn K (.builtin "object.__class__") "__get__" = some (some (.builtin "getset_descriptor.__get__"))) (htk:W.takesIn K (.builtin "object.__class__")=some true)
   (hm:W.mroIn K C (.type "object")=some true):TyOf K H (.ref a) (.ref C)
theorem F1{x:V}{u t:au}(I:Inv X zc σ H s)(rx:RelV x u)(ty:TyOf X.K H x t)(e:W.kitOne X.K t c=some b)(h:∀tk,Q (.bool b) { s with toks:=tk }):
  bh (model X.prog X.w) A (call (.builtin "isinstance") [u,c]) Q E s:=by
 cases ty with
 |non=>cases (show u=jq from rx);exact ji W.kitx_none I.kIn ir e (fun z=>nomatch z) h
 |bl y=>cases (show u=Value.bool y from rx);exact ji W.kitx_bool I.kIn ir e (fun z=>nomatch z) h
 |int i=>obtain⟨t,q⟩:=(show ∃t,u=jv i t from rx);cases q;exact ji W.kitx_int I.kIn ir e (fun z=>nomatch z) h
 |str y=>obtain⟨t,q⟩:=(show ∃t,u=Value.str y t from rx);cases q;exact ji W.kitx_str I.kIn ir e (fun z=>nomatch z) h
 |flt y=>obtain⟨t,q⟩:=(show ∃t,u=Value.float y t from rx);cases q;exact ji W.kitx_float I.kIn ir e (fun z=>nomatch z) h
 | @lst a xs ea=>
  cases (show u=cw a from rx);obtain⟨_,_,n,_,h1⟩:=(show ObjOk X.prog X.w H s.heap a (.lst xs)from I.hok a _ ea);exact ji W.kitx_list I.kIn ⟨_,h1,rfl⟩ e (fun z=>nomatch z) h
 | @frz a ob xs ea=>
  cases (show u=cw a from rx);obtain⟨_,_,_,n,_,h1⟩:=(show ObjOk X.prog X.w H s.heap a (.frz ob (.lst xs))from I.hok a _ ea);exact ji W.kitx_list I.kIn ⟨_,h1,rfl⟩ e (fun z=>nomatch z) h
 | @tup a xs ea=>
  cases (show u=cw a from rx);obtain⟨_,_,_,p⟩:=(show ObjOk X.prog X.w H s.heap a (.tup xs)from I.hok a _ ea);obtain⟨o,h1,h2,_⟩:=p;exact ji W.kitx_tuple I.kIn ⟨o,h1,h2⟩ e (fun z=>nomatch z) h
 | @dK a kvs ea=>
  cases (show u=cw a from rx);obtain⟨_,_,vs,_,p⟩:=(show ObjOk X.prog X.w H s.heap a (.dK kvs)from ea.ok I.hok);obtain⟨o,es,ep,h1,h2,_⟩:=p;exact ji W.kitx_dict I.kIn ⟨o,h1,h2.1⟩ e (fun z=>nomatch z) h
 | @dT a kvs ea=>
  cases (show u=cw a from rx);obtain⟨_,_,xs,_,o,es,ep,h1,h2,_⟩:=(show ObjOk X.prog X.w H s.heap a (.dT kvs)from ea.ok I.hok);exact ji W.kitx_dict I.kIn ⟨o,h1,h2.1⟩ e (fun z=>nomatch z) h
 | @ins a C dx fs ea cl ha hn htk hm=>
  cases (show u=cw a from rx);obtain⟨mA,O,_⟩:=Dy I.hok ea;obtain⟨od,J,_⟩:=O.look;exact ji (W.kitx_own (cl.get _) cl.hd ha hn htk hm) I.kIn J e (fun z=>nomatch z) h
end
end
section
structure Room(k:Nat)(A:ef):Prop where
 hd:A.handled=none
 dp:A.depth+3*k+5<recursionLimit
 un:A.units+16*k+200<jc
theorem Room.mono{j k:Nat}{A:ef}(r:Room k A)(h:j<=k):Room j A:=⟨r.hd,by have:=r.dp;omega,by have:=r.un;omega⟩
theorem Room.deeper{k:Nat}{A:ef}(r:Room (k+1) A)(env:Env):Room k (A.deeper env):=
 ⟨r.hd,by have:=r.dp;show A.depth+1+3*k+5<_;omega,by have:=r.un;show A.units+3+16*k+200<_;omega⟩
theorem Room.depth{k:Nat}{A:ef}(r:Room k A):A.depth<recursionLimit:=by have:=r.dp;omega
theorem Room.units{k:Nat}{A:ef}(r:Room k A):A.units+64<jc:=by have:=r.un;omega
def gE:TA:=fun _ H Q=>Q [] H
def bU(ta:TE)(tr:TA):TA:=fun σ H Q=>ta σ H fun x H1=>tr σ H1 fun xs H2=>Q (x::xs) H2
section
variable {X:Cx}{e:Expr}{es:List Expr}{te:TE}{t:TA}{pos:Pos}
theorem ze:PA X [] gE:=fun _ _ _ _ H Q I h=>Calls.spliced_nil ⟨[],H,I,.nil,h⟩
theorem za(ha:PE X e te)(hr:PA X es t)(hs:cq (e::es) X.env=(false,eval e X.env)::cq es X.env:=by rfl):PA X (e::es) (bU te t):=by
 intro pos zc s σ H Q I h;rw[hs];show bh _ _ (spliced ((false,eval e X.env)::kr pos (cq es X.env))) _ _ s;refine Calls.spliced_cons (thn (ha zc s σ H _ I h) fun u s1 ⟨x,H1,I1,r1,q1⟩=>?_);exact thn (hr pos zc s1 σ H1 _ I1 q1) fun us s2 ⟨xs,H2,I2,r2,q2⟩=>⟨x::xs,H2,I2,.cons r1 r2,q2⟩
def rG(t:TA):TE:=fun σ H Q=>t σ H fun xs H1=>xs.length<=be/\∀p,H1 p=none->Q (.ref p) (upd H1 p (.tup xs))
def hW(t:TA):TE:=fun σ H Q=>t σ H fun xs H1=>xs.length<=be/\∀p,H1 p=none->Q (.ref p) (upd H1 p (.lst xs))
theorem aX{x1}(h:PA X es t):PE X (.Tuple es x1 pos) (rG t):=by
 intro zc s σ H Q I hq;refine wpAny_Tuple_spliced (thn (h pos zc s σ H _ I hq) fun us s1 ⟨xs,H1,I1,r,z,q⟩=>⟨by rw[<- r.length];exact z,?_⟩);have hf:H1 s1.heap.objs.size=none:=I1.hok.fresh (bp _);refine⟨.ref s1.heap.objs.size,upd H1 s1.heap.objs.size (.tup xs),I1.laid (t':=s1.toks) (fun b u e=>bb _ e) (bp _) ?_,rfl,q _ hf⟩;exact⟨⟨z,_,bw _ rfl,rfl⟩,us,r,⟨_,bw _ rfl,rfl,_,rfl⟩⟩
theorem b0(h:PA X es t):PE X (.List es pos) (hW t):=by
 intro zc s σ H Q I hq;refine wpAny_List_spliced (thn (h pos zc s σ H _ I hq) fun us s1 ⟨xs,H1,I1,r,z,q⟩=>⟨by rw[<- r.length];exact z,?_⟩);have hf:H1 s1.heap.objs.size=none:=I1.hok.fresh (bp _);refine⟨.ref s1.heap.objs.size,upd H1 s1.heap.objs.size (.lst xs),I1.laid (t':=s1.toks) (fun b u e=>bb _ e) (bp _) ?_,rfl,q _ hf⟩;exact⟨z,us,0,r,bw _ rfl⟩
end
abbrev Sp:=List V->Hp->VK->XK->Prop
abbrev CXT:=List Env->Hp->ax->XK->au->ax->Prop
structure Env0(P:ca)(w:cy)(K:bf)(mg:Str->Option au)(base:Heap)(A:ef)(outer:List Env)(s:ax)(H:Hp):Prop where
 frames:A.frames=some outer
 mod:Mod K mg base
 bs:∀b o,base.get? b=some o->s.heap.get? b=some o/\H b=none
 bsz:base.objs.size<=s.heap.objs.size
 funs:s.heap.FunFrames base outer
 frf:Frf (frs outer) H
 hok:HOk P w H s.heap
 bare:AllBare s.gens
def CE(outer:List Env)(P:ca)(w:cy)(H:Hp)(s:ax)(Q:VK)(u:au)(s':ax):Prop:=
 ∃v H',s'.os=s.os/\AllBare s'.gens/\Un (frs outer) [] H H' s.heap s'.heap/\HOk P w H' s'.heap/\RelV v u/\Q v H'
def CR(CX:CXT)(outer:List Env)(P:ca)(w:cy)(H:Hp)(s:ax)(Q:VK)(E:XK)(r:Result)(s':ax):Prop:=
 match r with
 | .ok (.ret u)=>CE outer P w H s Q u s'
 | .ok _=>False
 | .error e=>CX outer H s E e s'
structure FnOk(P:ca)(w:cy)(K:bf)(mg:Str->Option au)(base:Heap)(CX:CXT)(k:Nat)(f:Addr)(fd:jd)(ps:List Str)(sp:Sp):Prop where
 len:∀vs H Q E,sp vs H Q E->vs.length=ps.length
 run:∀(A:ef) (outer:List Env) (s:ax) (H:Hp) (args:Args) (us:List au) (vs:List V) (Q:VK) (E:XK),Room k A->Env0 P w K mg base A outer s H->BindsTo s fd args (ps.zip us)->Vals vs us->sp vs H Q E ->
  codeAny (model P w) A (.call (.ref f) args) (CR CX outer P w H s Q E) s
section
variable {X:Cx}{zc:List (Addr×Obj)}{σ:St}{H:Hp}{s s':ax}
theorem Inv.env0(I:Inv X zc σ H s):Env0 X.prog X.w X.K X.mg X.base X.A X.stack s H:=
 ⟨I.ok.frames,I.ok.mod,I.bs,dm I.ok.bsz I.sz,I.stack,I.stkFree,I.hok,I.bare⟩
theorem Inv.after{Q:VK}{u:au}(I:Inv X zc σ H s)(h:CE X.stack X.prog X.w H s Q u s'):EP X zc σ Q u s':=by
 obtain⟨v,H',os,bare,un,hok,r,q⟩:=h;obtain⟨hh,g,d,t,p⟩:=s';obtain rfl:p=s.os:=os;exact⟨v,H',I.call (h':=hh) (g':=g) (d':=d) (t':=t) (ch:=[]) un hok bare (fun b z=>absurd z yv),r,q⟩
end
def fL(sp:Sp)(dvs:List V)(E:XK)(t:TA):TE:=fun σ H Q=>t σ H fun vs H1=>sp (vs++dvs) H1 Q E
def Binds(K:bf)(fd:jd)(ps:List Str)(ds:List au):Prop:=
 ∀(s:ax) (us:List au),K.In s.heap->(us++ds).length=ps.length->BindsTo s fd ⟨us,[]⟩ (ps.zip (us++ds))
theorem Binds.all{K:bf}{fd:jd}{ps:List Str}(h:∀us:List au,us.length=ps.length->bindArgs fd ⟨us,[]⟩=pure (ps.zip us)):Binds K fd ps []:=fun s us _ hl=>by
 rw[fy]at hl ⊢;exact .of_eq (h us hl)
def Passes(CX:CXT)(X:Cx)(E:XK):Prop:=∀(zc:List (Addr×Obj)) (σ:St) (H:Hp) (s:ax) (e:au) (s':ax),Inv X zc σ H s->CX X.stack H s E e s'->X.xe e s'
section
variable {X:Cx}{CX:CXT}{k:Nat}{f C:Addr}{fd:jd}{ps:List Str}{sp:Sp}{dvs:List V}{ds:List au}{E:XK}{x m:Str}{p pos apos:Pos}{e o:Expr}{es:List Expr}{ta:TE}{t:TA}
theorem Bb{zc:List (Addr×Obj)}{σ:St}{H:Hp}{s:ax}{Q:VK}{us:List au}{vs:List V}(F:FnOk X.prog X.w X.K X.mg X.base CX k f fd ps sp)(hr:Room k X.A)(hb:Binds X.K fd ps ds)(hd:Vals dvs ds)(hx:Passes CX X E)
  (I:Inv X zc σ H s) (r:Vals vs us) (h:sp (vs++dvs) H Q E):bh (model X.prog X.w) X.A (call (.ref f) us) (EP X zc σ Q) X.xe s:=by
 have r2:Vals (vs++dvs) (us++ds):=r.append hd;have hl:(us++ds).length=ps.length:=by rw[<- r2.length];exact F.len _ _ _ _ h
 refine wpAny_call (codeAny_mono (F.run X.A X.stack s H ⟨us,[]⟩ (us++ds) (vs++dvs) Q E hr I.env0 (hb s us I.kIn hl) r2 h) fun r s' hq=>?_);cases r with
 |error e=>exact hx zc σ H s e s' I hq
 |ok fl=>
  cases fl with
  |ret u=>exact I.after hq
  |next=>exact iq hq
  |brk=>exact iq hq
  |cont=>exact iq hq
theorem oV(F:FnOk X.prog X.w X.K X.mg X.base CX k f fd ps sp)(hr:Room k X.A)(hg:Gl X x)(hm:X.mg x=some (.ref f))(hk:W.keepIn X.K (.ref f)=true)(hb:Binds X.K fd ps ds)(hd:Vals dvs ds)(hx:Passes CX X E)
  (ha:PA X (e::es) t) (hdb:(x==("__debug__":Str))=false:=by decide) (he:cq (e::es) X.env=(false,eval e X.env)::cq es X.env:=by rfl) (hpl:(kr pos (cq es X.env)).any (·.1)=false:=by rfl):
  PE X (.Call (.Name x p) (e::es) [] pos) (fL sp dvs E t):=by
 intro zc s σ H Q I h;refine wpAny_Call_Name_kw (Fa I hg hm ?_ hdb);refine W.callWith_K (h₀:=X.base) I.ok.mod.kin hk (thn (ha pos zc s σ H _ I h) fun us s1 ⟨vs,H1,I1,r,q⟩=>⟨I1.kIn,?_⟩) he hpl;exact Bb F hr hb hd hx I1 r q
end
structure FnScope(N P:List Str)(sc:Scope):Prop where
 kind:sc.kind=.function
 co:sc.isCoroutine=false
 gen:sc.isGenerator=false
 nd:N.Nodup
 pre:N.take P.length=P
 par:∀x∈P,sc.names.lookup x=some .local\/sc.names.lookup x=some .cell
 nofree:∀y∈sc.names,y.2≠.free
theorem sY{p:Str->Option ii}{x:Str}:∀{binds:List (Str×au)}{m:Str->Option au},(∀v,(x,v)∉binds)->bindL p binds m x=m x
 | [],_,_=>rfl
 | (n,v)::r,m,h=>by
  unfold bindL;rw[sY fun w hw=>h w (bc _ hw)];split
  ·have:x≠n:=by rintro rfl;exact h v bn
   simp[this]
  ·rfl
theorem vZ{p:Str->Option ii}{x:Str}:∀{binds:List (Str×au)}{m:Str->Option au},(∀v,(x,v)∉binds)->bindC p binds m x=m x
 | [],_,_=>rfl
 | (n,v)::r,m,h=>by
  unfold bindC;rw[vZ fun w hw=>h w (bc _ hw)];split
  ·rfl
  ·have:x≠n:=by rintro rfl;exact h v bn
   simp[this]
theorem sS{q:Str->Option ii}{x:Str}{v:au}:∀{P:List Str}{vs:List au}{i:Nat}{m:Str->Option au},P.Nodup->P[i]?=some x->vs[i]?=some v->q x=some .local ->
  bindL q (P.zip vs) m x=some v
 | [],_,_,_,_,h,_,_=>by simp at h
 |_::_,[],_,_,_,_,h,_=>by simp at h
 |p::P,w::vs,0,m,nd,h1,h2,hk=>by
  simp at h1 h2;subst h1;subst h2;show bindL q ((p,w)::P.zip vs) m p=_;unfold bindL;rw[sY fun v hv=>(nodup_cons.mp nd).1 (of_mem_zip hv).1,cb hk];simp
 |p::P,w::vs,i+1,m,nd,h1,h2,hk=>by
  show bindL q ((p,w)::P.zip vs) m x=_;unfold bindL;exact sS (i:=i) (nodup_cons.mp nd).2 (by simpa using h1) (by simpa using h2) hk
theorem sP{q:Str->Option ii}{x:Str}{v:au}:∀{P:List Str}{vs:List au}{i:Nat}{m:Str->Option au},P.Nodup->P[i]?=some x->vs[i]?=some v->q x≠some .local ->
  bindC q (P.zip vs) m x=some v
 | [],_,_,_,_,h,_,_=>by simp at h
 |_::_,[],_,_,_,_,h,_=>by simp at h
 |p::P,w::vs,0,m,nd,h1,h2,hk=>by
  simp at h1 h2;subst h1;subst h2;show bindC q ((p,w)::P.zip vs) m p=_;unfold bindC;rw[vZ fun v hv=>(nodup_cons.mp nd).1 (of_mem_zip hv).1,bu hk];simp
 |p::P,w::vs,i+1,m,nd,h1,h2,hk=>by
  show bindC q ((p,w)::P.zip vs) m x=_;unfold bindC;exact sP (i:=i) (nodup_cons.mp nd).2 (by simpa using h1) (by simpa using h2) hk
def start(N:List Str)(vs:List V):St:=vs.map some++az (N.length-vs.length) none
def cT(CX:CXT)(P:ca)(w:cy)(K:bf)(mg:Str->Option au)(base:Heap)(N:List Str)(p:Str)(scope:Scope)(f:Addr)(cd:au)(A:ef)(outer:List Env)(s:ax)(H:Hp)(E:XK):Cx where
 prog:=P
 w:=w
 K:=K
 mg:=mg
 base:=base
 A:=A.deeper (ku p scope s.heap.objs.size f cd)
 N:=N
 s₀:=s
 H₀:=H
 env:=ku p scope s.heap.objs.size f cd
 outer:=outer
 stack:=ku p scope s.heap.objs.size f cd::outer
 ex:=[]
 calm:=true
 fn:=fun _=>true
 pn:=[]
 xe:=fun e s'=>bh (model P w) (A.deeper (ku p scope s.heap.objs.size f cd)) (leaving (ku p scope s.heap.objs.size f cd) e) (fun _ s''=>CX outer H s E e s'') (fun e' s''=>CX outer H s E e' s'') s'
theorem AM{sc:Scope}{n:Nat}{x:Str}(h:sc.names.lookup x=some .cell):∃c,(cellsFrom n sc.names []).lookup x=some c:=by
 have q:=W.cellsFrom_some sc.names n [] (.inl h);exact isSome_iff_exists.mp q
theorem FV{CX:CXT}{P:ca}{w:cy}{K:bf}{mg:Str->Option au}{base:Heap}{N ps:List Str}{aa:Str}{scope:Scope}{f:Addr}{cd:au}{A:ef}{outer:List Env}{s s1:ax}{H:Hp}{E:XK}{us:List au}{vs:List V}
  (S:FnScope N ps scope) (hd:A.handled=none) (e0:Env0 P w K mg base A outer s H) (hl:vs.length=ps.length) (r:Vals vs us)
  (x:InCallC s s.heap.objs.size (bindL (ku aa scope s.heap.objs.size f cd).kindOf (ps.zip us) fun _=>none) (cellsFrom (s.heap.objs.size+1) scope.names []) (bindC (ku aa scope s.heap.objs.size f cd).kindOf (ps.zip us) fun _=>none) s1):
  Inv (cT CX P w K mg base N aa scope f cd A outer s H E) [] (start N vs) H s1:=by
 have ae:ps.length<=N.length:=by have:=congrArg List.length S.pre;rw[ko]at this;omega
 obtain⟨h1,tk,rfl,hk⟩:=x.done;have ab:∀b:Addr,b∉(cT CX P w K mg base N aa scope f cd A outer s H E).ex:=fun b z=>absurd (show b∈([]:List Addr)from z) yv;refine⟨⟨e0.mod,S.kind,rfl,rfl,bp _,fun y z c h1 h2=>?_,fun y hy=>?_,fun y c _ h=>?_,fun _=>hd,Around.frames_deeper e0.frames,.inr ⟨rfl,rfl⟩,fun b z=>absurd z (ab b),e0.bs,e0.bsz,fun b _ _=>ab b,fun b z=>absurd z (ab b),e0.funs,e0.frf⟩,
  rfl,e0.bare,Un.kept hk,⟨_,x.toInCall.ns,fun i y v h1 h2 h3=>?_⟩,fun y c h=>⟨_,x.cell y c h⟩,e0.hok.fresh (bp _),fun y c h=>?_,fun p hp=>absurd (show p∈([]:List (Addr×Obj))from hp) yv,e0.hok.kept hk,?_⟩
 ·exact name_of_addr x.apart (PySem.mem_of_lookup h1) (PySem.mem_of_lookup h2)
 ·have hy:scope.names.lookup y=some .cell\/scope.names.lookup y=some .free:=hy;rcases hy with hy|hy
  ·exact AM hy
  ·exact absurd rfl (S.nofree _ (PySem.mem_of_lookup hy))
 ·exact gu (x.above y c (PySem.mem_of_lookup h))
 ·have hi:i<vs.length:=by
   unfold start at h2;by_cases hi:i<vs.length
   ·exact hi
   ·rw[ic (by simpa using hi)]at h2;rw[List.getElem?_replicate]at h2;split at h2<;>cases h2
  have ha:vs[i]?=some v:=by
   unfold start at h2;rw[cn (by simpa using hi),eg]at h2;cases e:vs[i]? with
   |none=>rw[e]at h2;cases h2
   |some a=>rw[e]at h2;cases h2;rfl
  obtain⟨u,hu,rv⟩:=r.get ha;have hp:ps[i]?=some y:=by
   rw[<- S.pre,List.getElem?_take_of_lt yw];exact h1
  have ac:ps.Nodup:=by rw[<- S.pre];exact S.nd.sublist (List.take_sublist _ _)
  refine⟨u,rv,?_⟩;rcases S.par y (cf hp)with k|k
  ·exact .inl ⟨k,sS ac hp hu k⟩
  ·obtain⟨c,e⟩:=AM (n:=s.heap.objs.size+1) k;refine .inr ⟨.inl k,c,e,?_⟩;have q:=x.cell y c e;rw[sP ac hp hu (by show scope.names.lookup y≠_;rw[k];decide)]at q;exact q
 ·exact e0.hok.fresh (gu (x.above y c (PySem.mem_of_lookup h)))
 ·unfold start;show _=N.length;rw[bx,bo,List.length_replicate];omega
theorem Em{CX:CXT}{P:ca}{w:cy}{K:bf}{mg:Str->Option au}{base:Heap}{k:Nat}{f:Addr}{name p:Str}{aa:Arguments}{ab:List Stmt}{scope:Scope}{dV kV ae pm z ct oc:au}{an od:Option Addr}
  {osl:Array (Option au)}{N ps:List Str}{sp:Sp} (lk:K.lookup f=some ⟨oc,od,.func (W.fnOf name p aa ab scope dV kV ae pm an z ct),osl⟩) (hcd:W.codeIn K z p=true) (S:FnScope N ps scope)
  (len:∀vs H Q E,sp vs H Q E->vs.length=ps.length)
  (hbody:∀(A:ef) (outer:List Env) (s:ax) (H:Hp) (vs:List V) (Q:VK) (E:XK),Room k (A.deeper (ku p scope s.heap.objs.size f z))->sp vs H Q E ->
   ∃t,PSs (cT CX P w K mg base N p scope f z A outer s H E) ab t/\t { nx:=fun _ H'=>Q .non H',rt:=Q } (start N vs) H):
  FnOk P w K mg base CX (k+1) f (W.fnOf name p aa ab scope dV kV ae pm an z ct) ps sp:=by
 refine⟨len,fun A outer s H args us vs Q E hr e0 hb r af=>?_⟩;have hl:=len _ _ _ _ af;have KX:K.In s.heap:=e0.mod.kin.keeps fun b o e=>(e0.bs b o e).1;have ag:s.heap.NoLimit:=e0.mod.nolimit.keeps fun b o e=>(e0.bs b o e).1;have ac:∀y∈ps.zip us,scope.names.lookup y.1=some .local\/(scope.names.lookup y.1=some .cell/\((cellsFrom (s.heap.objs.size+1) scope.names []).lookup y.1).isSome=true):=fun⟨n,v⟩ hy=>by
  rcases S.par n (of_mem_zip hy).1 with q|q
  ·exact .inl q
  ·exact .inr ⟨q,W.cellsFrom_some _ _ _ (.inl q)⟩
 refine codeAny_call_function hr.depth (KX _ _ lk) rfl S.co S.gen rfl (W.codeRec_of KX hcd) (hb _ _ _ _ ?_);refine wpAny_newFunctionEnv_cells S.kind ac fun env he s1 x=>?_;subst he;refine⟨ag.keeps x.toInCall.keep,codeAny_func ?_⟩;obtain⟨t,ht,hq⟩:=hbody A outer s H vs Q E (hr.deeper _) af;have I:Inv (cT CX P w K mg base N p scope f z A outer s H E) [] (start N vs) H s1:=FV S hr.hd e0 hl r x;refine kj (ht [] s1 (start N vs) H _ I hq) (fun fl s' hs=>?_) fun e s' hs=>hs;have fin:∀{σ':St}{H':Hp}{v:V}{u:au},Inv (cT CX P w K mg base N p scope f z A outer s H E) [] σ' H' s'->RelV v u->Q v H'->CE outer P w H s Q u s':=
  fun {σ' H' v u} J rv q=>⟨v,H',J.os,J.bare,J.base,J.hok,rv,q⟩
 cases fl with
 |ret u=>
  obtain⟨v,σ',H',J,rv,q⟩:=hs;exact fin J rv q
 |next=>
  obtain⟨σ',H',J,q⟩:=hs;exact fin (v:=V.non) (u:=jq) J rfl q
 |brk=>
  obtain⟨_,_,_,q⟩:=hs;exact iq q
 |cont=>
  obtain⟨_,_,_,q⟩:=hs;exact iq q
end
section
section
variable {X:Cx}{x:Str}{p pos:Pos}{e:Expr}{es:List Expr}{t:TA}{id T:String}{r:List V->Hp->VK->Prop}
def tCB(r:List V->Hp->VK->Prop)(t:TA):TE:=fun σ H Q=>t σ H fun vs H1=>r vs H1 Q
theorem zy(hc:CallR X (.builtin id) r)(hg:Gl X x)(hm:X.mg x=none)(hv:dh x=some (.builtin id))(ha:PA X (e::es) t)(hn:x ≠ "__name__":=by decide)(q:(x==("__debug__":Str))=false:=by decide)
  (he:cq (e::es) X.env=(false,eval e X.env)::cq es X.env:=by rfl) (hpl:(kr pos (cq es X.env)).any (·.1)=false:=by rfl):PE X (.Call (.Name x p) (e::es) [] pos) (tCB r t):=by
 intro zc s σ H Q I h;refine wpAny_Call_Name_kw (lR I hg hm hv ?_ hn q);exact PyProof.Rows.callWith_builtin1 (thn (ha pos zc s σ H _ I h) fun us s1 ⟨vs,H1,I1,r1,q1⟩=>hc zc s1 σ H1 vs us Q I1 r1 q1) he hpl
theorem tN(hc:CallR X (.type T) r)(hg:Gl X x)(hm:X.mg x=none)(hv:dh x=some (.type T))(ha:PA X (e::es) t)(hn:x ≠ "__name__":=by decide)(q:(x==("__debug__":Str))=false:=by decide)
  (he:cq (e::es) X.env=(false,eval e X.env)::cq es X.env:=by rfl) (hpl:(kr pos (cq es X.env)).any (·.1)=false:=by rfl):PE X (.Call (.Name x p) (e::es) [] pos) (tCB r t):=by
 intro zc s σ H Q I h;refine wpAny_Call_Name_kw (lR I hg hm hv ?_ hn q);exact PyProof.Rows.callWith_type1 (thn (ha pos zc s σ H _ I h) fun us s1 ⟨vs,H1,I1,r1,q1⟩=>hc zc s1 σ H1 vs us Q I1 r1 q1) he hpl
end
end
end L2
namespace HT
open PySem PyProof.Rows
def lexLt:List Int->List Int->Bool
 | [],[]=>false
 | [],_::_=>true
 |_::_,[]=>false
 |x::xs,y::ys=>if x=y then lexLt xs ys else decide (x<y)
theorem lexLt_cons(x y:Int)(xs ys:List Int):lexLt (x::xs) (y::ys)=if x=y then lexLt xs ys else decide (x<y):=rfl
theorem Dk:lexLt [] []=false:=rfl
theorem CS(y:Int)(ys:List Int):lexLt [] (y::ys)=true:=rfl
theorem t8(x:Int)(xs:List Int):lexLt (x::xs) []=false:=rfl
theorem Ew(A:ef)(s:ax)(a:Int)(t:Tok)(c:Int)(u:Tok):∃e,SeqAt.EqAt A s (.int a t) (.int c u) e/\(e=true↔a=c):=
 ⟨(a==c),SeqAt.EqAt.int_int a t c u,yv⟩
theorem CB(A:ef)(s:ax)(a:Int)(t:Tok)(c:Int)(u:Tok)(prog:ca)(w:cy)(E:au->ax->Prop)(Q:au->ax->Prop)(h:Q (.bool (decide (a<c))) s):
  bh (model prog w) A (richCompare .Lt (.int a t) (.int c u)) Q E s:=
 (PyProof.Rows.lt_int h:bh (model prog w) A (fj .Lt (.int a t) (.int c u)) Q E s)
section
open PySem.SeqAt
open PySem.AutoSeq1 (wpAny_loadPart')
open PySem.MeetsSeq PySem.MeetsSeq2 PySem.MeetsSeq3
theorem Cz(l b:Addr)(z p:Array au)(n n2:Nat)(dd ac:Option Addr)(sl ab:Array (Option au))(ns ms:List Int)(hi:gg z.toList ns)(hj:gg p.toList ms):
  Meets (Builtin.«tuple.__lt__» ⟨[.ref l,.ref b],[]⟩)
   (fun _ R s=>s.heap.get? l=some { cls:=.type "tuple",dict:=dd,data:=.seq z n,slots:=sl }/\s.heap.get? b=some { cls:=.type "tuple",dict:=ac,data:=.seq p n2,slots:=ab } /\
    R (.ok (.ret (.bool (lexLt ns ms)))) s):=
 .of_wp fun prog w A R s h=>by
  obtain⟨hp,g,d,tk,os⟩:=s;obtain⟨hl,hb,h⟩:=h;have f2:=AutoSeq1.sub_tuple_tuple;have z1:z.size=ns.length:=by rw[<- hi.length];simp
  have z2:p.size=ms.length:=by rw[<- hj.length];simp
  wp_walk using wpAny_loadPart' hl,wpAny_loadPart' hb,wpAny_forIn_list _ (fun rest b s'=>b.1=none/\s'=⟨hp,g,d,tk,os⟩/\∃(vs ws:List au) (ns' ms':List Int),rest=vs.zip ws /\
   gg vs ns'/\gg ws ms'/\ns'.length+p.size=ms'.length+z.size/\R (.ok (.ret (.bool (lexLt ns' ms')))) ⟨hp,g,d,tk,os⟩) _
  case turn=>
   rintro⟨y,x⟩ rest b s' ⟨hb',rfl,vs,ws,ns',ms',hz,hvi,hwi,hlen,hR⟩;cases hvi with
   |nil=>rw[List.zip_nil_left]at hz;cases hz
   |cons a t hvi'=>
    cases hwi with
    |nil=>rw[List.zip_nil_right]at hz;cases hz
    |cons c u hwi'=>
     rw[List.zip_cons_cons]at hz;injection hz with hyx hrest
     injection hyx with hy hx
     subst hy hx;rw[lexLt_cons]at hR;simp only[br]at hlen;obtain⟨e,he,aa⟩:=Ew A.in1 ⟨hp,g,d,tk,os⟩ a t c u;refine aw (he prog w _ _ ?_);cases e with
     |true=>
      rw[cb (aa.mp rfl)]at hR
      wp_walk
      exact⟨rfl,rfl,_,_,_,_,hrest,hvi',hwi',yw,hR⟩
     |false=>
      rw[bu (fun q=>absurd (aa.mpr q) fh)]at hR;have ae:=CB A.in1 ⟨hp,g,d,tk,os⟩ a t c u prog w
      wp_walk using ae
      exact⟨_,rfl,by simpa using hR⟩
  case fin=>
   rintro⟨b1,b2⟩ s' ⟨hb',rfl,vs,ws,ns',ms',hz,hvi,hwi,hlen,hR⟩;simp only at hb';subst hb';have hv:lexLt ns' ms'=decide (z.size<p.size):=by
    cases hvi with
    |nil=>
     cases hwi with
     |nil=>
      simp only[length_nil]at hlen;rw[Dk];exact(ci yw).symm
     |cons c u hw=>
      simp only[length_nil,br]at hlen;rw[CS];exact(fc yw).symm
    |cons a t hv=>
     cases hwi with
     |nil=>
      simp only[length_nil,br]at hlen;rw[t8];exact(ci yw).symm
     |cons c u hw=>
      rw[List.zip_cons_cons]at hz;cases hz
   rw[hv]at hR
   wp_walk
   exact⟨_,rfl,by simpa[Builtin.Tuple.tupleCompareSizes]using hR⟩
  case h=>
   exact⟨rfl,rfl,z.toList,p.toList,ns,ms,rfl,hi,hj,yw,h⟩
end
section
variable {prog:ca}{w:cy}{A:ef}{E:au->ax->Prop}{s:ax}
theorem Fc{l b:Addr}{q p:Array au}{ns ms:List Int}{Q:au->ax->Prop}(hl:IsTup s.heap l q)(hb:IsTup s.heap b p)(hi:gg q.toList ns)(hj:gg p.toList ms)
  (hu:A.units<jc) (h:Q (.bool (lexLt ns ms)) s):bh (model prog w) A (fj .Lt (.ref l) (.ref b)) Q E s:=by
 obtain⟨⟨cls,dd,data,sl⟩,ho,hc,n,hd⟩:=id hl;obtain⟨⟨af,ac,ae,ab⟩,y,z,n2,aa⟩:=id hb;simp only at hc hd z aa;subst hc hd z aa;exact richCompare_meets_room (op:=.Lt) ⟨_,ho,rfl⟩ ⟨_,y,rfl⟩ PySem.F.slot_tuple_lt PySem.F.entry_tuple_lt (PySem.F.args_tuple_lt_2 _ _) (Cz l b q p n n2 dd ac sl ab ns ms hi hj)
  ⟨ho,y,show Value.bool (lexLt ns ms)≠Value.notImplemented/\Q (.bool (lexLt ns ms)) s from⟨(fun x=>nomatch x),h⟩⟩ hu
theorem cat_tup{t b:Addr}{vs ws:List au}{Q:au->ax->Prop}(ht:IsTup s.heap t vs.toArray)(hb:IsTup s.heap b ws.toArray)(hv:vs≠[])
  (h1:ws=[]->Q (.ref t) s) (h2:ws≠[]->Q (.ref s.heap.objs.size) { s with heap:=s.heap.push { cls:=.type "tuple",data:=.seq (vs++ws).toArray } })
  (hsz:vs.length+ws.length<=be):bh (model prog w) A (gf .Add (.ref t) (.ref b)) Q E s:=by
 obtain⟨⟨cls,dd,data,sl⟩,ho,hc,n,hd⟩:=id ht;obtain⟨⟨ac,z,ab,q⟩,p,y,n2,aa⟩:=id hb;simp only at hc hd y aa;subst hc hd y aa;have e:vs.toArray++ws.toArray=(vs++ws).toArray:=by simp
 by_cases hw:ws=[]
 ·exact concat_meets ⟨_,ho,rfl⟩ ⟨_,p,rfl⟩ noFill_tuple_add seq_tuple_add PySem.F.slot_tuple_add PySem.F.entry_tuple_add (PySem.F.args_tuple_add_2 _ _)
   (tuple_addW1 t b vs.toArray ws.toArray n n2 dd z sl q (by simpa using hv) (by simp[hw])) ⟨ho,p,h1 hw⟩
 ·refine concat_meets ⟨_,ho,rfl⟩ ⟨_,p,rfl⟩ noFill_tuple_add seq_tuple_add PySem.F.slot_tuple_add PySem.F.entry_tuple_add (PySem.F.args_tuple_add_2 _ _)
   (tuple_addW2 t b vs.toArray ws.toArray n n2 dd z sl q (by simpa using hv) (by simpa using hw) (by rw[bv,bv];exact hsz)) ⟨ho,p,?_⟩
  rw[e];exact h2 hw
def sIx(n d:Nat):Option Int->Nat
 |none=>d
 |some v=>if v<0 then (v+(n:Int)).toNat else min v.toNat n
theorem sIx_nat(n d k:Nat):sIx n d (some (k:Int))=min k n:=by
 show (if (k:Int)<0 then ((k:Int)+(n:Int)).toNat else min (k:Int).toNat n)=min k n;rw[bu yw,jn]
theorem FY(n d:Nat)(hd:d<=n)(o:Option Int):sIx n d o<=n:=by
 cases o with
 |none=>exact hd
 |some v=>
  show (if v<0 then (v+(n:Int)).toNat else min v.toNat n)<=n;by_cases hv:v<0
  ·rw[cb hv];omega
  ·rw[bu hv];exact Nat.min_le_right _ _
theorem tM(v:Int)(n d:Nat):(if v<0 then max (v+(n:Int)) 0 else min v (n:Int))=((sIx n d (some v):Nat):Int):=by
 show (if v<0 then max (v+(n:Int)) 0 else min v (n:Int))=(((if v<0 then (v+(n:Int)).toNat else min v.toNat n):Nat):Int);by_cases hv:v<0
 ·simp only[cb hv];omega
 ·simp only[bu hv];omega
theorem AX(lo hi:Option Int)(n:Nat):Builtin.Slice.sliceAdjust lo hi 1 (n:Int)=(((sIx n 0 lo:Nat):Int),((sIx n n hi:Nat):Int)):=by
 have h1:¬((1:Int)<0):=yw
 unfold Builtin.Slice.sliceAdjust;simp only[h1,if_false];refine Prod.ext ?_ ?_
 ·cases lo with
  |none=>rfl
  |some v=>exact tM v n 0
 ·cases hi with
  |none=>rfl
  |some v=>exact tM v n n
theorem AZ(i j:Nat):Builtin.Slice.slicePlaces (i:Int) (j:Int) 1=j-i:=by
 unfold Builtin.Slice.slicePlaces;have h1:(1:Int)>0:=yw
 simp only[h1,if_true,Int.ediv_one];split<;>omega
theorem wT{v:au}{o:Option Int}{Q:Option Int->ax->Prop}(p:IsPart v o)(h:Q o s):bh (model prog w) A (Builtin.Slice.slicePartIndex v) Q E s:=by
 cases p with
 |none=>exact slicePart_none h
 |int i t=>exact slicePart_int h
theorem CT{sl:Addr}{vl vu:au}{lo hi:Option Int}{n:Nat}{Q:Int×Int×Nat->ax->Prop}(hs:s.heap.IsSliceOf sl vl vu .none)(pl:IsPart vl lo)(pu:IsPart vu hi)
  (h:Q (((sIx n 0 lo:Nat):Int),1,sIx n n hi-sIx n 0 lo) s):bh (model prog w) A (Builtin.Slice.sliceApplied (.ref sl) (pure (n:Int))) Q E s:=by
 obtain⟨os,q,y,p⟩:=id hs;unfold Builtin.Slice.sliceApplied Builtin.Slice.sliceFields;refine aw (aw (gd q p (x:=vl) rfl (aw (gd q p (x:=vu) rfl (aw (gd q p (x:=.none) rfl (bj ?_)))))));refine aw (slicePart_none ?_);show bh _ _ (if ((1:Int)==0)=true then _ else _) _ _ s;rw[bu dz];refine aw (wT pl (aw (wT pu (aw (bj ?_)))));show bh _ _ (match Builtin.Slice.sliceAdjust lo hi 1 (n:Int)with|(lo,hi)=>pure (lo,(1:Int),Builtin.Slice.slicePlaces lo hi 1)) _ _ s;rw[AX lo hi n];show bh _ _ (pure (((sIx n 0 lo:Nat):Int),(1:Int),Builtin.Slice.slicePlaces ((sIx n 0 lo:Nat):Int) ((sIx n n hi:Nat):Int) 1)) _ _ s;rw[AZ];exact bj h
theorem DK(xs:Array au)(i k:Nat):((cp k).filterMap fun(m:Nat)=>xs[((i:Int)+(m:Int)*1).toNat]?).toArray=((xs.toList.drop i).take k).toArray:=by
 have e:(fun(m:Nat)=>xs[((i:Int)+(m:Int)*1).toNat]?)=fun m=>xs[i+m]?:=by
  funext m;have:((i:Int)+(m:Int)*1).toNat=i+m:=yw
  rw[this]
 rw[e];have:=pick_run xs i k;rw[List.filterMap_map]at this;have e2:((fun x=>xs[x]?)∘fun x=>i+x)=fun m=>xs[i+m]?:=rfl;rw[e2]at this;rw[this]
theorem getItem_tuple_cut{t sl:Addr}{p:Array au}{vl vu:au}{lo hi:Option Int}{Q:au->ax->Prop}(ht:IsTup s.heap t p)(hs:s.heap.IsSliceOf sl vl vu .none)(pl:IsPart vl lo)(pu:IsPart vu hi)
  (hw:¬(sIx p.size 0 lo=0/\sIx p.size p.size hi=p.size))
  (h:Q (.ref s.heap.objs.size) { s with heap:=s.heap.push { cls:=.type "tuple",data:=.seq ((p.toList.drop (sIx p.size 0 lo)).take (sIx p.size p.size hi-sIx p.size 0 lo)).toArray } })
  (hsz:p.size<=be):bh (model prog w) A (getItem (.ref t) (.ref sl)) Q E s:=by
 have y:sizeOk (.seq ((p.toList.drop (sIx p.size 0 lo)).take (sIx p.size p.size hi-sIx p.size 0 lo)).toArray):=by
  show ((p.toList.drop (sIx p.size 0 lo)).take (sIx p.size p.size hi-sIx p.size 0 lo)).toArray.size<=be;rw[bv,ko,length_drop,jz];omega
 have hj:sIx p.size p.size hi<=p.size:=FY _ _ (bp _) hi;obtain⟨os,ab,z,ae⟩:=id hs;have ac:s.TypeIs (.ref sl) "slice":=⟨os,ab,z⟩;unfold getItem
 try with_reducible refine fv ?_
 first|refine aw (bj ?_)|skip
 refine aw (wpAny_sequenceKey ht.typeIs dz ?_);refine aw (gk (name:=Str.ofString "__getitem__") ht.typeIs PyProof.Rows.slot_tuple_getitem
  (jw PyProof.Rows.slot_tuple_getitem ht.typeIs entry_tuple_getitem ?_ (args_tuple_getitem _ _)))
 show bh _ _ (Builtin.Tuple.tupleItemsOf (.ref t) >>= _) _ _ s;refine aw (tupleItemsOf_ ht ?_);refine aw (wpAny_typeOf ac ?_);rw[cb dz];refine aw (CT hs pl pu ?_);have aa:¬((((sIx p.size 0 lo:Nat):Int)==0&&(1:Int)==1&&(sIx p.size p.size hi-sIx p.size 0 lo)==p.size)=true):=by
  intro q;rw[fu,fu]at q;have q1:((sIx p.size 0 lo:Nat):Int)=0:=eq_of_beq q.1.1;have q2:sIx p.size p.size hi-sIx p.size 0 lo=p.size:=eq_of_beq q.2;exact hw ⟨yw,yw⟩
 show bh _ _ (if (((sIx p.size 0 lo:Nat):Int)==0&&(1:Int)==1&&(sIx p.size p.size hi-sIx p.size 0 lo)==p.size)=true then _ else _) _ _ s;rw[bu aa,DK]
 first
  |exact aw (m:=Builtin.Tuple.tupleExact _) (ga (bj ⟨_,rfl,bj h⟩) y)
  |exact aw (m:=Builtin.Tuple.tupleExact _) (ga (aw (bj (bj ⟨_,rfl,bj h⟩))) y)
  |exact aw (aw (m:=Builtin.Tuple.tupleExact _) (ga (bj (bj ⟨_,rfl,bj h⟩)) y))
  |exact aw (aw (m:=Builtin.Tuple.tupleExact _) (ga (bj ⟨_,rfl,bj h⟩) y))
end
end HT
namespace L2
open PySem PySem.Spec PyProof.Rows
section
abbrev TO:=St->Hp->(Option Int->Hp->Prop)->Prop
def PO(X:Cx)(e:Option Expr)(t:TO):Prop:=
 ∀(zc:List (Addr×Obj)) (s:ax) (σ:St) (H:Hp) (Q:Option Int->Hp->Prop),Inv X zc σ H s->t σ H Q ->
  bh (model X.prog X.w) X.A (evalPart e X.env) (fun u s'=>∃o H',Inv X zc σ H' s'/\IsPart u o/\Q o H') X.xe s
def wN:TO:=fun _ H Q=>Q none H
def iD(t:TE):TO:=fun σ H Q=>t σ H fun x H1=>∃i,x=.int i/\Q (some i) H1
theorem rB{ns:List Int}:∀{us:List au},Vals (ns.map V.int) us->gg us ns:=by
 induction ns with
 |nil=>intro us r;rw[map_nil]at r;cases r;exact .nil
 |cons n ns ih=>
  intro us r;rw[ck]at r;cases r with
  |cons r1 r2=>
   obtain⟨t,e⟩:=r1;subst e;exact .cons n t (ih r2)
section
variable {X:Cx}{e:Expr}{te:TE}{lo hi:Option Expr}{tl th:TO}{pos p2:Pos}
theorem FC:PO X none wN:=by
 intro zc s σ H Q I h;rw[evalPart_none];exact bj ⟨none,H,I,.none,h⟩
theorem pZ(h:PE X e te):PO X (some e) (iD te):=by
 intro zc s σ H Q I hw;rw[evalPart_some];refine thn (h zc s σ H _ I hw) fun u s1 ⟨x,H1,I1,r1,q1⟩=>?_;obtain⟨i,rfl,q⟩:=q1;obtain⟨t,rfl⟩:=r1;exact⟨some i,H1,I1,.int i t,q⟩
def SlR(X:Cx)(r:V->Option Int->Option Int->Hp->VK->Prop):Prop:=
 ∀(zc:List (Addr×Obj)) (s:ax) (σ:St) (H:Hp) (x:V) (v vl vu:au) (lo hi:Option Int) (sl:Addr) (Q:VK),Inv X zc σ H s->RelV x v->s.heap.IsSliceOf sl vl vu .none->IsPart vl lo->IsPart vu hi->r x lo hi H Q ->
  ∃T id,typeLookup (.type T) "__getitem__" = pure (some (.builtin id))/\s.TypeIs v T/\bh (model X.prog X.w) X.A (getItem v (.ref sl)) (EP X zc σ Q) X.xe s
theorem SlR.or{r r':V->Option Int->Option Int->Hp->VK->Prop}(h:SlR X r)(h':SlR X r'):SlR X (fun x lo hi H Q=>r x lo hi H Q\/r' x lo hi H Q):=by
 intro zc s σ H x v vl vu lo hi sl Q I rx hs pl pu q;rcases q with q|q
 ·exact h zc s σ H x v vl vu lo hi sl Q I rx hs pl pu q
 ·exact h' zc s σ H x v vl vu lo hi sl Q I rx hs pl pu q
def tSl(r:V->Option Int->Option Int->Hp->VK->Prop)(te:TE)(tl th:TO):TE:=fun σ H Q=>te σ H fun x H1=>tl σ H1 fun l H2=>th σ H2 fun u H3=>r x l u H3 Q
theorem v0{r:V->Option Int->Option Int->Hp->VK->Prop}(hr:SlR X r)(he:PE X e te)(hl:PO X lo tl)(hu:PO X hi th):PE X (.Subscript e (.Slice lo hi none p2) pos) (tSl r te tl th):=by
 intro zc s σ H Q I h;refine Subscript_ (thn (he zc s σ H _ I h) fun v s1 ⟨x,H1,I1,r1,q1⟩=>?_);refine wpAny_Slice (thn (hl zc s1 σ H1 _ I1 q1) fun vl s2 ⟨l,H2,I2,pl,q2⟩=>thn (hu zc s2 σ H2 _ I2 q2) fun vu s3 ⟨u,H3,I3,pu,q3⟩=>?_);rw[evalPart_none];refine bj ?_;have I4:Inv X zc σ H3 { s3 with heap:=s3.heap.push { cls:=.type "slice",data:=.fields #[vl,vu,.none] } }:=I3.kept (t':=s3.toks) fun b ob q=>bb _ q;obtain⟨T,id,hT,ht,hg⟩:=hr zc { s3 with heap:=s3.heap.push { cls:=.type "slice",data:=.fields #[vl,vu,.none] } } σ H3 x v vl vu l u s3.heap.objs.size Q I4 r1 (Heap.IsSliceOf.new ..) pl pu q3;show bh (model X.prog X.w) X.A (subscriptTail e (.Slice lo hi none p2) v (.ref s3.heap.objs.size)) (EP X zc σ Q) X.xe { s3 with heap:=s3.heap.push { cls:=.type "slice",data:=.fields #[vl,vu,.none] } };exact tail_any (ops:=[.ref s3.heap.objs.size,v]) ht hT hg (by with_unfolding_all rfl)
def b9(xs:List V)(lo hi:Option Int):List V:=(xs.drop (HT.sIx xs.length 0 lo)).take (HT.sIx xs.length xs.length hi-HT.sIx xs.length 0 lo)
theorem qT(xs:List V)(lo hi:Option Int):(b9 xs lo hi).length<=xs.length:=by
 unfold b9;rw[ko,length_drop];omega
def rO(K:bf):V->Option Int->Option Int->Hp->VK->Prop:=fun x lo hi H Q=>∃a xs,x=.ref a/\SqT K H a xs /\
 ¬(HT.sIx xs.length 0 lo=0/\HT.sIx xs.length xs.length hi=xs.length)/\∀p,H p=none->Q (.ref p) (upd H p (.tup (b9 xs lo hi)))
theorem F2:SlR X (rO X.K):=by
 intro zc s σ H x v vl vu lo hi sl Q I rx hs pl pu h;obtain⟨a,xs,rfl,hx,hw,q⟩:=h;cases rx;obtain⟨y,r,ht,hz⟩:=I.tuple hx;have p:y.toArray.size=xs.length:=by rw[bv];exact r.length.symm
 refine⟨"tuple",_,PyProof.Rows.slot_tuple_getitem.lookup,ht.typeIs,?_⟩;refine HT.getItem_tuple_cut ht hs pl pu (by rw[p];exact hw) ?_ (by rw[p];exact hz);rw[p];refine⟨.ref s.heap.objs.size,_,I.laid (t':=s.toks) (o:=.tup (b9 xs lo hi)) (fun b ob q=>bb _ q) (bp _) ?_,rfl,q _ (I.hok.fresh (bp _))⟩;exact⟨⟨dm (qT xs lo hi) hz,_,bw _ rfl,rfl⟩,_,(r.drop (HT.sIx xs.length 0 lo)).take (HT.sIx xs.length xs.length hi-HT.sIx xs.length 0 lo),IsTup.new _ _⟩
def qO(K:bf):R2:=fun x y H Q=>∃a b xs ys,x=.ref a/\y=.ref b/\SqT K H a xs/\SqT K H b ys/\xs≠[]/\xs.length+ys.length<=be /\
 (ys=[]->Q (.ref a) H)/\(ys≠[]->∀p,H p=none->Q (.ref p) (upd H p (.tup (xs++ys))))
theorem Vals.nil_iff{xs:List V}{us:List au}(r:Vals xs us):us=[]↔xs=[]:=by
 cases r with
 |nil=>simp
 |cons _ _=>simp
theorem Cr:OpR X (gf .Add) (qO X.K):=by
 intro zc s σ H x y v u Q I rx ry h;obtain⟨a,b,xs,ys,rfl,rfl,ha,hb,hx,hz,q1,q2⟩:=h;cases rx;cases ry;obtain⟨aa,r1,p1,_⟩:=I.tuple ha;obtain⟨p,r2,p2,_⟩:=I.tuple hb;refine HT.cat_tup p1 p2 (fun z=>hx (r1.nil_iff.mp z)) (fun z=>⟨.ref a,H,I,rfl,q1 (r2.nil_iff.mp z)⟩) (fun z=>?_) (by rw[<- r1.length,<- r2.length];exact hz);refine⟨.ref s.heap.objs.size,_,I.laid (t':=s.toks) (o:=.tup (xs++ys)) (fun b ob q=>bb _ q) (bp _) ?_,rfl,q2 (fun w=>z (r2.nil_iff.mpr w)) _ (I.hok.fresh (bp _))⟩;exact⟨⟨by rw[bx];exact hz,_,bw _ rfl,rfl⟩,_,r1.append r2,IsTup.new _ _⟩
end
end
section
def ixN(n:Nat)(i:Int):Option Nat:=if 0<=i then (if i<n then some i.toNat else none)else if -(n:Int)<=i then some (i+n).toNat else none
def atI{α:Type}(xs:List α)(i:Int):Option α:=(ixN xs.length i).bind fun j=>xs[j]?
theorem sD{n:Nat}{i:Int}{j:Nat}(h:ixN n i=some j):seqIndex? i n=some j/\j<n/\-(n:Int)<=i/\i<n:=by
 unfold ixN at h;by_cases h0:0<=i
 ·rw[cb h0]at h;by_cases h1:i<n
  ·rw[cb h1]at h;have e:i.toNat=j:=eo h;exact⟨by rw[seqIndex_of h0 h1,e],yw,yw,h1⟩
  ·rw[bu h1]at h;cases h
 ·rw[bu h0]at h;by_cases h1:-(n:Int)<=i
  ·rw[cb h1]at h;have e:(i+n).toNat=j:=eo h;exact⟨by rw[seqIndex_neg yw h1,e],yw,h1,yw⟩
  ·rw[bu h1]at h;cases h
theorem rZ{α:Type}{xs:List α}{i:Int}{v:α}(h:atI xs i=some v):∃j,seqIndex? i xs.length=some j/\xs[j]?=some v/\j<xs.length/\-(xs.length:Int)<=i/\i<xs.length:=by
 unfold atI at h;cases e:ixN xs.length i with
 |none=>rw[e]at h;cases h
 |some j=>
  rw[e]at h;obtain⟨h1,h2,h3,h4⟩:=sD e;exact⟨j,h1,h,h2,h3,h4⟩
theorem gO{α:Type}{xs:List α}{j:Nat}{v:α}(h:xs[j]?=some v):atI xs (j:Int)=some v:=by
 have hj:j<xs.length:=(List.getElem?_eq_some_iff.mp h).1;have e:ixN xs.length (j:Int)=some j:=by
  unfold ixN;rw[cb yw,cb yw];simp
 unfold atI;rw[e];exact h
def PlainIx(b:Expr):Prop:=∀o i,subscripted b false o i=operate [o,i] (getItem o i)
def IxR(X:Cx)(r:R2):Prop:=
 ∀(value slice:Expr) (zc:List (Addr×Obj)) (s:ax) (σ:St) (H:Hp) (x y:V) (v u:au) (Q:VK),Inv X zc σ H s->RelV x v->RelV y u->r x y H Q ->
  subscripted slice false v u=operate [v,u] (getItem v u)->bh (model X.prog X.w) X.A (subscriptTail value slice v u) (EP X zc σ Q) X.xe s
def MtR(X:Cx)(id:String)(r:V->List V->Hp->VK->Prop):Prop:=
 ∀(zc:List (Addr×Obj)) (s:ax) (σ:St) (H:Hp) (x:V) (xs:List V) (v:au) (us:List au) (Q:VK),Inv X zc σ H s->RelV x v->Vals xs us->r x xs H Q ->
  bh (model X.prog X.w) X.A (call (.builtin id) (v::us)) (EP X zc σ Q) X.xe s
section
variable {X:Cx}{a b:Expr}{ta tb:TE}{pos:Pos}
theorem IxR.or{r r':R2}(h:IxR X r)(h':IxR X r'):IxR X (fun x y H Q=>r x y H Q\/r' x y H Q):=by
 intro value p zc s σ H x y v u Q I rx ry q hs;rcases q with q|q
 ·exact h value p zc s σ H x y v u Q I rx ry q hs
 ·exact h' value p zc s σ H x y v u Q I rx ry q hs
theorem aH{r:R2}(hr:IxR X r)(ha:PE X a ta)(hb:PE X b tb)(hs:PlainIx b):PE X (.Subscript a b pos) (tOp r ta tb):=by
 intro zc s σ H Q I h;exact Subscript_ (qE ha hb I h fun v u s2 x y H2 I2 rx ry q=>hr a b zc s2 σ H2 x y v u Q I2 rx ry q (hs _ _))
def qB(K:bf):R2:=fun x y H Q=>∃p xs i v,x=.ref p/\y=.int i/\SqL K H p xs/\atI xs i=some v/\Q v H
def pC(K:bf):R2:=fun x y H Q=>∃p xs i v,x=.ref p/\y=.int i/\SqT K H p xs/\atI xs i=some v/\Q v H
def pX:R2:=fun x y H Q=>∃z i c,x=.str z/\y=.int i/\z.length<=be/\atI z.cps.toList i=some c/\Q (.str ⟨#[c]⟩) H
theorem w8:IxR X (qB X.K):=by
 intro value ab zc s σ H x y v u Q I rx ry h hs;obtain⟨p,xs,i,z,rfl,rfl,hq,he,q⟩:=h;cases rx;obtain⟨t,rfl⟩:=ry;obtain⟨ac,r,pl,hz⟩:=I.list hq;obtain⟨j,h1,h2,h3,h4,h5⟩:=rZ he;obtain⟨w,ew,aa⟩:=r.get h2;have hl:=r.length;have hn:=line63;have fin:EP X zc σ Q w s:=⟨z,H,I,aa,q⟩;by_cases h0:0<=i
 ·have hj:i.toNat=j:=by
   rw[seqIndex_of h0 h5]at h1;exact eo h1
  exact item_listR pl.isList h0 yw (by rw[hj];simpa using ew) fin hs
 ·have hj:(i+(ac.toArray.size:Int)).toNat=j:=by
   rw[seqIndex_neg yw h4]at h1;rw[bv,<- hl];exact eo h1
  exact subscriptTail_builtinR (x:=w) pl.isList.typeIs slot_list_getitem.lookup
   (wpAny_getItem_list_neg (Q:=fun r s'=>r=w/\EP X zc σ Q r s') pl.isList yw (by rw[bv]<;>omega) yw (by rw[hj];simpa using ew) ⟨rfl,fin⟩) hs
theorem BH:IxR X (pC X.K):=by
 intro value ab zc s σ H x y v u Q I rx ry h hs;obtain⟨p,xs,i,z,rfl,rfl,hq,he,q⟩:=h;cases rx;obtain⟨t,rfl⟩:=ry;obtain⟨ac,r,pl,hz⟩:=I.tuple hq;obtain⟨j,h1,h2,h3,h4,h5⟩:=rZ he;obtain⟨w,ew,aa⟩:=r.get h2;have hl:=r.length;have hn:=line63;have fin:EP X zc σ Q w s:=⟨z,H,I,aa,q⟩;exact subscriptTail_builtinR (x:=w) pl.typeIs slot_tuple_getitem.lookup
  (getItem_tuple (j:=j) (Q:=fun r s'=>r=w/\EP X zc σ Q r s') pl yw yw (by rw[bv,<- hl];exact h1) (by simpa using ew) ⟨rfl,fin⟩) hs
theorem BD:IxR X pX:=by
 intro value p zc s σ H x y v u Q I rx ry h hs;obtain⟨z,i,c,rfl,rfl,hz,he,q⟩:=h;obtain⟨t,rfl⟩:=rx;obtain⟨t',rfl⟩:=ry;obtain⟨j,h1,h2,h3,h4,h5⟩:=rZ he;have hl:z.cps.toList.length=z.length:=by simp[Str.length]
 rw[hl]at h1 h4 h5;have hn:=line63;exact tail_any (typeIs_str s z t) slot_str_getitem.lookup (getItem_str (c:=c) (by
  have e1:decide (i < -(2 ^ 63:Int))=false:=ci yw;have e2:decide (i≥2 ^ 63)=false:=ci yw;rw[e1,e2,Bool.or_false]) (by rw[h1];simpa using h2) ⟨.str ⟨#[c]⟩,H,I.tok _,⟨_,rfl⟩,q⟩) hs
def rIx(K:bf):R2:=fun x y H Q=>qB K x y H Q\/pC K x y H Q\/pX x y H Q
theorem zP:IxR X (rIx X.K):=w8.or (BH.or BD)
theorem AU(p:List au)(n j:Nat)(u:au):kw (·.setIfInBounds j u) { cls:=.type "list",data:=.seq p.toArray n } = { cls:=.type "list",data:=.seq (p.set j u).toArray n }:=by
 simp[kw]
theorem Inv.lst{zc:List (Addr×Obj)}{σ:St}{H:Hp}{s:ax}{p:Addr}{xs:List V}(I:Inv X zc σ H s)(h:H p=some (.lst xs)):
  ∃(q:List au) (n:Nat),Vals xs q/\s.heap.get? p=some { cls:=.type "list",data:=.seq q.toArray n }/\xs.length<=be:=by
 obtain⟨z,q,n,r,e⟩:=I.hok p _ h;exact⟨q,n,r,e,z⟩
theorem Inv.lstUpd{zc:List (Addr×Obj)}{σ:St}{H:Hp}{s:ax}{p:Addr}{xs ys:List V}{y its':List au}{n n':Nat}{f:Obj->Obj}(I:Inv X zc σ H s)(h:H p=some (.lst xs))
  (ho:s.heap.get? p=some { cls:=.type "list",data:=.seq y.toArray n }) (hf:f { cls:=.type "list",data:=.seq y.toArray n } = { cls:=.type "list",data:=.seq its'.toArray n' }) (r:Vals ys its') (hz:ys.length<=be) (t:Nat):
  Inv X zc σ (upd H p (.lst ys)) { s with heap:=s.heap.update p f,toks:=t }:=by
 have e:(s.heap.update p f).get? p=some { cls:=.type "list",data:=.seq its'.toArray n' }:=by
  rw[get?_update_self f ho (by rw[hf]<;>rfl),hf]
 refine I.write (x:=p) (e:=p) (by rw[h];trivial) (.inl rfl) (fun b u hb q=>(gm _ _ (fw hb)).trans q) ⟨_,e⟩ ?_;exact⟨hz,its',n',r,e⟩
def w6:V->V->V->Hp->(Hp->Prop)->Prop:=fun o i v H Q=>∃p xs k j,o=.ref p/\i=.int k/\H p=some (.lst xs)/\ixN xs.length k=some j/\Q (upd H p (.lst (xs.set j v)))
theorem tP:PSet X w6:=by
 intro zc s σ H o i v ov iv u Q I ro ri rv h;obtain⟨p,xs,k,j,rfl,rfl,hp,hj,q⟩:=h;cases ro;obtain⟨t,rfl⟩:=ri;obtain⟨y,n,r,ho,hz⟩:=I.lst hp;obtain⟨h1,h2,h3,h4⟩:=sD hj;have hl:=r.length;have hn:=line63;have I':Inv X zc σ (upd H p (.lst (xs.set j v))) { s with heap:=s.heap.update p (kw (·.setIfInBounds j u)) } :=
  I.lstUpd hp ho (AU y n j u) (r.set rv j) (by rw[length_set];exact hz) s.toks
 by_cases h0:0<=k
 ·have hk:k.toNat=j:=by
   rw[seqIndex_of h0 h4]at h1;exact eo h1
  exact W.ki_setAt ho h0 yw (by rw[bv,<- hl];exact h4) (by rw[hk];exact⟨_,I',q⟩)
 ·have hk:(k+(y.toArray.size:Int)).toNat=j:=by
   rw[seqIndex_neg yw h3]at h1;rw[bv,<- hl];exact eo h1
  exact W.ki_setBack ho yw (by rw[bv,<- hl];exact h3) yw (by rw[hk];exact⟨_,I',q⟩)
theorem Fs(lo hi:Option Int)(n:Nat):(kq lo hi none n).1=((HT.sIx n 0 lo:Nat):Int)/\(kq lo hi none n).2.1=((HT.sIx n n hi:Nat):Int)/\(kq lo hi none n).2.2=1:=by
 refine⟨?_,?_,rfl⟩
 ·cases lo with
  |none=>simp[kq,HT.sIx]
  |some i=>
   simp only[kq,HT.sIx,Option.getD_none,show (1:Int)>0 by decide,if_true];by_cases h:i<0
   ·simp only[h,if_true]<;>omega
   ·simp only[h,if_false]<;>omega
 ·cases hi with
  |none=>simp[kq,HT.sIx]
  |some i=>
   simp only[kq,HT.sIx,Option.getD_none,show (1:Int)>0 by decide,if_true];by_cases h:i<0
   ·simp only[h,if_true]<;>omega
   ·simp only[h,if_false]<;>omega
theorem D4(p:List au)(lo hi:Option Int):slicePick p.toArray lo hi none=((p.drop (HT.sIx p.length 0 lo)).take (HT.sIx p.length p.length hi-HT.sIx p.length 0 lo)).toArray:=by
 obtain⟨h1,h2,h3⟩:=Fs lo hi p.toArray.size;unfold slicePick;rw[h1,h2,h3];simp only[sliceRange_one,pick_run,bv]<;>rfl
def jR(K:bf):V->Option Int->Option Int->Hp->VK->Prop:=fun x lo hi H Q=>∃a xs,x=.ref a/\SqL K H a xs/\∀p,H p=none->Q (.ref p) (upd H p (.lst (b9 xs lo hi)))
theorem v6:SlR X (jR X.K):=by
 intro zc s σ H x v vl vu lo hi sl Q I rx hs pl pu h;obtain⟨a,xs,rfl,hx,q⟩:=h;cases rx;obtain⟨y,r,ht,hz⟩:=I.list hx;have p:=r.length;refine⟨"list",_,slot_list_getitem.lookup,ht.isList.typeIs,?_⟩;refine wpAny_getItem_list_slice ht.isList hs pl pu .none yv ?_ (by rw[bv]<;>omega);rw[D4,<- p];refine⟨.ref s.heap.objs.size,_,I.laid (t':=s.toks) (o:=.lst (b9 xs lo hi)) (fun b ob q=>bb _ q) (bp _) ?_,rfl,q _ (I.hok.fresh (bp _))⟩;exact⟨dm (qT xs lo hi) hz,_,0,(r.drop (HT.sIx xs.length 0 lo)).take (HT.sIx xs.length xs.length hi-HT.sIx xs.length 0 lo),bw _ rfl⟩
theorem yA:CallR X (.builtin "len") (fun xs H Q=>∃p ys,xs=[.ref p]/\(SqL X.K H p ys\/SqT X.K H p ys)/\Q (.int ys.length) H):=by
 intro zc s σ H xs us Q I r h;obtain⟨p,ys,rfl,hq,q⟩:=h;obtain⟨u,rfl,rx⟩:=vals1 r;cases rx;have hn:=line63;rcases hq with hq|hq
 ·obtain⟨z,r',pl,hz⟩:=I.list hq;have y:=r'.length;exact Calls.call_len_list pl.isList (by simp only[bv]<;>omega) ⟨.int ys.length,H,I.tok _,⟨s.toks+1,by rw[bv,y]⟩,q⟩
 ·obtain⟨z,r',pl,hz⟩:=I.tuple hq;have y:=r'.length;exact len_tuple pl (by simp only[bv]<;>omega) ⟨.int ys.length,H,I.tok _,⟨s.toks+1,by rw[bv,y]⟩,q⟩
theorem EB:CallR X (.builtin "len") (fun xs H Q=>∃z,xs=[.str z]/\z.length<=be/\Q (.int z.length) H):=by
 intro zc s σ H xs us Q I r h;obtain⟨z,rfl,hz,q⟩:=h;obtain⟨u,rfl,t,rfl⟩:=vals1 r;have hn:=line63;exact len_str yw ⟨.int z.length,H,I.tok _,⟨_,rfl⟩,q⟩
theorem CallR.or{f:au}{r r':List V->Hp->VK->Prop}(h:CallR X f r)(h':CallR X f r'):CallR X f (fun xs H Q=>r xs H Q\/r' xs H Q):=by
 intro zc s σ H xs us Q I rs q;rcases q with q|q
 ·exact h zc s σ H xs us Q I rs q
 ·exact h' zc s σ H xs us Q I rs q
theorem F9:CallR X (.type "tuple") (fun xs H Q=>∃p ys,xs=[.ref p]/\((SqL X.K H p ys/\∀l,H l=none->Q (.ref l) (upd H l (.tup ys)))\/(SqT X.K H p ys/\Q (.ref p) H))):=by
 intro zc s σ H xs us Q I r h;obtain⟨p,ys,rfl,h⟩:=h;obtain⟨u,rfl,rx⟩:=vals1 r;cases rx;rcases h with ⟨hq,q⟩|⟨hq,q⟩
 ·obtain⟨y,r',pl,hz⟩:=I.list hq;have z:=r'.length;refine call_tuple_list pl.isList (fun h' kp=>?_) (by simp only[bv]<;>omega);have I1:Inv X zc σ H { s with heap:=h' }:=I.kept (t':=s.toks) kp;have I2:Inv X zc σ (upd H h'.objs.size (.tup ys)) { s with heap:=h'.push { cls:=.type "tuple",data:=.seq y.toArray } } :=
   I1.laid (t':=s.toks) (fun b o e=>bb _ e) (bp _) (show ObjOk X.prog X.w _ _ _ (.tup ys)from⟨⟨hz,_,bw _ rfl,rfl⟩,y,r',IsTup.new _ _⟩)
  exact⟨.ref h'.objs.size,_,I2,rfl,q _ (I1.hok.fresh (bp _))⟩
 ·obtain⟨y,r',pl,hz⟩:=I.tuple hq;exact call_tuple_same pl ⟨.ref p,H,I,rfl,q⟩
def tyV(K:bf)(T:String)(x:V)(H:Hp):Prop:=match x with
 | .str _=>T = "str"
 | .int _=>T = "int"
 | .ref p=>(T = "list"/\∃xs,SqL K H p xs)\/(T = "tuple"/\∃o,K.lookup p=some o/\o.cls=.type "tuple"/\o.dict=none) \/
   (T = "dict"/\((∃kvs,H p=some (.dK kvs))\/∃kvs,H p=some (.dT kvs)))\/(T = "set"/\∃S n,H p=some (.set S n))
 |_=>False
theorem DB{zc:List (Addr×Obj)}{σ:St}{H:Hp}{s:ax}{T:String}{x:V}{v:au}(I:Inv X zc σ H s)(r:RelV x v)(ty:tyV X.K T x H):
  s.TypeIs v T/\∀a,v=.ref a->∃ob,s.heap.get? a=some ob/\ob.dict=none:=by
 cases x with
 |str z=>
  obtain⟨t,rfl⟩:=r;cases (show T = "str" from ty);exact⟨typeIs_str s z t,fun _ e=>nomatch e⟩
 |int i=>
  obtain⟨t,rfl⟩:=r;cases (show T = "int" from ty);exact⟨typeIs_int s i t,fun _ e=>nomatch e⟩
 |ref p=>
  cases r;rcases ty with ⟨rfl,xs,hq⟩|⟨rfl,o,hk,hc,hd⟩|⟨rfl,hk⟩|⟨rfl,S,n,hk⟩
  ·obtain⟨q,_,pl,_⟩:=I.list hq;refine⟨pl.isList.typeIs,fun a e=>?_⟩;cases e;obtain⟨o,n,e,c,hd,_⟩:=pl;exact⟨o,e,hd⟩
  ·refine⟨⟨o,I.kIn p o hk,hc⟩,fun a e=>?_⟩;cases e;exact⟨o,I.kIn _ o hk,hd⟩
  ·have z:∃o,s.heap.get? p=some o/\o.ExactDict:=by
    rcases hk with ⟨kvs,hk⟩|⟨kvs,hk⟩
    ·obtain⟨_,_,_,_,o,_,_,e,ex,_⟩:=I.hok p _ hk;exact⟨o,e,ex⟩
    ·obtain⟨_,_,_,_,o,_,_,e,ex,_⟩:=I.hok p _ hk;exact⟨o,e,ex⟩
   obtain⟨o,e,ex⟩:=z;refine⟨⟨o,e,ex.1⟩,fun a e2=>?_⟩;cases e2;exact⟨o,e,ex.2.1⟩
  ·obtain⟨o,_,_,_,e,ex,_⟩:=I.hok p _ hk;refine⟨⟨o,e,ex.1⟩,fun a e2=>?_⟩;cases e2;exact⟨o,e,ex.2.1⟩
 |_=>exact iq ty
def tBM(K:bf)(T:String)(r:V->List V->Hp->VK->Prop)(to:TE)(t:TA):TE:=fun σ H Q=>to σ H fun x H1=>tyV K T x H1/\t σ H1 fun xs H2=>r x xs H2 Q
variable {o e:Expr}{es:List Expr}{to:TE}{t:TA}{name:Str}{apos cpos:Pos}{T id:String}{r:V->List V->Hp->VK->Prop}
theorem jZ(pa:PlainAttrs T)(slot:Slot T name id)(p:typeOf (.builtin id)=pure (.type "method_descriptor"))(hm:MtR X id r)(ho:PE X o to)(ha:PA X (e::es) t)
  (hbase:attributeBase o name X.env (eval o X.env)=eval o X.env:=by rfl)
  (hfew:((kr cpos (cq (e::es) X.env)).all (fun x=>!x.1)&&(backToKw cpos (keywordEach [] X.env)).all (fun x=>x.1.isSome)
   && decide ((e::es).length+([]:List Keyword).length+(if ([]:List Keyword).isEmpty then 0 else 1)<30))=true:=by rfl)
  (hline:(apos.endLine==cpos.line)=true:=by rfl) (hs:cq (e::es) X.env=(false,eval e X.env)::cq es X.env:=by rfl) (hplain:(kr cpos (cq es X.env)).any (·.1)=false:=by rfl):
  PE X (.Call (.Attribute o name apos) (e::es) [] cpos) (tBM X.K T r to t):=by
 intro zc s σ H Q I h;refine wpAny_Call_method_late hbase hfew hline rfl (thn (ho zc s σ H _ I h) fun v s1 ⟨x,H1,I1,r1,ty,q1⟩=>?_);obtain⟨h1,h2⟩:=DB I1 r1 ty;refine⟨T,id,pa,slot,p,h1,h2,?_⟩;have hA:=ha cpos zc s1 σ H1 _ I1 q1;rw[hs]at hA ⊢;refine Calls.callWith_builtin (by show (false||(kr cpos (cq es X.env)).any (·.1))=false;rw[hplain]<;>rfl) (Calls.evalArgs_plain ?_);exact thn hA fun us s2 ⟨vs,H2,I2,r2,q2⟩=>hm zc s2 σ H2 x vs v us Q I2 r1 r2 q2
end
end
section
def MtM(X:Cx)(id:String)(r:V->List V->Hp->VK->Prop):Prop:=
 ∀(zc:List (Addr×Obj)) (s:ax) (σ:St) (H:Hp) (x:V) (xs:List V) (v:au) (us:List au) (Q:VK),Inv X zc σ H s->RelV x v->Vals xs us->r x xs H Q ->
  bh (model X.prog X.w) X.A (call (.builtin id) (v::us)) (EP X zc σ Q) X.xe s
theorem Vals.one:∀{x:V}{us:List au},Vals [x] us->∃u,us=[u]/\RelV x u
 |_,_,.cons r .nil=>⟨_,rfl,r⟩
theorem Vals.rep{xs:List V}{us:List au}(h:Vals xs us):∀k:Nat,Vals (az k xs).flatten (az k us).flatten
 | 0=>.nil
 |k+1=>by
  rw[gi,gi,jx,jx];exact Vals.append h (Vals.rep h k)
theorem nP(p:List au):∀(k:Nat) (acc:List au),
  List.foldl (fun x1 x2=>x1++x2) acc.toArray (az k p.toArray)=(acc++(az k p).flatten).toArray
 | 0,acc=>by simp
 |k+1,acc=>by
  have e:acc.toArray++p.toArray=(acc++p).toArray:=by simp
  have e2:(acc++p)++(az k p).flatten=acc++(az (k+1) p).flatten:=by
   rw[gi,jx,cu]
  rw[<- e2,<- nP p k (acc++p),<- e,gi,List.foldl_cons]
section
variable {X:Cx}{zc:List (Addr×Obj)}{σ:St}{H:Hp}{s:ax}{l b:Addr}{xs ys zs:List V}
theorem Inv.lset{p its':List au}{n:Nat}{f:Array au->Array au}{t':Nat}(I:Inv X zc σ H s)(hH:H l=some (.lst xs))
  (e:s.heap.get? l=some { cls:=.type "list",data:=.seq p.toArray n }) (hf:f p.toArray=its'.toArray) (hv:Vals ys its') (hz:ys.length<=be):
  Inv X zc σ (upd H l (.lst ys)) { s with heap:=s.heap.update l (kw f),toks:=t' }:=by
 have q:=PySem.IsL.update e f;rw[hf]at q;refine I.write (x:=l) (e:=l) (by rw[hH];exact trivial) (.inl rfl) (fun b' u hb hu=>(gm s.heap (kw f) (fw hb)).trans hu) ⟨_,q⟩ ?_;exact⟨hz,its',_,hv,q⟩
theorem Inv.lnew{p:List au}{t':Nat}(I:Inv X zc σ H s)(hv:Vals ys p)(hz:ys.length<=be):
  Inv X zc σ (upd H s.heap.objs.size (.lst ys)) { s with heap:=s.heap.push { cls:=.type "list",data:=.seq p.toArray },toks:=t' } :=
 I.laid (fun _ _ q=>bb _ q) (bp _) ⟨hz,p,0,hv,bw _ rfl⟩
theorem Inv.fresh(I:Inv X zc σ H s):H s.heap.objs.size=none:=I.hok.fresh (bp _)
theorem Inv.lstM(I:Inv X zc σ H s)(hH:H l=some (.lst xs)):xs.length<=be/\∃(p:List au) (n:Nat),Vals xs p/\xs.length=p.length/\s.heap.get? l=some { cls:=.type "list",data:=.seq p.toArray n }:=by
 obtain⟨z,p,n,r,e⟩:=I.hok l _ hH;exact⟨z,p,n,r,r.length,e⟩
theorem A1{n:Nat}(h:n<=be):Builtin.List.listTooLong n=false:=by
 unfold Builtin.List.listTooLong;exact ci yw
end
section
variable {X:Cx}
def y9:V->List V->Hp->VK->Prop:=fun x vs H Q=>∃l xs y,x=.ref l/\vs=[y]/\H l=some (.lst xs)/\xs.length<be/\Q .non (upd H l (.lst (xs++[y])))
theorem gY:MtM X "list.append" y9:=by
 intro zc s σ H x vs v us Q I rx rv h;obtain⟨l,xs,y,rfl,rfl,hH,hz,q⟩:=h;cases rx;obtain⟨u,rfl,ru⟩:=rv.one;obtain⟨z,p,n,r,hl,e⟩:=I.lstM hH;refine call_meets F.slot_list_append ⟨_,e,rfl⟩ F.entry_list_append (F.args_list_append_2 _ _) (PySem.list_append l p.toArray n u (by rw[bv];omega)) ⟨e,?_⟩;refine⟨.non,_,I.lset (its':=p++[u]) hH e yv (r.append (.cons ru .nil)) ?_,rfl,q⟩;rw[bx,fe];omega
def l7:R2:=fun x y H Q=>∃l b xs zs,x=.ref l/\y=.ref b/\H l=some (.lst xs)/\H b=some (.lst zs)/\xs.length+zs.length<=be/\∀p,H p=none->Q (.ref p) (upd H p (.lst (xs++zs)))
theorem vI:OpR X (gf .Add) l7:=by
 intro zc s σ H x y v u Q I rx ry h;obtain⟨l,b,xs,zs,rfl,rfl,hH,hB,hz,q⟩:=h;cases rx;cases ry;obtain⟨z,aa,n,r,hl,e⟩:=I.lstM hH;obtain⟨z2,p,n2,r2,ab,e2⟩:=I.lstM hB;refine PySem.P.add_list e e2 ?_ (by rw[bv,bv];omega);have ea:aa.toArray++p.toArray=(aa++p).toArray:=by simp
 rw[ea];exact⟨.ref _,_,I.lnew (t':=s.toks) (r.append r2) (by rw[bx];omega),rfl,q _ I.fresh⟩
def t6:R2:=fun x y H Q=>∃l k xs,x=.ref l/\y=.int k/\H l=some (.lst xs)/\-(2 ^ 63)<=k/\k<2 ^ 63/\xs.length*k.toNat<=be /\
 ∀p,H p=none->Q (.ref p) (upd H p (.lst (az k.toNat xs).flatten))
theorem rH{α:Type}(xs:List α)(k:Nat):(az k xs).flatten.length=k*xs.length:=by
 induction k with
 |zero=>simp
 |succ k ih=>rw[gi,jx,bx,ih,Nat.succ_mul,Nat.add_comm]
theorem Ec:OpR X (gf .Mult) t6:=by
 intro zc s σ H x y v u Q I rx ry h;obtain⟨l,k,xs,rfl,rfl,hH,h1,h2,hz,q⟩:=h;cases rx;obtain⟨t,rfl⟩:=ry;obtain⟨z,p,n,r,hl,e⟩:=I.lstM hH;have ae:p.toArray.size*k.toNat<=be:=by rw[bv,<- hl];exact hz
 have ac:¬ p.toArray.size*k.toNat>(2 ^ 63-1)/8:=by
  have:(be:Nat)<=(2 ^ 63-1)/8:=by decide
  omega
 have af:¬(!Builtin.List.listFitsIndex k)=true:=by
  rw[fitsIndex_both h1 h2];exact fh
 have aa:¬ Builtin.List.listTooLong (p.toArray.size*k.toNat)=true:=by
  rw[A1 ae];exact fh
 have ab:List.foldl (fun x1 x2=>x1++x2) #[] (az (if p.toArray.isEmpty=true then 0 else k.toNat) p.toArray)=(az k.toNat p).flatten.toArray:=by
  have f0:∀m:Nat,List.foldl (fun x1 x2=>x1++x2) #[] (az m p.toArray)=(az m p).flatten.toArray:=fun m=>by
   have:=nP p m [];rw[nil_append]at this;exact this
  rw[f0];cases p with
  |nil=>simp
  |cons a r'=>rw[bu yv]
 refine wpAny_binaryOp_repeat_ref (T:="list") (U:="int") dz ⟨_,e,rfl⟩ (fun s'=>typeIs_int s' k t) noFill_list_mul F.fills_int_mul F.slot_int_rmul repeat_list F.slot_int_index.lookup
  (call_meets F.slot_int_rmul (typeIs_int s k t) F.entry_int_rmul (F.args_int_rmul_2 _ _) (int___rmul___int_list k t l p.toArray n)
   ⟨e,rfl,⟨_,e,rfl⟩,call_meets F.slot_list_mul ⟨_,e,rfl⟩ F.entry_list_mul (F.args_list_mul_2 _ _) (AutoListH.list___mul___list_int_3 l p.toArray n k t af ac aa) ⟨e,?_⟩⟩)
 rw[ab];exact⟨.ref _,_,I.lnew (t':=s.toks) (r.rep k.toNat) (by rw[rH,mul_comm];exact hz),rfl,q _ I.fresh⟩
end
end
section
section
variable {κ:Type} [DecidableEq κ]
def cH(kvs:List (κ×V))(k:κ):Option V:=(kvs.find? fun kv=>decide (kv.1=k)).map (·.2)
def bI(kvs:List (κ×V))(k:κ)(v:V):List (κ×V):=
 if (kvs.any fun kv=>decide (kv.1=k))=true then kvs.map (fun kv=>if kv.1=k then (kv.1,v)else kv)else kvs++[(k,v)]
theorem mS{p:κ×V}{r:List (κ×V)}{k:κ}(e:p.1=k):cH (p::r) k=some p.2:=by simp[cH,km,e]
theorem mH{p:κ×V}{r:List (κ×V)}{k:κ}(e:¬ p.1=k):cH (p::r) k=cH r k:=by simp[cH,km,e]
theorem x9(k:κ):∀kvs:List (κ×V),(kvs.any fun kv=>decide (kv.1=k))=(cH kvs k).isSome
 | []=>rfl
 |p::r=>by
  rw[any_cons];by_cases e:p.1=k
  ·simp only[mS e,fc e,Bool.true_or,Option.isSome_some]
  ·rw[mH e,ci e,Bool.false_or];exact x9 k r
theorem v4(kvs:List (κ×V))(k:κ)(v:V):(bI kvs k v).length<=kvs.length+1:=by
 unfold bI;split
 ·rw[bo];omega
 ·rw[bx,br,length_nil];omega
theorem RelO.isSome_eq{o:Option V}{u:Option au}(r:RelO o u):o.isSome=u.isSome:=by
 cases o with
 |none=>cases u with
  |none=>rfl
  |some _=>exact(show False from r).elim
 |some _=>cases u with
  |none=>exact(show False from r).elim
  |some _=>rfl
theorem KV.val{kvs:List (κ×V)}{vs:List (κ×au)}(r:KV kvs vs)(k:κ):RelO (cH kvs k) (valueAt vs k):=by
 unfold KV at r;induction r with
 |nil=>exact ir
 | @cons p q ps qs h t ih=>
  obtain⟨h1,h2⟩:=h;by_cases e:p.1=k
  ·have e':q.1=k:=h1.symm.trans e;have b:valueAt (q::qs) k=some q.2:=by simp[valueAt,km,e']
   rw[mS e,b];exact h2
  ·have e':¬ q.1=k:=fun z=>e (h1.trans z);have b:valueAt (q::qs) k=valueAt qs k:=by simp[valueAt,km,e']
   rw[mH e,b];exact ih
theorem KV.any{kvs:List (κ×V)}{vs:List (κ×au)}(r:KV kvs vs)(k:κ):(kvs.any fun kv=>decide (kv.1=k))=vs.any fun kv=>decide (kv.1=k):=by
 unfold KV at r;induction r with
 |nil=>rfl
 |cons h t ih=>rw[any_cons,any_cons,ih,h.1]
theorem KV.repl{kvs:List (κ×V)}{vs:List (κ×au)}(r:KV kvs vs)(k:κ){y:V}{u:au}(ry:RelV y u):
  KV (kvs.map fun kv=>if kv.1=k then (kv.1,y)else kv) (vs.map fun kv=>if kv.1=k then (kv.1,u)else kv):=by
 unfold KV at r ⊢;induction r with
 |nil=>exact .nil
 | @cons p q ps qs h t ih=>
  rw[ck,ck];refine .cons ?_ ih;obtain⟨h1,h2⟩:=h;by_cases e:p.1=k
  ·rw[cb e,cb (h1.symm.trans e)];exact⟨h1,ry⟩
  ·rw[bu e,bu (fun z=>e (h1.trans z))];exact⟨h1,h2⟩
theorem KV.put{kvs:List (κ×V)}{vs:List (κ×au)}(r:KV kvs vs)(k:κ){y:V}{u:au}(ry:RelV y u):KV (bI kvs k y) (stored vs k u):=by
 unfold bI stored;rw[r.any k];by_cases e:(vs.any fun kv=>decide (kv.1=k))=true
 ·rw[cb e,cb e];exact r.repl k ry
 ·rw[bu e,bu e];exact Paired.snoc r ⟨rfl,ry⟩
theorem KV.length{kvs:List (κ×V)}{vs:List (κ×au)}(r:KV kvs vs):kvs.length=vs.length:=Paired.length r
end
theorem jU{P:ca}{w:cy}{k:Key}{u:au}(r:RelV (kV k) u):(zZ P w).is k u=true:=by
 cases k with
 |inl i=>obtain⟨t,e⟩:=(show ∃t,u=jv i t from r);subst e;exact Az P w i t
 |inr x=>obtain⟨t,e⟩:=(show ∃t,u=Value.str x t from r);subst e;exact Cf P w x t
theorem wM{P:ca}{w:cy}:∀{ks:List Key}{us:List au},Vals (ks.map kV) us->ItemsAre (zZ P w) ks us
 | [],_,r=>by rw[map_nil]at r;cases r;exact .nil
 |k::ks,_,r=>by
  rw[ck]at r;cases r with
  |cons h t=>exact .cons (jU h) (wM t)
abbrev KT (H:Hp):List (List Key×V)->List (List Key×Addr×au)->Prop:=Paired fun p q=>p.1=q.1/\H q.2.1=some (.tup (p.1.map kV))/\RelV p.2 q.2.2
theorem KT.val{H:Hp}{kvs:List (List Key×V)}{xs:List (List Key×Addr×au)}(r:KT H kvs xs)(k:List Key):RelO (cH kvs k) ((atKey xs k).map (·.2)):=by
 induction r with
 |nil=>exact ir
 | @cons p q ps qs h t ih=>
  obtain⟨h1,_,h2⟩:=h;by_cases e:p.1=k
  ·have e':q.1=k:=h1.symm.trans e;have b:atKey (q::qs) k=some q.2:=by simp[atKey,km,e']
   rw[mS e,b];exact h2
  ·have e':¬ q.1=k:=fun z=>e (h1.trans z);have b:atKey (q::qs) k=atKey qs k:=by simp[atKey,km,e']
   rw[mH e,b];exact ih
theorem KT.repl{H:Hp}{kvs:List (List Key×V)}{xs:List (List Key×Addr×au)}(r:KT H kvs xs)(k:List Key){y:V}{u:au}(ry:RelV y u):
  KT H (kvs.map fun kv=>if kv.1=k then (kv.1,y)else kv) (xs.map (putAt k u)):=by
 induction r with
 |nil=>exact .nil
 | @cons p q ps qs h t ih=>
  rw[ck,ck];refine .cons ?_ ih;obtain⟨h1,h2,h3⟩:=h;unfold putAt;by_cases e:p.1=k
  ·rw[cb e,cb (h1.symm.trans e)];exact⟨h1,h2,ry⟩
  ·rw[bu e,bu (fun z=>e (h1.trans z))];exact⟨h1,h2,h3⟩
theorem KT.put{H:Hp}{kvs:List (List Key×V)}{xs:List (List Key×Addr×au)}(r:KT H kvs xs)(k:List Key){b:Addr}{y:V}{u:au}(hb:H b=some (.tup (k.map kV)))(ry:RelV y u):
  KT H (bI kvs k y) (storedH xs k b u):=by
 have e:(kvs.any fun kv=>decide (kv.1=k))=(atKey xs k).isSome:=by
  rw[x9,(r.val k).isSome_eq,isSome_map]
 unfold bI storedH;rw[e];by_cases q:(atKey xs k).isSome=true
 ·rw[cb q,cb q];exact r.repl k ry
 ·rw[bu q,bu q];exact Paired.snoc r ⟨rfl,hb,ry⟩
theorem KT.keeps{H H':Hp}{kvs:List (List Key×V)}{xs:List (List Key×Addr×au)}(r:KT H kvs xs)(ht:∀b ys,H b=some (.tup ys)->H' b=some (.tup ys)):KT H' kvs xs:=
 Paired.mapP r fun _ _ z=>⟨z.1,ht _ _ z.2.1,z.2.2⟩
section
variable {P:ca}{w:cy}{H:Hp}{h:Heap}{a:Addr}
theorem tO{u:HO}(ok:HOk P w H h)(e:Rd H a u):ObjOk P w H h a u:=e.ok ok
theorem iM{kvs:List (Key×V)}(ok:HOk P w H h)(e:Rd H a (.dK kvs)):kvs.length<=be/\(a==gq)=false/\∃vs,KV kvs vs/\h.DictOf (zZ P w) a vs:=
 show ObjOk P w H h a (.dK kvs)from tO ok e
theorem C0{kvs:List (Key×V)}(ok:HOk P w H h)(e:H a=some (.dK kvs)):kvs.length<=be/\(a==gq)=false/\∃vs,KV kvs vs/\h.DictOf (zZ P w) a vs:=iM ok (.inl e)
theorem j9{ks:List Key}(ok:HOk P w H h)(e:H a=some (.tup (ks.map kV))):(tupleKind (zZ P w)).is h ks a:=by
 obtain⟨_,p,r,o,h1,h2,n,h3⟩:=(show ObjOk P w H h a (.tup (ks.map kV))from ok a _ e);exact⟨o,p.toArray,n,h1,h2,h3,by simpa using wM r⟩
theorem kR{kvs:List (List Key×V)}(ok:HOk P w H h)(e:Rd H a (.dT kvs)):kvs.length<=be/\(a==gq)=false /\
  ∃xs,KT H kvs xs/\h.DictOfH (tupleKind (zZ P w)) a xs:=by
 obtain⟨z,y,xs,r,o,es,ep,h1,h2,h3,h4,h5⟩:=(show ObjOk P w H h a (.dT kvs)from tO ok e);refine⟨z,y,xs,r,o,es,ep,h1,h2,h3,h4,fun x hx=>?_,h5⟩;have aa:∀{l:List (List Key×V)}{m:List (List Key×Addr×au)},KT H l m->∀x∈m,(tupleKind (zZ P w)).is h x.1 x.2.1:=by
  intro l m q;induction q with
  |nil=>intro x hx;exact nomatch hx
  | @cons p q ps qs hq t ih=>
   intro x hx;rcases mem_cons.mp hx with e|hx
   ·subst e;exact j9 ok (by rw[<- hq.1];exact hq.2.1)
   ·exact ih x hx
 exact aa r x hx
theorem FU{kvs:List (List Key×V)}(ok:HOk P w H h)(e:H a=some (.dT kvs)):kvs.length<=be/\(a==gq)=false /\
  ∃xs,KT H kvs xs/\h.DictOfH (tupleKind (zZ P w)) a xs:=kR ok (.inl e)
end
def DGet(H:Hp)(a:Addr)(y:V)(r:Option V):Prop:=
 (∃kvs k,Rd H a (.dK kvs)/\y=kV k/\r=cH kvs k)\/∃kvs k b,Rd H a (.dT kvs)/\y=.ref b/\H b=some (.tup (k.map kV))/\r=cH kvs k
def DPut(H:Hp)(a:Addr)(y v:V)(H':Hp):Prop:=
 (∃kvs k,H a=some (.dK kvs)/\y=kV k/\kvs.length<be/\H'=upd H a (.dK (bI kvs k v))) \/
 ∃kvs k b,H a=some (.dT kvs)/\y=.ref b/\H b=some (.tup (k.map kV))/\kvs.length<be/\H'=upd H a (.dT (bI kvs k v))
theorem DPut.k{H:Hp}{a:Addr}{kvs:List (Key×V)}{k:Key}{v:V}(e:H a=some (.dK kvs))(hl:kvs.length<be):DPut H a (kV k) v (upd H a (.dK (bI kvs k v))):=.inl ⟨kvs,k,e,rfl,hl,rfl⟩
theorem DPut.t{H:Hp}{a b:Addr}{kvs:List (List Key×V)}{k:List Key}{v:V}(e:H a=some (.dT kvs))(eb:H b=some (.tup (k.map kV)))(hl:kvs.length<be):
  DPut H a (.ref b) v (upd H a (.dT (bI kvs k v))):=.inr ⟨kvs,k,b,e,rfl,eb,hl,rfl⟩
section
variable {X:Cx}{zc:List (Addr×Obj)}{σ:St}{H:Hp}{s:ax}{a:Addr}{y v:V}{u r:au}{o:Option V}{A:ef}{E:au->ax->Prop}
theorem Inv.big(I:Inv X zc σ H s):gq<s.heap.objs.size:=by
 have h:gv<s.heap.objs.size:=(I.mod.glob.keeps I.bk).lt;exact Nat.lt_trans dz h
theorem Fi{Q:au->ax->Prop}(hu:A.units+1<jc)(I:Inv X zc σ H s)(g:DGet H a y (some v))(ry:RelV y u)(h:∀w' s',Inv X zc σ H s'->RelV v w'->Q w' s'):
  bh (model X.prog X.w) A (getItem (.ref a) u) Q E s:=by
 rcases g with ⟨kvs,k,e,ey,l⟩|⟨kvs,k,b,e,ey,eb,l⟩
 ·subst ey;obtain⟨z,hd,vs,q,dd⟩:=iM I.hok e;obtain⟨w',hw,aa⟩:=RelO.some_of (v:=v) (o:=valueAt vs k) (by rw[l];exact q.val k);exact wpAny_getItem_of (jU ry) dd.mapOf hw (h w' _ (I.tok _) aa)
 ·subst ey;cases (show u=cw b from ry);obtain⟨z,hd,xs,q,dd⟩:=kR I.hok e;obtain⟨w',hw,aa⟩:=RelO.some_of (v:=v) (o:=(atKey xs k).map (·.2)) (by rw[l];exact q.val k);obtain⟨p,hp,ab⟩:=map_eq_some_iff.mp hw;refine wpAny_getItem_heap (tupleKind_room_in1 hu) (j9 I.hok eb) dd hp ?_;rw[ab];exact h w' _ (I.tok _) aa
theorem Ef{Q:au->ax->Prop}(hu:A.units+1<jc)(I:Inv X zc σ H s)(g:DGet H a y o)(ry:RelV y u)(h:∀s',Inv X zc σ H s'->Q (.bool o.isSome) s'):
  bh (model X.prog X.w) A (fj .In u (.ref a)) Q E s:=by
 rcases g with ⟨kvs,k,e,ey,l⟩|⟨kvs,k,b,e,ey,eb,l⟩
 ·subst ey;obtain⟨z,hd,vs,p,dd⟩:=iM I.hok e;refine wpAny_in_of (jU ry) hd dd.mapOf ?_;rw[<- (p.val k).isSome_eq,<- l];exact h _ (I.tok _)
 ·subst ey;cases (show u=cw b from ry);obtain⟨z,hd,xs,p,dd⟩:=kR I.hok e;refine wpAny_in_heap (tupleKind_room_in1 hu) (j9 I.hok eb) hd dd ?_;have q:=(p.val k).isSome_eq;rw[isSome_map]at q;rw[<- q,<- l];exact h _ (I.tok _)
theorem Dm{Q:au->ax->Prop}(hu:A.units+1<jc)(I:Inv X zc σ H s)(g:DGet H a y o)(ry:RelV y u)(h:∀s',Inv X zc σ H s'->Q (.bool (!o.isSome)) s'):
  bh (model X.prog X.w) A (fj .NotIn u (.ref a)) Q E s:=by
 rcases g with ⟨kvs,k,e,ey,l⟩|⟨kvs,k,b,e,ey,eb,l⟩
 ·subst ey;obtain⟨z,hd,vs,p,dd⟩:=iM I.hok e;refine wpAny_notIn_of (jU ry) hd dd.mapOf ?_;rw[<- (p.val k).isSome_eq,<- l];exact h _ (I.tok _)
 ·subst ey;cases (show u=cw b from ry);obtain⟨z,hd,xs,p,dd⟩:=kR I.hok e;refine wpAny_notIn_heap (tupleKind_room_in1 hu) (j9 I.hok eb) hd dd ?_;have q:=(p.val k).isSome_eq;rw[isSome_map]at q;rw[<- q,<- l];exact h _ (I.tok _)
theorem xM{h':Heap}{t':Nat}{ob:HO}(I:Inv X zc σ H s)(mu:Mut (H a))(hs:fg a s.heap h')(he:∃q,h'.get? a=some q)(p:ObjOk X.prog X.w (upd H a ob) h' a ob):
  Inv X zc σ (upd H a ob) { s with heap:=h',toks:=t' } :=
 I.write (x:=a) (e:=a) mu (.inl rfl) (fun b q hb z=>(hs.2 b hb).trans z) he p
theorem Fk{P:ca}{w:cy}{H':Hp}{h':Heap}{kvs:List (Key×V)}{vs:List (Key×au)}(z:kvs.length<=be)(hd:(a==gq)=false)(p:KV kvs vs)(dd:h'.DictOf (zZ P w) a vs):
  ObjOk P w H' h' a (.dK kvs):=⟨z,hd,vs,p,dd⟩
theorem F6{H':Hp}{Q:Unit->ax->Prop}(hu:A.units+1<jc)(I:Inv X zc σ H s)(g:DPut H a y v H')(ry:RelV y u)(rv:RelV v r)(h:∀s',Inv X zc σ H' s'->Q () s'):
  bh (model X.prog X.w) A (setItem (.ref a) u r) Q E s:=by
 rcases g with ⟨kvs,k,e,ey,l,eH⟩|⟨kvs,k,b,e,ey,eb,l,eH⟩
 ·subst ey eH;obtain⟨z,hd,vs,p,dd⟩:=C0 I.hok e;have hz:vs.length<=be:=by rw[<- p.length];exact z
  have hl:(bI kvs k v).length<=be:=by have:=v4 kvs k v;omega
  refine wpAny_setItem_pairs (hsz:=hz) (jU ry) dd fun h' aa hs=>h _ ?_;have he:∃q,h'.get? a=some q:=let ⟨q,_,_,hq,_⟩:=aa;⟨q,hq⟩;exact xM I (by rw[e];exact ir) hs he (Fk hl hd (p.put k rv) aa)
 ·subst ey eH;cases (show u=cw b from ry);obtain⟨z,hd,xs,p,dd⟩:=FU I.hok e;have hz:xs.length<=be:=by rw[<- Paired.length p];exact z
  have hl:(bI kvs k v).length<=be:=by have:=v4 kvs k v;omega
  refine wpAny_setItem_heap (hsz:=hz) (tupleKind_room_in1 hu) (j9 I.hok eb) dd fun h' aa hs=>h _ ?_;obtain⟨q,es,ep,hq,h2,h3,h4,_,h5⟩:=aa;refine xM I (by rw[e];exact ir) hs ⟨q,hq⟩ ⟨hl,hd,_,(p.put k eb rv).keeps fun c ys ec=>?_,q,es,ep,hq,h2,h3,h4,h5⟩;rw[zp (Fu ec e (fun z=>nomatch z))];exact ec
end
def NoSl(i:Expr):Prop:=∀ov iv,subscripted i false ov iv=operate [ov,iv] (getItem ov iv)
theorem DC{prog:ca}{w:cy}{A:ef}{E:au->ax->Prop}{s:ax}{env:Env}{value p:Expr}{pos:Pos}{T id:String}{Q:au->ax->Prop}
  (hl:typeLookup (.type T) "__getitem__" = pure (some (.builtin id))) (hs:NoSl p)
  (h:bh (model prog w) A (eval value env) (fun o s₁=>bh (model prog w) A (eval p env) (fun i s₂=>s₂.TypeIs o T/\bh (model prog w) A (getItem o i) Q E s₂) E s₁) E s):
  bh (model prog w) A (eval (.Subscript value p pos) env) Q E s:=by
 refine Subscript_ (kj h (fun o s₁ h₁=>kj h₁ (fun i s₂ h₂=>?_) fun _ _ x=>x) fun _ _ x=>x);obtain⟨hT,h₂⟩:=h₂;unfold subscriptTail;refine aw ?_;rw[getitemInPython_of_ne hT.not_modules];refine aw (wpAny_specialOf hT hl ?_);have fin:bh (model prog w) A (subscripted p false o i) (fun r s₃=>bh (model prog w) A (letTemporaryGo value o r >>= fun _=>pure r) Q E s₃) E s₂:=by
  rw[hs o i];exact wpAny_operating (kj h₂ (fun r s₃ h₃=>aw (wpAny_letTemporaryGo (bj h₃))) fun _ _ x=>x)
 first
  |exact bj (aw fin)
  |exact aw (bj (aw fin))
  |exact aw fin
theorem Bt{X:Cx}{zc:List (Addr×Obj)}{σ:St}{H:Hp}{s:ax}{a:Addr}{y:V}{o:Option V}(I:Inv X zc σ H s)(g:DGet H a y o):s.TypeIs (.ref a) "dict":=by
 rcases g with ⟨kvs,k,e,_,_⟩|⟨kvs,k,b,e,_,_,_⟩
 ·obtain⟨_,_,vs,_,dd⟩:=iM I.hok e;exact dd.typeIs
 ·obtain⟨_,_,xs,_,dd⟩:=kR I.hok e;exact dd.typeIs
def vG(td ty:TE):TE:=fun σ H Q=>td σ H fun x H1=>ty σ H1 fun y H2=>∃a v,x=.ref a/\DGet H2 a y (some v)/\Q v H2
def tH(td ty tv:TE):TS:=fun D σ H=>tv σ H fun v H1=>td σ H1 fun x H2=>ty σ H2 fun y H3=>∃a H4,x=.ref a/\DPut H3 a y v H4/\D.nx σ H4
section
variable {X:Cx}{o i e value:Expr}{pos pos' tpos:Pos}{td ty tv:TE}
theorem Dz(hu:X.A.units+1<jc)(ho:PE X o td)(hi:PE X i ty)(hs:NoSl i):PE X (.Subscript o i pos) (vG td ty):=by
 intro zc s σ H Q I h;refine DC PySem.F.slot_dict_getitem.lookup hs (thn (ho zc s σ H _ I h) fun u s1 ⟨x,H1,I1,rx,q1⟩=>thn (hi zc s1 σ H1 _ I1 q1) fun iv s2 ⟨y,H2,I2,ry,a,v,ex,g,q2⟩=>?_);subst ex;obtain rfl:u=cw a:=rx;exact⟨Bt I2 g,Fi hu I2 g ry fun w' s3 I3 p=>⟨v,H2,I3,p,q2⟩⟩
theorem wA(hu:X.A.units+1<jc)(ho:PE X o td)(hi:PE X i ty)(hv:PE X value tv)(hs:swapsWith value (some (.Subscript o i pos')) pos.line X.env=pure false):
  PS X (.Assign [.Subscript o i pos'] value pos) (tH td ty tv):=by
 intro zc s σ H D I h;refine wpAny_Assign_Subscript (thn (hv zc s σ H _ I h) fun r s1 ⟨v,H1,I1,rv,q1⟩=>thn (ho zc s1 σ H1 _ I1 q1) fun u s2 ⟨x,H2,I2,rx,q2⟩=>thn (hi zc s2 σ H2 _ I2 q2) fun iv s3 ⟨y,H3,I3,ry,a,H4,ex,g,q3⟩=>?_) hs;subst ex;obtain rfl:u=cw a:=rx;exact F6 hu I3 g ry rv fun s4 I4=>⟨σ,H4,I4,q3⟩
end
theorem DR{P:ca}{w:cy}{H:Hp}(h:Heap)(hb:gq<h.objs.size):ObjOk P w H (h.push { cls:=.type "dict",data:=.dict #[] }) h.objs.size (.dK []):=
 ⟨kh _,beq_eq_false_iff_ne.mpr (fw (ff hb)),[],.nil,Heap.DictOf.new h⟩
def pY:TE:=fun _ H Q=>∀p,H p=none->Q (.ref p) (upd H p (.dK []))
section
variable {X:Cx}{pos:Pos}
theorem w4:PE X (.Dict [] [] pos) pY:=fun zc s σ H Q I h=>
 wpAny_Dict_empty ⟨.ref s.heap.objs.size,_,I.laid (a:=s.heap.objs.size) (o:=.dK []) (t':=s.toks) (fun _ _ q=>bb _ q) (bp _) (DR s.heap I.big),rfl,h _ (I.hok.fresh (bp _))⟩
end
structure M1(X:Cx)(o:Expr)(m:Str)(apos:Pos)(e:Expr)(cpos:Pos):Prop where
 base:attributeBase o m X.env (eval o X.env)=eval o X.env
 few:((kr cpos (cq [e] X.env)).all (fun x=>!x.1)&&(backToKw cpos (keywordEach [] X.env)).all (fun x=>x.1.isSome)
  && decide (([e]:List Expr).length+([]:List Keyword).length+(if ([]:List Keyword).isEmpty then 0 else 1)<30))=true
 line:(apos.endLine==cpos.line)=true
 trees:kr cpos (cq [e] X.env)=[(false,eval e X.env)]
structure M2(X:Cx)(o:Expr)(m:Str)(apos:Pos)(e f:Expr)(cpos:Pos):Prop where
 base:attributeBase o m X.env (eval o X.env)=eval o X.env
 few:((kr cpos (cq [e,f] X.env)).all (fun x=>!x.1)&&(backToKw cpos (keywordEach [] X.env)).all (fun x=>x.1.isSome)
  && decide (([e,f]:List Expr).length+([]:List Keyword).length+(if ([]:List Keyword).isEmpty then 0 else 1)<30))=true
 line:(apos.endLine==cpos.line)=true
 trees:kr cpos (cq [e,f] X.env)=[(false,eval e X.env),(false,eval f X.env)]
def obO(a:Addr)(ob:Obj):HO:=.ext fun h=>h.get? a=some ob
end
end L2
namespace Att
open PySem PySem.W PySem.Calls PyProof.Rows
theorem Et{P:Params}{h:Heap}:∀(ns:List Int) (vs:List au),WellAll P h vs (ns.map WData.int)->gg vs ns:=by
 intro ns;induction ns with
 |nil=>
  intro vs w;rw[map_nil]at w;cases w;exact .nil
 |cons n ns ih=>
  intro vs w;rw[ck]at w;cases w with
  |cons a b=>
   cases a;exact .cons _ _ (ih _ b)
theorem EE{l:OpenLaw}{n:Nat}(hn:l.most=some n){P:Params}{h:Heap}{args:List WData}{p:List au}
  (hpre:l.row.toRowW.claim.pre args=true) (hwl:WellAll P h p args):
  ∃a vs ns,p=[cw a]/\args=[WData.list (ns.map WData.int)]/\h.get? a=some { cls:=.type "list",data:=.seq vs.toArray }/\gg vs ns/\ns.length<=n:=by
 have z:WShape.hasAll [] args [.list .int]=true:=(pre_splitW hpre).1;have hc:l.pre.holds [] { args:=args } = true:=(pre_splitW hpre).2;obtain⟨d,r,rfl,h1,h2⟩:=hasAllW_cons z;obtain rfl:=hasAllW_nil h2;obtain⟨xs,rfl,h3⟩:=hasW_list h1;obtain⟨ns,rfl⟩:=items_int h3;have y:ns.length<=n:=by
  unfold OpenLaw.pre at hc;have h4:(WTm.not (.lt (.lit (.int (n:Int))) (.len (.arg 0)))).holds [] { args:=[.list (ns.map .int)] } = true:=by
   have h4:=(holds_andW hc).1;rw[hn]at h4;exact h4
  have h5:=condW_of h4 (w_not (w_lt w_lit (w_len_list (w_arg rfl))));rw[bo]at h5;refine Nat.le_of_not_lt fun q=>?_;have q':(n:Int)<((ns.length:Nat):Int):=yw
  first
   | (rw[fc q']at h5;exact absurd h5 dz)
   | (simp at h5;omega)
 cases hwl with
 |cons w1 w2=>
  cases w2;cases w1 with
  |list ho hall=>exact⟨_,_,ns,rfl,rfl,ho,Et ns _ hall,y⟩
theorem BX(l:OpenLaw)(args:List WData):l.row.toRowW.claim.post args (.bool true) args=true:=
 postW_of (r:=l.row.toRowW) (X:=(true==true))
  (show WShape.has [] (.bool true) .bool=true by first|rfl|decide|simp[WShape.has,WShape.arms,WShape.armsAll])
  (show (WTm.eq .res (.lit (.bool true))).value [] { args:=args,res:=some (.bool true),after:=args } = some (.bool (true==true))from w_eq_bool (w_res rfl) w_lit) rfl
theorem attach_call{l:OpenLaw}{n:Nat}{q:ca}{p:List Str}{XP:(Str->Option au)->Heap->Prop}{YP:cy->Heap->Prop}{d:DefRec}
  (hn:l.most=some n) (hdf:d.params.defaults=[])
  (call:∀(w:cy) (s₀ s₁:ax) (mg mb:Str->Option au) (fa:Addr) (o:Obj) (pm cd y:au) (a:Addr) (vs:List au) (ns:List Int),
   Ground q p [] XP w s₀ mg mb s₁.heap->YP w s₁.heap ->
   s₁.heap.get? fa=some o->o.data=.func (docDef d.name d.params d.body d.scope pm cd y)->s₁.heap.CodeRec cd d.name->mg d.name=some (.ref fa) ->
   s₁.heap.get? a=some { cls:=.type "list",data:=.seq vs.toArray }->gg vs ns->ns.length<=n->s₁.gens = #[] ->
   codeAny (model l.prog w) callerA (.call (.ref fa) ⟨[.ref a],[]⟩) (fun r s'=>r=.ok (.ret (.bool true))/\OldK s₁.heap s'.heap/\s'.os=s₁.os/\AllBare s'.gens) s₁):
  WalkO q p XP YP l.row.toRowW d [] (fun f vs=>PySem.call f vs):=by
 intro w s₀ s₁ mg mb G Y fa o pm cd y dV kV ho hd ag hD af hg args ai as ab ah aj ae ak;obtain rfl:dV=.none:=Dflts.none hD hdf;obtain rfl:kV=.none:=Dflts.noKw hD;obtain⟨a,vs,ns,rfl,rfl,aa,z,ac⟩:=EE hn ab ae;refine enter_call (codeAny_mono (call w s₀ s₁ mg mb fa o pm cd y a vs ns G Y ho (fd_plain hd) ag af aa z ac hg) fun r s' hq=>?_);obtain⟨rfl,h2,h3,h4⟩:=hq;exact⟨.inl ⟨.bool true,.bool true,[],rfl,fun _=>rfl,.bool true,BX l _,fun _=>⟨List.Pairwise.nil,fun _ hm=>(nomatch hm)⟩⟩,h2,h3,h4⟩
end Att
namespace L2
open PySem PySem.Spec PyProof.Rows
section
theorem wK:∀{vs:List au}{ns:List Int},gg vs ns->Vals (ns.map V.int) vs
 |_,_,.nil=>.nil
 |_,_,.cons n t h=>.cons ⟨t,rfl⟩ (wK h)
def Only(H:Hp):Prop:=∀b,H b=none\/(∃o xs,H b=some (.frz o (.lst xs)))\/∃q∈tabsG,q.1.2=b/\H b=some (.tbl q.2)
def bS(b:Addr):Option HO:=(tabsG.find? fun q=>q.1.2==b).map fun q=>.tbl q.2
theorem iE{b:Addr}{u:HO}(e:bS b=some u):∃q∈tabsG,q.1.2=b/\u=.tbl q.2:=by
 unfold bS at e;cases h:tabsG.find? fun q=>q.1.2==b with
 |none=>rw[h]at e;cases e
 |some q=>
  rw[h]at e;cases e;exact⟨q,List.mem_of_find?_eq_some h,by simpa using find?_some h,rfl⟩
theorem At{l:List ((Addr×Addr)×Array au)}(nd:(l.map fun q=>q.1.2).Nodup){q:(Addr×Addr)×Array au}(h:q∈l):l.find? (fun r=>r.1.2==q.1.2)=some q:=by
 induction l with
 |nil=>cases h
 |cons p l ih=>
  rw[ck,iu]at nd;rcases mem_cons.mp h with e|e
  ·subst e;simp
  ·have ne:¬ p.1.2=q.1.2:=fun z=>nd.1 (by rw[z];exact io (f:=fun q:(Addr×Addr)×Array au=>q.1.2) e);rw[jo (by simpa using ne)];exact ih nd.2 e
theorem x5(nd:(tabsG.map fun q=>q.1.2).Nodup){q:(Addr×Addr)×Array au}(h:q∈tabsG):bS q.1.2=some (.tbl q.2):=by
 unfold bS;rw[At nd h];rfl
structure TabsOk(K:bf)(h:Heap):Prop where
 nd:(tabsG.map fun q=>q.1.2).Nodup
 hd:∀q∈tabsG,W.CodeHd h q.1.1 q.1.2
 empty:∀q∈tabsG,h.get? q.1.2=some (W.tabObj #[])
 off:∀q∈tabsG,K.lookup q.1.2=none
theorem TabsOk.none{K:bf}{h:Heap}(e:tabsG=[]):TabsOk K h:=⟨by rw[e];exact gn,fun q z=>absurd z (by rw[e];simp),fun q z=>absurd z (by rw[e];simp),fun q z=>absurd z (by rw[e];simp)⟩
theorem Er{P:ca}{w:cy}{K:bf}{mg mb:Str->Option au}{CX:CXT}{k:Nat}{fa a:Addr}{fd:jd}{x:Str}{sp:Sp}{s₁:ax}{vs:List au}{ns:List Int}
  (KX:K.In s₁.heap) (TT:TabsOk K s₁.heap) (hbm:BltAt s₁.heap mg) (hns:s₁.heap.Ns gv mg) (hb:s₁.heap.Ns builtinsNs mb) (hbb:∀x:Str,x ≠ "__name__"->mb x=dh x) (hlim:s₁.heap.NoLimit) (hg:s₁.gens = #[])
  (ha:s₁.heap.get? a=some { cls:=.type "list",data:=.seq vs.toArray }) (hi:gg vs ns) (hl:ns.length<=be) (hr:Room k callerA)
  (F:∀base:Heap,K.In base->base.Ns gv mg->FnOk P w K mg base CX k fa fd [x] sp) (hbind:∀(s:ax) (u:au),BindsTo s fd ⟨[u],[]⟩ [(x,u)])
  (hsp:∀H:Hp,Only H->SqL K H a (ns.map V.int)->sp [.ref a] H (fun v _=>v=.bl true) fun _ _ _=>False)
  (hCX:∀H e s',CX [] H s₁ (fun _ _ _=>False) e s'->False):
  codeAny (model P w) callerA (.call (.ref fa) ⟨[.ref a],[]⟩) (fun r s'=>r=.ok (.ret (.bool true))/\OldK s₁.heap s'.heap/\s'.os=s₁.os/\AllBare s'.gens) s₁:=by
 have rv:=wK hi;have af:=hi.length
 have ac:∀H:Hp,Only H->SqL K H a (ns.map V.int)->HOk P w H s₁.heap->(∀b,H b≠none->b=a\/∃q∈tabsG,q.1.2=b)->(H a≠none->K.lookup a=none)->(∀q∈tabsG,H q.1.2=some (.tbl q.2)) ->
   codeAny (model P w) callerA (.call (.ref fa) ⟨[.ref a],[]⟩) (fun r s'=>r=.ok (.ret (.bool true))/\OldK s₁.heap s'.heap/\s'.os=s₁.os/\AllBare s'.gens) s₁:=by
  intro H hO hS hok hA hK ag;have ak:∀{b:Addr}{o:Obj},s₁.heap.get? b=some o->o.cls≠.type "list"->o.cls≠.none->H b=none:=fun {b o} e c1 c2=>by
   cases q:H b with
   |none=>rfl
   |some u=>
    rcases hA b (by rw[q];simp)with e'|⟨r,p,e'⟩
    ·subst e';rw[ha]at e;cases e;exact absurd rfl c1
    ·have:=TT.empty r p;rw[e',e]at this;cases this;exact absurd rfl c2
  have y:∀{b:Addr}{o:Obj},s₁.heap.get? b=some o->H b=none->(d8 s₁.heap H).get? b=some o:=fun e n=>C9 e n;have al:∀{b:Addr}{o:Obj}{es:Array DictEntry}{ep:Nat},s₁.heap.get? b=some o->o.data=.dict es ep->H b=none:=fun {b o es ep} e d=>by
   cases q:H b with
   |none=>rfl
   |some u=>
    rcases hA b (by rw[q];simp)with e'|⟨r,p,e'⟩
    ·subst e';rw[ha]at e;cases e;have d':Data.seq vs.toArray _=Data.dict es ep:=d;cases d'
    ·have:=TT.empty r p;rw[e',e]at this;cases this;cases d
  have aa:∀{b:Addr}{m:Str->Option au},s₁.heap.Ns b m->(d8 s₁.heap H).Ns b m:=fun {b m} ⟨o,es,ep,e,d,r⟩=>⟨o,es,ep,y e (al e d),d,r⟩;have ai:K.In (d8 s₁.heap H):=fun b o e=>y (KX b o e) (by
   cases q:H b with
   |none=>rfl
   |some u=>
    rcases hA b (by rw[q];simp)with e'|⟨r,p,e'⟩
    ·subst e';rw[hK (by rw[q];simp)]at e;cases e
    ·rw[<- e',TT.off r p]at e;cases e)
  have hM:Mod K mg (d8 s₁.heap H):=⟨ai,aa hns,⟨mb,aa hb,hbb⟩,let ⟨mc,h1,h2⟩:=hlim;⟨mc,aa h1,h2⟩,
   let ⟨bm,ob,b1,b2,b3,b4,b5⟩:=hbm;⟨bm,ob,b1,b2,y b3 (ak b3 (by rw[b4];decide) (by rw[b4];decide)),b4,b5⟩,
   fun q hq=>let ⟨o,vs,file,tf,flags,tg,inF,text,tt,e1,c1,r⟩:=TT.hd q hq;⟨o,vs,file,tf,flags,tg,inF,text,tt,y e1 (ak e1 (by rw[c1];decide) (by rw[c1];decide)),c1,r⟩⟩
  have e0:Env0 P w K mg (d8 s₁.heap H) callerA [] s₁ H:=⟨rfl,hM,fun b o e=>Ct e,Nat.le_of_eq (DW _ _),trivial,⟨fun b hb=>absurd (show b∈([]:List Addr)from hb) yv,ag⟩,hok,.of_eq hg⟩;refine codeAny_mono ((F _ ai (aa hns)).run callerA [] s₁ H ⟨[.ref a],[]⟩ [.ref a] [.ref a] _ _ hr e0 (hbind s₁ (.ref a)) (.cons rfl .nil) (hsp H hO hS)) fun r s' h=>?_;cases r with
  |error e=>exact(hCX H e s' h).elim
  |ok fl=>
   cases fl with
   |next=>exact iq h
   |brk=>exact iq h
   |cont=>exact iq h
   |ret u=>
    obtain⟨v,H',os,bare,un,ab,r',q⟩:=h;have q':v=.bl true:=q;subst q';obtain rfl:u=Value.bool true:=r';have ae:∀b o,s₁.heap.get? b=some o->s'.heap.get? b=some o\/∃q∈tabsG,q.1.2=b/\o=W.tabObj #[]/\∃ps,s'.heap.get? b=some (W.tabObj ps):=fun b o e=>by
     cases q:H b with
     |none=>exact .inl (un.keep b o e q (by intro z;exact absurd (show b∈([]:List Addr)from z) yv) yv)
     |some u=>
      rcases hO b with z|⟨ob,xs,z⟩|⟨r,p,e',z⟩
      ·rw[q]at z;cases z
      ·have z2:=un.frzs b ob _ z;obtain⟨e1,_⟩:=hok b _ z;obtain⟨e2,_⟩:=ab b _ z2;rw[e]at e1;cases e1;exact .inl e2
      ·obtain⟨qs,e2,_⟩:=ab b _ (un.tbls b _ z);have:=TT.empty r p;rw[e',e]at this;cases this;exact .inr ⟨r,p,e',rfl,qs,e2⟩
    refine⟨rfl,⟨fun b o e=>?_,fun b o e=>?_⟩,os,bare⟩
    ·rcases ae b o e with z|⟨r,p,rfl,rfl,ps,z⟩
     ·exact .inl z
     ·exact .inr (.inl ⟨((TT.hd r p).tab (TT.empty r p)).isCodeTable,rfl,#[],ps,rfl,by rw[Array.empty_append];exact z⟩)
    ·rcases ae b o e with z|⟨r,p,rfl,rfl,ps,z⟩
     ·exact⟨o,z⟩
     ·exact⟨_,z⟩
 have ah:∀q∈tabsG,q.1.2≠a:=fun q hq z=>by
  have:=TT.empty q hq;rw[z,ha]at this;cases this
 have aj:∀(H:Hp) (b:Addr) (u:HO),bS b=some u->ObjOk P w H s₁.heap b u:=fun H b u z=>by
  obtain⟨q,hq,rfl,rfl⟩:=iE z;exact⟨#[],TT.empty q hq,.inl rfl⟩
 cases hk:K.lookup a with
 |some o=>
  have e:=KX a o hk;rw[ha]at e;cases e;refine ac bS (fun b=>?_) (.inr ⟨_,vs.toArray,_,hk,rfl,rfl,rfl,by rw[bv,af];exact hl,by simpa using rv⟩) (aj bS) (fun b z=>?_) (fun z=>?_) fun q hq=>x5 TT.nd hq
  ·cases q:bS b with
   |none=>exact .inl rfl
   |some u=>obtain⟨r,p,e',rfl⟩:=iE q;exact .inr (.inr ⟨r,p,e',rfl⟩)
  ·cases q:bS b with
   |none=>exact absurd q z
   |some u=>obtain⟨r,p,e',_⟩:=iE q;exact .inr ⟨r,p,e'⟩
  ·cases q:bS a with
   |none=>exact absurd q z
   |some u=>obtain⟨r,p,e',_⟩:=iE q;exact absurd e' (ah r p)
 |none=>
  refine ac (fun b=>if b=a then some (.frz { cls:=.type "list",data:=.seq vs.toArray } (.lst (ns.map V.int)))else bS b) (fun b=>?_) (.inl (.inr ⟨{ cls:=.type "list",data:=.seq vs.toArray },cb rfl⟩)) (fun b u z=>?_) (fun b z=>?_) (fun _=>hk) fun q hq=>(bu (ah q hq)).trans (x5 TT.nd hq)
  ·by_cases hb:b=a
   ·exact .inr (.inl ⟨_,_,cb hb⟩)
   ·cases q:bS b with
    |none=>exact .inl ((bu hb).trans q)
    |some u=>obtain⟨r,p,e',rfl⟩:=iE q;exact .inr (.inr ⟨r,p,e',(bu hb).trans q⟩)
  ·by_cases hb:b=a
   ·have z':=(cb hb).symm.trans z;cases z';subst hb;exact⟨ha,by rw[bo];exact hl,vs,_,rv,ha⟩
   ·have z':=(bu hb).symm.trans z;exact aj _ b u z'
  ·by_cases hb:b=a
   ·exact .inl hb
   ·cases q:bS b with
    |none=>exact absurd ((bu hb).trans q) z
    |some u=>obtain⟨r,p,e',_⟩:=iE q;exact .inr ⟨r,p,e'⟩
end
section
abbrev KOf {K:bf}{h:Heap} (_:K.In h):bf:=K
theorem walk_of{l:W.OpenLaw}{n k:Nat}{q:ca}{z:List Str}{XP:(Str->Option au)->Heap->Prop}{YP:cy->Heap->Prop}{d:DefRec}{K:Params->bf}{CX:cy->CXT}{sp:cy->Sp}{x:Str}
  (hn:l.most=some n) (hn2:n<=be) (hdf:d.params.defaults=[]) (hr:Room k callerA)
  (hY:∀(w:cy) (h:Heap),YP w h->(K w.params).In h)
  (hT:∀(w:cy) (h:Heap),YP w h->TabsOk (K w.params) h)
  (F:∀(w:cy) (mg:Str->Option au) (fa:Addr) (h:Heap),(K w.params).In h->h.Ns gv mg->mg d.name=some (.ref fa) ->
   ∃fd:jd,(∀(s:ax) (u:au),BindsTo s fd ⟨[u],[]⟩ [(x,u)]) /\
    ∀base:Heap,(K w.params).In base->base.Ns gv mg->FnOk l.prog w (K w.params) mg base (CX w) k fa fd [x] (sp w))
  (hsp:∀(w:cy) (H:Hp) (a:Addr) (ns:List Int),ns.length<=n->Only H->SqL (K w.params) H a (ns.map V.int)->sp w [.ref a] H (fun v _=>v=.bl true) fun _ _ _=>False)
  (hCX:∀(w:cy) (H:Hp) (s:ax) (e:au) (s':ax),CX w [] H s (fun _ _ _=>False) e s'->False):
  W.WalkO q z XP YP l.row.toRowW d [] (fun f vs=>PySem.call f vs):=by
 refine Att.attach_call hn hdf fun w s₀ s₁ mg mb fa o pm cd ac a vs ns G Y ho hd ae ab aa y p hg=>?_;have KX:=hY w _ Y;obtain⟨fd,hb,hF⟩:=F w mg fa _ KX G.T.g ab;exact Er KX (hT w _ Y) (let ⟨bm,ob,a1,a2,a3,a4,a5,a6⟩:=G.T.bmain;⟨bm,ob,a1,a2,a3,a4,a5,a6⟩) G.T.g G.T.b G.T.builtins G.T.nolimit hg aa y (dm p hn2) hr hF hb (fun H hO hS=>hsp w H a ns p hO hS) fun H e s'=>hCX w H s₁ e s'
end
section
def gA(s:Stmt):Arguments:=match s with
 | .FunctionDef _ a _ _ _ _ _ _ _ _=>a
 |_=>{ posonlyargs:=[],args:=[],vararg:=none,kwonlyargs:=[],kw_defaults:=[],kwarg:=none,defaults:=[] }
def bX(s:Stmt):List Stmt:=match s with
 | .FunctionDef _ _ b _ _ _ _ _ _ _=>b
 |_=>[]
def zf(s:Stmt):Scope:=match s with
 | .FunctionDef _ _ _ _ _ _ sc _ _ _=>sc
 |_=>{ kind:=.function,names:=[],isGenerator:=false,isCoroutine:=false }
abbrev CX0:CXT:=fun _ _ _ _ _ _=>False
abbrev E0:XK:=fun _ _ _=>False
theorem pass0{X:Cx}:Passes CX0 X E0:=fun _ _ _ _ _ _ _ h=>h.elim
structure Fun(K:bf)(x qual:Str)(st:Stmt)(f:Addr)(fd:jd):Prop where
 ex:∃(oc:au) (od:Option Addr) (kV doc pm:au) (an:Option Addr) (cdv ct:au) (osl:Array (Option au)),
  fd=W.fnOf x qual (gA st) (bX st) (zf st) .none kV doc pm an cdv ct/\K.lookup f=some ⟨oc,od,.func fd,osl⟩/\W.codeIn K cdv qual=true
 kp:W.keepIn K (.ref f)=true
section
variable {P:ca}{w:cy}{K:bf}{mg:Str->Option au}{base:Heap}
theorem Fun.ok{x p:Str}{st:Stmt}{f:Addr}{fd:jd}{N ps:List Str}{k:Nat}{sp:Sp}(F:Fun K x p st f fd)(S:FnScope N ps (zf st))(len:∀vs H Q E,sp vs H Q E->vs.length=ps.length)
  (hbody:∀(y:au) (A:ef) (outer:List Env) (s:ax) (H:Hp) (vs:List V) (Q:VK) (E:XK),Room k (A.deeper (ku p (zf st) s.heap.objs.size f y))->sp vs H Q E ->
   ∃t,PSs (cT CX0 P w K mg base N p (zf st) f y A outer s H E).nox (bX st) t/\t { nx:=fun _ H'=>Q .non H',rt:=Q } (start N vs) H):FnOk P w K mg base CX0 (k+1) f fd ps sp:=by
 obtain⟨oc,od,kV,ac,pm,an,y,ct,ab,rfl,lk,z⟩:=F.ex;refine Em lk z S len fun A outer s H vs Q E hr aa=>?_;obtain⟨t,h,q⟩:=hbody y A outer s H vs Q E hr aa;exact⟨t,h.nox,q⟩
theorem Fun.binds{x p:Str}{st:Stmt}{f:Addr}{fd:jd}{ps:List Str}(F:Fun K x p st f fd)
  (h:∀(kV q pm:au) (an:Option Addr) (y ct:au) (us:List au),us.length=ps.length->bindArgs (W.fnOf x p (gA st) (bX st) (zf st) .none kV q pm an y ct) ⟨us,[]⟩=pure (ps.zip us)):Binds K fd ps []:=by
 obtain⟨oc,od,kV,q,pm,an,y,ct,aa,rfl,lk,z⟩:=F.ex;exact .all (h kV q pm an y ct)
theorem sT{x p:Str}{st:Stmt}{f:Addr}{oc:au}{od an:Option Addr}{z:Array (Option au)}{kV y pm q ct:au}(l:K.lookup f=some ⟨oc,od,.func (W.fnOf x p (gA st) (bX st) (zf st) .none kV y pm an q ct),z⟩)
  (c:W.codeIn K q p=true) (k:W.keepIn K (.ref f)=true):Fun K x p st f (W.fnOf x p (gA st) (bX st) (zf st) .none kV y pm an q ct):=⟨⟨oc,od,kV,y,pm,an,q,ct,z,rfl,l,c⟩,k⟩
end
theorem qU{A:ef}{k:Nat}(hr:Room k A):A.units+1<jc:=Nat.lt_of_le_of_lt (Nat.add_le_add_left (by decide:1<=64) _) hr.units
theorem small1000{n:Nat}(h:n<=1000):n<be:=Nat.lt_of_le_of_lt h dz
section
variable {X:Cx}
theorem pv(i:Nat){x:Str}{pos:Pos}(hN:X.N[i]?=some x:=by rfl)(hv:Vis X.env.scope x:=by first|exact fk rfl|exact Or.inr (fk rfl)|exact Or.inr (Or.inr rfl))(hd:(x==("__debug__":Str))=false:=by decide)
  (hcd:(x==("__classdict__":Str))=false:=by decide):PE X (.Name x pos) (dG i):=A7 hN hv hd hcd
end
theorem dP{A B:Prop}(h:B):if false=true then A else B:=by
 rw[bu fh];exact h
theorem dR{A B:Prop}(h:A):if true=true then A else B:=by
 rw[cb rfl];exact h
theorem ite2{c A B:Prop}[Decidable c](h1:c->A)(h2:¬ c->B):if c then A else B:=by
 by_cases h:c
 ·rw[cb h];exact h1 h
 ·rw[bu h];exact h2 h
def Same(H H':Hp):Prop:=∀b o,H b=some o->H' b=some o
theorem Same.refl(H:Hp):Same H H:=fun _ _ h=>h
theorem Same.trans{H H1 H2:Hp}(a:Same H H1)(b:Same H1 H2):Same H H2:=fun c o h=>b c o (a c o h)
theorem Same.seq{K:bf}{H H':Hp}{a:Addr}{xs:List V}(e:Same H H')(h:SqL K H a xs):SqL K H' a xs:=by
 rcases h with (h|⟨o,h⟩)|h
 ·exact .inl (.inl (e _ _ h))
 ·exact .inl (.inr ⟨o,e _ _ h⟩)
 ·exact .inr h
end
section
section
variable {X:Cx}
def CDivX(i j:Int):Prop:=0<j/\j.natAbs.log2<9000
theorem Eu:OpR X (gf .FloorDiv) (rI CDivX fun i j=>.int (i/j)):=opI fun i j _ _ _ _ _ hc q=>by
 have h1:(0:Int)<j:=hc.1;exact floordiv_int yw (by rw[Int.fdiv_eq_ediv_of_nonneg i yw];exact q) (.inl (PyProof.noPylong_of_log2 hc.2))
theorem Co:OpR X (gf .Mult) (rI IntMulOk fun i j=>.int (i*j)):=opI fun _ _ _ _ _ _ _ hc q=>mul_int q hc
theorem AQ{k:Int}{n:Nat}(h:k.natAbs<2 ^ n):Builtin.Int.intBits k<=n:=by
 unfold Builtin.Int.intBits;split
 ·exact kh _
 ·rename_i h0;have hk:k.natAbs≠0:=by
   intro z;apply h0;rw[Int.natAbs_eq_zero.mp z];rfl
  have:=(Nat.log2_lt hk).mpr h;omega
theorem FF{i j:Int}(n m:Nat)(hi:i.natAbs<2 ^ n)(hj:j.natAbs<2 ^ m)(hn:n<=2 ^ 20:=by decide)(hm:m<=2 ^ 20:=by decide):IntMulOk i j:=
 .of_bits (dm (AQ hi) hn) (dm (AQ hj) hm)
theorem dE{i j:Int}(h1:-(2 ^ 64)<i)(h2:i<2 ^ 64):IntMulOk i j:=.of_left (intBits_le_64 h1 h2)
theorem Fp{i j:Int}(h1:-(2 ^ 64)<j)(h2:j<2 ^ 64):IntMulOk i j:=.of_right (intBits_le_64 h1 h2)
theorem pQ{n:Int}{k:Nat}(h0:0<n)(h:n<2 ^ k):n.natAbs.log2<k:=by
 refine(Nat.log2_lt yw).mpr ?_;have e:((2 ^ k:Nat):Int)=(2:Int) ^ k:=by simp
 omega
end
def kD:Key->av
 | .inl i=>.int i
 | .inr x=>.str x
def DOf(H:Hp)(a:Addr)(ks:List av)(vs:List V):Prop:=
 (∃(ob:Obj) (m:List (Key×V)),H a=some (.frz ob (.dK m))/\ks=m.map (fun p=>kD p.1)/\vs=m.map (·.2)) \/
 ∃(ob:Obj) (p:List Key×V) (m:List (List Key×V)),H a=some (.frz ob (.dT (p::m)))/\ks=(p::m).map (fun p=>.tuple (p.1.map kD))/\vs=(p::m).map (·.2)
mutual
def Has(H:Hp):av->V->Prop
 | .none,v=>v=.non
 | .bool b,v=>v=.bl b
 | .int i,v=>v=.int i
 | .str x,v=>v=.str x
 | .list ds,v=>∃a vs,v=.ref a/\H a=some (.lst vs)/\HasL H ds vs
 | .tuple ds,v=>∃a vs,v=.ref a/\H a=some (.tup vs)/\HasL H ds vs
 | .dict kvs,v=>∃a vs,v=.ref a/\DOf H a (kvs.map (·.1)) vs/\HasV H kvs vs
def HasL(H:Hp):List av->List V->Prop
 | [],vs=>vs=[]
 |d::ds,vs=>∃v r,vs=v::r/\Has H d v/\HasL H ds r
def HasV(H:Hp):List (av×av)->List V->Prop
 | [],vs=>vs=[]
 |p::ps,vs=>∃v r,vs=v::r/\HasP H p v/\HasV H ps r
def HasP(H:Hp):av×av->V->Prop
 | (_,d),v=>Has H d v
end
mutual
theorem Has.mono{H H':Hp}(s:Same H H'):∀(d:av) (v:V),Has H d v->Has H' d v
 | .none,_,h=>by simp only[Has]at h ⊢;exact h
 | .bool _,_,h=>by simp only[Has]at h ⊢;exact h
 | .int _,_,h=>by simp only[Has]at h ⊢;exact h
 | .str _,_,h=>by simp only[Has]at h ⊢;exact h
 | .list ds,v,h=>by
  simp only[Has]at h ⊢;obtain⟨a,vs,e,q,l⟩:=h;exact⟨a,vs,e,s _ _ q,HasL.mono s ds vs l⟩
 | .tuple ds,v,h=>by
  simp only[Has]at h ⊢;obtain⟨a,vs,e,q,l⟩:=h;exact⟨a,vs,e,s _ _ q,HasL.mono s ds vs l⟩
 | .dict kvs,v,h=>by
  simp only[Has]at h ⊢;obtain⟨a,vs,e,q,l⟩:=h;refine⟨a,vs,e,?_,HasV.mono s kvs vs l⟩;rcases q with ⟨ob,m,e1,e2⟩|⟨ob,p,m,e1,e2⟩
  ·exact .inl ⟨ob,m,s _ _ e1,e2⟩
  ·exact .inr ⟨ob,p,m,s _ _ e1,e2⟩
theorem HasL.mono{H H':Hp}(s:Same H H'):∀(ds:List av) (vs:List V),HasL H ds vs->HasL H' ds vs
 | [],_,h=>by simp only[HasL]at h ⊢;exact h
 |d::ds,vs,h=>by
  simp only[HasL]at h ⊢;obtain⟨v,r,e,q,l⟩:=h;exact⟨v,r,e,Has.mono s d v q,HasL.mono s ds r l⟩
theorem HasV.mono{H H':Hp}(s:Same H H'):∀(ds:List (av×av)) (vs:List V),HasV H ds vs->HasV H' ds vs
 | [],_,h=>by simp only[HasV]at h ⊢;exact h
 |d::ds,vs,h=>by
  simp only[HasV]at h ⊢;obtain⟨v,r,e,q,l⟩:=h;exact⟨v,r,e,HasP.mono s d v q,HasV.mono s ds r l⟩
theorem HasP.mono{H H':Hp}(s:Same H H'):∀(p:av×av) (v:V),HasP H p v->HasP H' p v
 | (_,d),v,h=>by
  simp only[HasP]at h ⊢;exact Has.mono s d v h
end
section
variable {H:Hp}{v:V}
theorem fX:Has H .none v↔v=.non:=by simp only[Has]
theorem eV{b:Bool}:Has H (.bool b) v↔v=.bl b:=by simp only[Has]
theorem bV{i:Int}:Has H (.int i) v↔v=.int i:=by simp only[Has]
theorem eJ{x:Str}:Has H (.str x) v↔v=.str x:=by simp only[Has]
theorem zU{ds:List av}:Has H (.list ds) v↔∃a vs,v=.ref a/\H a=some (.lst vs)/\HasL H ds vs:=by simp only[Has]
theorem zJ{ds:List av}:Has H (.tuple ds) v↔∃a vs,v=.ref a/\H a=some (.tup vs)/\HasL H ds vs:=by simp only[Has]
theorem qK{kvs:List (av×av)}:Has H (.dict kvs) v↔∃a vs,v=.ref a/\DOf H a (kvs.map (·.1)) vs/\HasV H kvs vs:=by simp only[Has]
theorem FL{vs:List V}:HasV H [] vs↔vs=[]:=by simp only[HasV]
theorem AG{p:av×av}{ds:List (av×av)}{vs:List V}:HasV H (p::ds) vs↔∃v r,vs=v::r/\Has H p.2 v/\HasV H ds r:=by
 obtain⟨k,d⟩:=p;simp only[HasV,HasP]
theorem zo{vs:List V}:HasL H [] vs↔vs=[]:=by simp only[HasL]
theorem zn{d:av}{ds:List av}{vs:List V}:HasL H (d::ds) vs↔∃v r,vs=v::r/\Has H d v/\HasL H ds r:=by simp only[HasL]
theorem HasL.length:∀{ds:List av}{vs:List V},HasL H ds vs->vs.length=ds.length
 | [],_,h=>by rw[zo.mp h];rfl
 |d::ds,vs,h=>by
  obtain⟨v,r,e,_,l⟩:=zn.mp h;rw[e,br,br,HasL.length l]
theorem HasL.get:∀{ds:List av}{vs:List V}{i:Nat}{d:av},HasL H ds vs->ds[i]?=some d->∃v,vs[i]?=some v/\Has H d v
 | [],_,_,_,_,e=>by simp at e
 |c::ds,vs,0,d,h,e=>by
  obtain⟨v,r,rfl,q,_⟩:=zn.mp h;simp at e;subst e;exact⟨v,rfl,q⟩
 |c::ds,vs,i+1,d,h,e=>by
  obtain⟨v,r,rfl,_,l⟩:=zn.mp h;obtain⟨u,e1,e2⟩:=HasL.get (i:=i) (d:=d) l (by simpa using e);exact⟨u,by simpa using e1,e2⟩
theorem HasL.append:∀{ds es:List av}{vs us:List V},HasL H ds vs->HasL H es us->HasL H (ds++es) (vs++us)
 | [],es,vs,us,h,h'=>by rw[zo.mp h];exact h'
 |d::ds,es,vs,us,h,h'=>by
  obtain⟨v,r,rfl,q,l⟩:=zn.mp h;exact zn.mpr ⟨v,r++us,rfl,q,HasL.append l h'⟩
end
def tyD:av->String
 | .none=>"NoneType" | .bool _=>"bool" | .int _=>"int" | .str _=>"str" | .list _=>"list" | .tuple _=>"tuple" | .dict _=>"dict"
theorem Has.ty{K:bf}{H:Hp}{d:av}{v:V}(h:Has H d v):TyOf K H v (.type (tyD d)):=by
 cases d with
 |none=>rw[fX.mp h];exact .non
 |bool b=>rw[eV.mp h];exact .bl b
 |int i=>rw[bV.mp h];exact .int i
 |str x=>rw[eJ.mp h];exact .str x
 |list ds=>obtain⟨a,vs,rfl,e,_⟩:=zU.mp h;exact .lst e
 |tuple ds=>obtain⟨a,vs,rfl,e,_⟩:=zJ.mp h;exact .tup e
 |dict kvs=>
  obtain⟨a,vs,rfl,e,_⟩:=qK.mp h;rcases e with ⟨ob,m,e,_⟩|⟨ob,p,m,e,_⟩
  ·exact .dK (.inr ⟨ob,e⟩)
  ·exact .dT (.inr ⟨ob,e⟩)
def mG:List String:=["NoneType","bool","int","str","list","tuple","dict"]
def eA:List String:=["int","bool","str","list","tuple","dict"]
def dH(t c:String):Bool:=t==c||(t == "bool" && c == "int")
def fS(d:av)(c:String):Bool:=dH (tyD d) c
theorem E9(d:av):tyD d∈mG:=by cases d<;>simp[tyD,mG]
theorem Dl(K:bf){t c:String}(ht:t∈mG)(hc:c∈eA):W.kitOne K (.type t) (.type c)=some (dH t c):=by
 simp only[mG,eA,jr,jt,or_false]at ht hc;rcases ht with rfl|rfl|rfl|rfl|rfl|rfl|rfl<;>rcases hc with rfl|rfl|rfl|rfl|rfl|rfl<;>rfl
def pF:List V->Hp->VK->Prop
 | [x,.ty c],H,Q=>∃d,Has H d x/\c∈eA/\Q (.bl (fS d c)) H
 |_,_,_=>False
theorem D7{H:Hp}{d:av}{x:V}{c:String}{Q:VK}(h:Has H d x)(hc:c∈eA)(q:Q (.bl (fS d c)) H):pF [x,.ty c] H Q:=⟨d,h,hc,q⟩
section
variable {X:Cx}
theorem nY:CallR X (.builtin "isinstance") pF:=by
 intro zc s σ H xs us Q I r h
 match xs,h with
 | [x,.ty c],h=>
  obtain⟨d,hx,hc,q⟩:=h;obtain⟨u,w',rfl,ru,p⟩:=vals2 r;cases (show w'=Value.type c from p);exact F1 I ru hx.ty (Dl X.K (E9 d) hc) fun tk=>⟨.bl _,H,I.tok tk,rfl,q⟩
end
def sp1(p:V->Hp->VK->Prop):Sp:=fun vs H Q _=>match vs with | [x]=>p x H Q|_=>False
def sp2(p:V->V->Hp->VK->Prop):Sp:=fun vs H Q _=>match vs with | [x,y]=>p x y H Q|_=>False
theorem yY{p:V->Hp->VK->Prop}:∀(vs:List V) (H:Hp) (Q:VK) (E:XK),sp1 p vs H Q E->∃x,vs=[x]/\p x H Q:=by
 intro vs H Q E h
 match vs,h with
 | [x],h=>exact⟨x,rfl,h⟩
theorem t0{p:V->V->Hp->VK->Prop}:∀(vs:List V) (H:Hp) (Q:VK) (E:XK),sp2 p vs H Q E->∃x y,vs=[x,y]/\p x y H Q:=by
 intro vs H Q E h
 match vs,h with
 | [x,y],h=>exact⟨x,y,rfl,h⟩
structure Dd(K:bf)(mg:Str->Option au)(x:Str)(st:Stmt)(ps:List Str):Prop where
 ex:∃f fd,Fun K x x st f fd/\mg x=some (.ref f)/\Binds K fd ps []
structure Df(P:ca)(w:cy)(K:bf)(mg:Str->Option au)(base:Heap)(x:Str)(ps:List Str)(k:Nat)(sp:Sp):Prop where
 ex:∃f fd,FnOk P w K mg base CX0 k f fd ps sp/\mg x=some (.ref f)/\W.keepIn K (.ref f)=true/\Binds K fd ps []
section
variable {P:ca}{w:cy}{K:bf}{mg:Str->Option au}{base:Heap}{x a b c d e:Str}{st:Stmt}{N:List Str}{k:Nat}
theorem Df.of{ps:List Str}{sp:Sp}(D:Dd K mg x st ps)(S:FnScope N ps (zf st))(len:∀vs H Q E,sp vs H Q E->vs.length=ps.length)
  (hbody:∀(f:Addr) (cdv:au) (A:ef) (outer:List Env) (s:ax) (H:Hp) (vs:List V) (Q:VK) (E:XK),Room k (A.deeper (ku x (zf st) s.heap.objs.size f cdv))->sp vs H Q E ->
   ∃t,PSs (cT CX0 P w K mg base N x (zf st) f cdv A outer s H E).nox (bX st) t/\t { nx:=fun _ H'=>Q .non H',rt:=Q } (start N vs) H):Df P w K mg base x ps (k+1) sp:=by
 obtain⟨f,fd,F,hm,hb⟩:=D.ex;exact⟨f,fd,F.ok S len (hbody f),hm,F.kp,hb⟩
theorem Df.of2{p:V->V->Hp->VK->Prop}(D:Dd K mg x st [a,b])(S:FnScope N [a,b] (zf st))(σ0:V->V->St)(hs:∀v u,start N [v,u]=σ0 v u)
  (hbody:∀(f:Addr) (q:au) (A:ef) (outer:List Env) (s:ax) (H:Hp) (v u:V) (Q:VK) (E:XK),Room k (A.deeper (ku x (zf st) s.heap.objs.size f q))->p v u H Q ->
   ∃t,PSs (cT CX0 P w K mg base N x (zf st) f q A outer s H E).nox (bX st) t/\t { nx:=fun _ H'=>Q .non H',rt:=Q } (σ0 v u) H):Df P w K mg base x [a,b] (k+1) (sp2 p):=by
 refine Df.of D S (fun vs H Q E h=>?_) fun f q A outer s H vs Q E hr h=>?_
 ·obtain⟨x,y,rfl,_⟩:=t0 vs H Q E h;rfl
 ·obtain⟨x,y,rfl,h⟩:=t0 vs H Q E h;rw[hs];exact hbody f q A outer s H x y Q E hr h
end
def tC2(p:V->V->Hp->VK->Prop)(ta tb:TE):TE:=fun σ H Q=>ta σ H fun x H1=>tb σ H1 fun y H2=>p x y H2 Q
section
variable {X:Cx}{x a b c d e':Str}{k j:Nat}{pos pos':Pos}{e1 e2 e3 e4 e5:Expr}{t1 t2 t3 t4 t5:TE}
theorem By{p:V->V->Hp->VK->Prop}(D:Df X.prog X.w X.K X.mg X.base x [a,b] k (sp2 p))(hr:Room j X.A)(hk:k<=j)(h1:PE X e1 t1)(h2:PE X e2 t2)(hg:Gl X x:=by rfl)(q:(x==("__debug__":Str))=false:=by decide)
  (q1:cq [e1,e2] X.env=(false,eval e1 X.env)::cq [e2] X.env:=by rfl) (q2:cq [e2] X.env=(false,eval e2 X.env)::cq [] X.env:=by rfl)
  (hpl:(kr pos (cq [e2] X.env)).any (·.1)=false:=by rfl):PE X (.Call (.Name x pos') [e1,e2] [] pos) (tC2 p t1 t2):=by
 obtain⟨f,fd,F,hm,kp,hb⟩:=D.ex;intro zc s σ H Q I h;exact oV (dvs:=[]) (ds:=[]) (E:=E0) F (hr.mono hk) hg hm kp hb .nil pass0 (za h1 (za h2 ze q2) q1) q q1 hpl zc s σ H Q I h
end
theorem Dd.mk'{K:bf}{h:Heap}{mg:Str->Option au}(X:K.In h)(G:h.Ns gv mg){x:Str}{st:Stmt}{ps:List Str}{f:Addr}{oc:au}{od an:Option Addr}{y:Array (Option au)}{kV q pm p ct:au}
  (a:W.nsIn K gv x=some (some (.ref f))) (l:K.lookup f=some ⟨oc,od,.func (W.fnOf x x (gA st) (bX st) (zf st) .none kV q pm an p ct),y⟩)
  (c:W.codeIn K p x=true) (k:W.keepIn K (.ref f)=true)
  (hb:∀(kV q pm:au) (an:Option Addr) (p ct:au) (us:List au),us.length=ps.length->bindArgs (W.fnOf x x (gA st) (bX st) (zf st) .none kV q pm an p ct) ⟨us,[]⟩=pure (ps.zip us)):Dd K mg x st ps:=
 ⟨f,_,sT (st:=st) l c k,W.mg_of X G a,(sT (st:=st) l c k).binds hb⟩
theorem cA:dh "len" = some (.builtin "len"):=by decide +kernel
theorem mC:dh "isinstance" = some (.builtin "isinstance"):=by decide +kernel
theorem AE:dh "max" = some (.builtin "max"):=by decide +kernel
theorem A8:dh "min" = some (.builtin "min"):=by decide +kernel
theorem AC:dh "abs" = some (.builtin "abs"):=by decide +kernel
theorem x8:dh "int" = some (.type "int"):=by decide +kernel
theorem DU:dh "bool" = some (.type "bool"):=by decide +kernel
theorem Ds:dh "list" = some (.type "list"):=by decide +kernel
theorem sV:dh "tuple" = some (.type "tuple"):=by decide +kernel
section
variable {H:Hp}{Q:VK}
theorem EA{i:Nat}{σ:St}:dG i σ H Q↔match σ[i]? with|some (some v)=>Q v H|_=>False:=by
 unfold dG;constructor
 ·rintro⟨v,e,q⟩;rw[e];exact q
 ·intro h;split at h
  ·rename_i v e;exact⟨v,e,h⟩
  ·exact h.elim
theorem yB{g:Int->Int->V}{i j:Int}:rI0 g (.int i) (.int j) H Q↔Q (g i j) H:=
 ⟨fun⟨_,_,e1,e2,q⟩=>by cases e1;cases e2;exact q,fun q=>⟨i,j,rfl,rfl,q⟩⟩
theorem FD{p:Bool->Prop}{b:Bool}:(∃c,V.bl b=V.bl c/\p c)↔p b:=⟨fun⟨_,e,q⟩=>by cases e;exact q,fun q=>⟨b,rfl,q⟩⟩
end
section
variable {K:bf}{H:Hp}{Q:VK}{x y:V}{d:av}{ds:List av}
def rX(K:bf):List V->Hp->VK->Prop:=fun xs H Q=>∃p ys,xs=[.ref p]/\(SqL K H p ys\/SqT K H p ys)/\Q (.int ys.length) H
end
section
variable {X:Cx}
theorem Ek:CallR X (.builtin "len") (rX X.K):=yA
end
def hid(a:Addr)(H:Hp):Hp:=fun b=>if b=a then none else H b
theorem BO{a b:Addr}{H:Hp}(h:b≠a):hid a H b=H b:=bu h
theorem B3{a:Addr}{H:Hp}:hid a H a=none:=cb rfl
theorem Same.laid{H:Hp}{p:Addr}{o:HO}(h:H p=none):Same H (upd H p o):=fun b u e=>by
 rw[zp (zx e h)];exact e
section
variable {X:Cx}{zc:List (Addr×Obj)}{σ:St}{H:Hp}{s:ax}{a:Addr}{m:List (Key×V)}
theorem Inv.fz(I:Inv X zc σ H s)(e:H a=some (.dK m)):∃ob,Inv X zc σ (upd H a (.frz ob (.dK m))) s:=by
 have q:=(show ObjOk X.prog X.w H s.heap a (.dK m)from I.hok a _ e);obtain⟨_,_,vs,_,ob,es,ep,h1,_⟩:=id q;exact⟨ob,I.write (x:=a) (e:=a) (o:=.frz ob (.dK m)) (h':=s.heap) (t':=s.toks) (by rw[e];exact ir) (.inl rfl) (fun b v _ z=>z) ⟨ob,h1⟩ ⟨h1,q⟩⟩
def rT(i:Nat)(t:TS):TS:=fun D σ H=>t { D with nx:=fun σ' H'=>∃a m,σ'[i]?=some (some (.ref a))/\H' a=some (.dK m)/\∀ob,D.nx σ' (upd H' a (.frz ob (.dK m))) } σ H
theorem AY{i:Nat}{st:Stmt}{t:TS}(h:PS X st t):PS X st (rT i t):=fun zc s σ H D I hw=>
 thn (h zc s σ H _ I hw) fun f s1 q=>by
  cases f with
  |next=>
   obtain⟨σ1,H1,I1,a,m,e1,e2,q⟩:=q;obtain⟨ob,J⟩:=I1.fz e2;exact⟨σ1,_,J,q ob⟩
  |brk=>exact q
  |cont=>exact q
  |ret v=>exact q
end
end
section
theorem kI(d:av):fS d "int" = match d with | .int _=>true | .bool _=>true|_=>false:=by cases d<;>first|rfl|(show dH _ _=_;simp[dH,tyD])
theorem iS(d:av):fS d "bool" = match d with | .bool _=>true|_=>false:=by cases d<;>first|rfl|(show dH _ _=_;simp[dH,tyD])
theorem lJ(d:av):fS d "tuple" = match d with | .tuple _=>true|_=>false:=by cases d<;>first|rfl|(show dH _ _=_;simp[dH,tyD])
theorem kS(d:av):fS d "list" = match d with | .list _=>true|_=>false:=by cases d<;>first|rfl|(show dH _ _=_;simp[dH,tyD])
def vw:List Addr->Hp->Hp
 | [],H=>H
 |a::r,H=>hid a (vw r H)
def pV(K:bf):V->V->Hp->VK->Prop:=fun x y H Q=>∃(a:Addr) (ns:List Int) (i:Int),x=.ref a/\y=.int i/\SqL K H a (ns.map V.int)/\0<=i/\∀n,Q (.int n) H
theorem Bj{ns:List Int}{i:Int}(h0:0<=i)(h1:i<((ns.map V.int).length:Int)):∃n,atI (ns.map V.int) i=some (.int n):=by
 obtain⟨k,rfl⟩:=Int.eq_ofNat_of_zero_le h0;have hk:k<ns.length:=by rw[bo]at h1;omega
 exact⟨ns[k],gO (by rw[eg,bg hk];rfl)⟩
theorem F5{ns:List Int}{lo hi:Option Int}{x:V}(h:x∈b9 (ns.map V.int) lo hi):∃n,x=.int n:=by
 have h1:=List.mem_of_mem_drop (List.mem_of_mem_take h);obtain⟨n,_,e⟩:=mem_map.mp h1;exact⟨n,e.symm⟩
theorem Fun.bind1{K:bf}{x a:Str}{st:Stmt}{f:Addr}{fd:jd}(F:Fun K x x st f fd)
  (h:∀(kV p pm:au) (an:Option Addr) (q ct:au) (u:au),bindArgs (W.fnOf x x (gA st) (bX st) (zf st) .none kV p pm an q ct) ⟨[u],[]⟩=pure [(a,u)]):∀(s:ax) (u:au),BindsTo s fd ⟨[u],[]⟩ [(a,u)]:=by
 obtain⟨oc,od,kV,p,pm,an,q,ct,z,rfl,lk,y⟩:=F.ex;exact fun s u=>.of_eq (h kV p pm an q ct u)
def p0(K:bf):V->Hp->VK->Prop:=fun x H Q=>∃(a:Addr) (ns:List Int),x=.ref a/\SqL K H a (ns.map V.int)/\ns.length<=63/\∀H',Q (.bl true) H'
theorem walk_law{l:W.OpenLaw}{k:Nat}{q:ca}{p:List Str}{XP:(Str->Option au)->Heap->Prop}{YP:cy->Heap->Prop}{d:DefRec}{K:Params->bf}(hn:l.most=some 63)(y:d.params.defaults=[])
  (hr:Room k callerA) (hY:∀(w:cy) (h:Heap),YP w h->(K w.params).In h) (hT:∀(w:cy) (h:Heap),YP w h->TabsOk (K w.params) h)
  (F:∀(w:cy) (mg:Str->Option au) (fa:Addr) (h:Heap),(K w.params).In h->h.Ns gv mg->mg d.name=some (.ref fa) ->
   ∃fd:jd,(∀(s:ax) (u:au),BindsTo s fd ⟨[u],[]⟩ [("script",u)])/\∀base:Heap,(K w.params).In base->base.Ns gv mg->FnOk l.prog w (K w.params) mg base CX0 k fa fd ["script"] (sp1 (p0 (K w.params)))):
  W.WalkO q p XP YP l.row.toRowW d [] (fun f vs=>PySem.call f vs):=
 L2.walk_of (n:=63) (k:=k) (x:="script") (CX:=fun _=>CX0) (sp:=fun w=>sp1 (p0 (K w.params))) hn dz y hr hY hT F (fun _ _ a ns hl _ hS=>⟨a,ns,rfl,hS,hl,fun _=>rfl⟩) fun _ _ _ _ _ z=>z
theorem Fun.ok1{P:ca}{w:cy}{K:bf}{mg:Str->Option au}{base:Heap}{x a:Str}{st:Stmt}{f:Addr}{fd:jd}{N:List Str}{k:Nat}{p:V->Hp->VK->Prop}(F:Fun K x x st f fd)(S:FnScope N [a] (zf st))(σ0:V->St)(hs:∀v,start N [v]=σ0 v)
  (hbody:∀(q:au) (A:ef) (outer:List Env) (s:ax) (H:Hp) (v:V) (Q:VK) (E:XK),Room k (A.deeper (ku x (zf st) s.heap.objs.size f q))->p v H Q ->
   ∃t,PSs (cT CX0 P w K mg base N x (zf st) f q A outer s H E).nox (bX st) t/\t { nx:=fun _ H'=>Q .non H',rt:=Q } (σ0 v) H):FnOk P w K mg base CX0 (k+1) f fd [a] (sp1 p):=by
 refine F.ok S (fun vs H Q E h=>?_) fun q A outer s H vs Q E hr h=>?_
 ·obtain⟨x,rfl,_⟩:=yY vs H Q E h;rfl
 ·obtain⟨x,rfl,h⟩:=yY vs H Q E h;rw[hs];exact hbody q A outer s H x Q E hr h
end
section
mutual
theorem Has.reads{X:Cx}{zc:List (Addr×Obj)}{σ:St}{H:Hp}{s:ax}(I:Inv X zc σ H s):∀(d:av) (v:V) (u:au),Has H d v->d.canLay0=true->RelV v u->∃as,Reads s.heap u d as
 | .none,v,u,h,_,r=>by
  rw[fX.mp h]at r;cases (show u=jq from r);exact⟨_,.none⟩
 | .bool b,v,u,h,_,r=>by
  rw[eV.mp h]at r;cases (show u=Value.bool b from r);exact⟨_,.bool b⟩
 | .int i,v,u,h,_,r=>by
  rw[bV.mp h]at r;obtain⟨t,q⟩:=(show ∃t,u=jv i t from r);cases q;exact⟨_,.int i t⟩
 | .str x,v,u,h,_,r=>by
  rw[eJ.mp h]at r;obtain⟨t,q⟩:=(show ∃t,u=Value.str x t from r);cases q;exact⟨_,.str x t⟩
 | .list ds,v,u,h,c,r=>by
  obtain⟨a,vs,rfl,e,l⟩:=zU.mp h;cases (show u=cw a from r);obtain⟨_,p,n,rv,e1⟩:=(show ObjOk X.prog X.w H s.heap a (.lst vs)from I.hok a _ e);obtain⟨as,q⟩:=HasL.reads I ds vs p l (by simpa only[gz]using c) rv;exact⟨_,.list e1 rfl rfl (by simpa using q)⟩
 | .tuple ds,v,u,h,c,r=>by
  obtain⟨a,vs,rfl,e,l⟩:=zJ.mp h;cases (show u=cw a from r);obtain⟨_,p,rv,o,e1,e2,n,e3⟩:=(show ObjOk X.prog X.w H s.heap a (.tup vs)from I.hok a _ e);obtain⟨as,q⟩:=HasL.reads I ds vs p l (by simpa only[gz]using c) rv;exact⟨_,.tuple e1 e2 e3 (by simpa using q)⟩
 | .dict _,_,_,_,c,_=>by simp[gz]at c
theorem HasL.reads{X:Cx}{zc:List (Addr×Obj)}{σ:St}{H:Hp}{s:ax}(I:Inv X zc σ H s):∀(ds:List av) (vs:List V) (us:List au),HasL H ds vs->gp ds=true->Vals vs us->∃as,ReadsAll s.heap us ds as
 | [],vs,us,h,_,r=>by
  rw[zo.mp h]at r;cases r;exact⟨_,.nil⟩
 |d::ds,vs,us,h,c,r=>by
  obtain⟨v,w',rfl,h1,h2⟩:=zn.mp h;have c':d.canLay0=true/\gp ds=true:=by simpa[gp]using c
  cases r with
  |cons r1 r2=>
   obtain⟨as,q1⟩:=Has.reads I d v _ h1 c'.1 r1;obtain⟨bs,q2⟩:=HasL.reads I ds w' _ h2 c'.2 r2;exact⟨_,.cons q1 q2⟩
end
def uS:R2:=fun x y H Q=>∃d e,Has H d x/\Has H e y/\cg d=true/\cg e=true/\Q (.bl (iw d e)) H
def vW:R2:=fun x y H Q=>∃d e,Has H d x/\Has H e y/\cg d=true/\cg e=true/\Q (.bl (!PyData.eqv d e)) H
section
variable {X:Cx}
theorem fY(hu:X.A.units+64<jc):OpR X (fj .Eq) uS:=by
 intro zc s σ H x y v u Q I rx ry h;obtain⟨d,e,hd,he,sd,se,q⟩:=h;obtain⟨as,q1⟩:=Has.reads I d x v hd (dn sd) rx;obtain⟨bs,q2⟩:=Has.reads I e y u he (dn se) ry;exact eq_dataH q1 q2 sd se hu ⟨.bl _,H,I,rfl,q⟩
theorem uO(hu:X.A.units+64<jc):OpR X (fj .NotEq) vW:=by
 intro zc s σ H x y v u Q I rx ry h;obtain⟨d,e,hd,he,sd,se,q⟩:=h;obtain⟨as,q1⟩:=Has.reads I d x v hd (dn sd) rx;obtain⟨bs,q2⟩:=Has.reads I e y u he (dn se) ry;exact ne_dataH q1 q2 sd se hu ⟨.bl _,H,I,rfl,q⟩
end
section
variable {prog:ca}{w:cy}{A:ef}{E:au->ax->Prop}{s:ax}{l:Addr}
theorem Eg{xs:Array (Int×Tok)}{Q:au->ax->Prop}(hh:A.handled=none)(hl:s.heap.IsTuple l (intItems xs))(q:0<xs.size)
  (h:∀v h' tk,(intItems xs)[jp (fun i j=>decide (numAt xs i>numAt xs j)) (xs.size-1)]?=some v->(∀b o,s.heap.get? b=some o->h'.get? b=some o)->Q v { s with heap:=h',toks:=tk }):
  bh (model prog w) A (call (.builtin "max") [.ref l]) Q E s:=by
 have p:l<s.heap.objs.size:=by obtain⟨o,e,_⟩:=hl;exact cr e
 refine call_max_walk (wpAny_pyIter_tuple hl ?_);refine⟨_,[_,l],[_],_,_,_,_,rfl,Walks.tuple (A:=A.in1) hh _ l (ff p) (intItems xs),⟨⟨_,bw _ rfl,rfl,rfl⟩,hl.push _⟩,fun c hc=>?_,by simpa[intItems]using q,CmpOf.ints_gt (numAt xs) (fun _ _=>intItems_at),fun v h' tk hP hk=>?_⟩
 ·show c<(s.heap.push _).objs.size;rw[size_push];rcases mem_cons.mp hc with rfl|hc
  ·exact Nat.lt_succ_self _
  ·rcases mem_cons.mp hc with rfl|hc
   ·exact Nat.lt_succ_of_lt p
   ·cases hc
 ·refine h v h' tk (by simpa[intItems]using hP) fun b o e=>hk b o (fun hm=>?_) (bb _ e);rcases mem_cons.mp hm with e1|hm
  ·exact absurd (e1▸cr e) (jh _)
  ·cases hm
theorem pI{vs:List au}{ns:List Int}(hi:gg vs ns):∃xs:Array (Int×Tok),vs.toArray=intItems xs/\ns=xs.toList.map (·.1):=by
 obtain⟨xs,e⟩:=hi.allInts.items;exact⟨xs,e,by rw[<- hi.numsOf,<- nums_intItems,<- e]⟩
end
def vO(K:bf):List V->Hp->VK->Prop:=fun xs H Q=>∃p ns,xs=[.ref p]/\(SqL K H p (ns.map V.int)\/SqT K H p (ns.map V.int))/\ns≠[]/\∀m,m∈ns->(∀a,a∈ns->a<=m)->Q (.int m) H
section
variable {X:Cx}
theorem Af(hc:X.calm=true):CallR X (.builtin "max") (vO X.K):=by
 intro zc s σ H xs us Q I r h;obtain⟨p,ns,rfl,hq,z,q⟩:=h;obtain⟨u,rfl,rx⟩:=vals1 r;cases (show u=cw p from rx);have done:∀(ys:Array (Int×Tok)) (v:au) (h':Heap) (tk:Nat),ns=ys.toList.map (·.1)->0<ys.size->(intItems ys)[jp (fun i j=>decide (numAt ys i>numAt ys j)) (ys.size-1)]?=some v ->
   (∀b o,s.heap.get? b=some o->h'.get? b=some o)->EP X zc σ Q v { s with heap:=h',toks:=tk }:=by
  intro ys v h' tk y hsz hv hk;obtain⟨t,rfl⟩:=intItems_at hv;obtain⟨h1,h2⟩:=argBest_gt (numAt ys) (ys.size-1);refine⟨.int _,H,I.kept (t':=tk) hk,⟨t,rfl⟩,q _ ?_ fun a ha=>?_⟩
  ·rw[y,numAt_eq];exact getD_mem (by rw[bo,jz];omega)
  ·rw[y]at ha;obtain⟨j,hj,rfl⟩:=mem_getD ha;rw[bo,jz]at hj;rw[<- numAt_eq];exact h2 j yw
 rcases hq with hq|hq
 ·obtain⟨aa,rv,pl,_⟩:=I.list hq;obtain⟨ys,e,y⟩:=pI (rB rv);have hsz:0<ys.size:=by
   cases ys with
   |mk l=>cases l with
    |nil=>exact absurd y z
    |cons _ _=>exact Nat.succ_pos _
  exact max_intList (I.ok.hd hc) (by rw[<- e];exact pl.isList) hsz fun v h' tk hv hk=>done ys v h' tk y hsz hv hk
 ·obtain⟨aa,rv,pl,_⟩:=I.tuple hq;obtain⟨ys,e,y⟩:=pI (rB rv);have hsz:0<ys.size:=by
   cases ys with
   |mk l=>cases l with
    |nil=>exact absurd y z
    |cons _ _=>exact Nat.succ_pos _
  exact Eg (I.ok.hd hc) (by rw[<- e];exact pl) hsz fun v h' tk hv hk=>done ys v h' tk y hsz hv hk
end
section
variable {K:bf}{o:List Addr}{σ:St}{H0:Hp}{t t1 t2 t3 t4 t5:TE}{ta:TA}{tt tu:TT}{d d1 d2 d3 d4 d5:av}{ds:List av}{b c:Bool}
def eT:av->Bool
 | .none=>true
 |_=>false
theorem EC{H:Hp}{v:V}(h:Has H d v):decide (v=.non)=eT d:=by
 cases d with
 |none=>rw[fX.mp h];rfl
 |bool _=>rw[eV.mp h];rfl
 |int _=>rw[bV.mp h];rfl
 |str _=>rw[eJ.mp h];rfl
 |list _=>obtain⟨a,vs,rfl,_⟩:=zU.mp h;rfl
 |tuple _=>obtain⟨a,vs,rfl,_⟩:=zJ.mp h;rfl
 |dict _=>obtain⟨a,vs,rfl,_⟩:=qK.mp h;rfl
def sO:R2:=fun x y H Q=>y=.non/\Q (.bl (!decide (x=.non))) H
theorem EZ{X:Cx}:OpR X (fj .IsNot) sO:=FO
end
end
section
theorem D6{K:bf}{a:Addr}{ns:List Int}{N:Int}{j:Nat}{tb:TS}{D:Ends}{σ:St}{H:Hp}(P:St->Prop)(h0:σ[0]?=some (some (.ref a)))(hS:SqL K H a (ns.map V.int))(y:ns.length<=63)(hP:P σ)
  (turn:∀(n:Int) (σ:St) (H1 H2:Hp),P σ->Same H H1->Same H1 H2->tb { D with nx:=fun σ' H'=>Same H1 H'/\P σ',ct:=fun σ' H'=>Same H1 H'/\P σ',bk:=D.nx } (σ.set j (some (.int n))) H2)
  (done:∀(σ:St) (H1:Hp),P σ->Same H H1->D.nx σ H1):
  lE (oY K (tOp l7 (hW (bU (tC2 (pV K) (dG 0) (tC (.int 0))) gE)) (tSl (jR K) (dG 0) (iD (tC (.int 1))) (iD (tC (.int N)))))) (fM j) tb D σ H:=by
 refine⟨_,h0,a,ns,0,rfl,rfl,hS,by decide,fun n0=>⟨by show 1<=be;decide,fun p hp=>?_⟩⟩;have s1:Same H (upd H p (.lst [.int n0])):=Same.laid hp;refine⟨_,h0,_,rfl,_,rfl,a,_,rfl,s1.seq hS,fun p2 q=>?_⟩;have s2:=s1.trans (Same.laid (o:=.lst (b9 (ns.map V.int) (some 1) (some N))) q);have np:p≠p2:=zx zH q;have hz:(b9 (ns.map V.int) (some 1) (some N)).length<=63:=dm (qT _ _ _) (by rw[bo];exact y);refine⟨p,p2,_,_,rfl,rfl,by rw[zp np,zH],zH,gu (small1000 (by simp only[br,length_nil];omega)),fun p3 z=>?_⟩;have s3:=s2.trans (Same.laid (o:=.lst ([V.int n0]++b9 (ns.map V.int) (some 1) (some N))) z);refine⟨p3,rfl,⟨_,.of zH⟩,BT (K:=K) (a:=p3) (xs:=[V.int n0]++b9 (ns.map V.int) (some 1) (some N)) (fun i σ' H'=>Same _ H'/\P σ') ⟨Same.refl _,hP⟩ (fun i σ H4 _ ⟨s4,_⟩=>.of (s4 _ _ zH)) ?_ ?_⟩
 ·rintro i x σ' H4 hi ⟨s4,p4⟩;obtain⟨n,rfl⟩:∃n,x=.int n:=by
   rcases mem_append.mp (cf hi)with m|m
   ·exact⟨n0,mem_singleton.mp m⟩
   ·exact F5 m
  exact turn n σ' _ H4 p4 s3 s4
 ·rintro σ' H4 ⟨s4,p4⟩;exact done σ' H4 p4 (s3.trans s4)
end
section
section
variable {prog:ca}{w:cy}{A:ef}{E:au->ax->Prop}{R:Result->ax->Prop}{s:ax}
theorem Fh{elt p iter:Expr}{ifs:List Expr}{scope:Scope}{pos:Pos}{it acc:au}{env:Env}(I:Nat->ax->Prop)
  (turn:∀n s,I n s->bh (model prog w) A (pyNext it) (fun r s₁=>match r with
   |none=>R (.ok .next) s₁
   |some v=>bh (model prog w) A (letOwnedTupleGo p it v) (fun _ s₀=>bh (model prog w) A (assign p env v) (fun _ s₂=>
     bh (model prog w) A (forIn ifs true fun c r=>if r=true then do let ok <- isTrue c env (eval c env);pure (je ok)else pure (je r)) (fun ok s₃=>
      if ok=true then bh (model prog w) A (eval elt env) (fun x s₄=>
       bh (model prog w) A (call (.builtin "list.append") [acc,x]) (fun _ s₅=>∃m,m<n/\I m s₅) (fun _ _=>False) s₄) (fun _ _=>False) s₃
      else ∃m,m<n/\I m s₃) (fun _ _=>False) s₂) (fun _ _=>False) s₀) (fun _ _=>False) s₁) (fun _ _=>False) s)
  (n:Nat) (h:I n s):
  codeAny (model prog w) A (.compLoop (.ListComp elt [⟨p,iter,ifs,0⟩] scope pos) 0 it acc env) R s:=by
 have up:∀{α:Type}{t:Sem α}{Q:α->ax->Prop}{E':au->ax->Prop}{s':ax},bh (model prog w) A t Q (fun _ _=>False) s'->bh (model prog w) A t Q E' s':=fun h=>kj h (fun _ _ q=>q) fun _ _ z=>z.elim;refine codeAny_loop rfl I (fun n s hI=>?_) n h;show bh _ A ((compTurn (.ListComp elt [⟨p,iter,ifs,0⟩] scope pos) 0 it acc env).onRaise (fun x=>do noteFrame x env;theTreesLotGoes x)) _ _ s;refine wpAny_noted ?_;rw[compTurn_list];refine aw (wpAny_standAt (aw (thn (up (turn n s hI)) fun r s₁ h₁=>?_)));cases r with
 |none=>exact bj h₁
 |some v=>
  refine aw (thn (up h₁) fun _ s₀ h₀=>?_);refine aw (thn (up h₀) fun _ s₂ h₂=>aw (thn (up h₂) fun ok s₃ h₃=>?_));cases ok with
  |false=>exact bj ⟨rfl,h₃⟩
  |true=>
   exact aw (aw (thn (up h₃) fun x s₄ h₄=>aw (thn (up h₄) fun _ s₅ h₅=>bj (bj ⟨rfl,h₅⟩))))
end
def aW(X:Cx)(scope:Scope)(cl:List (Str×Addr))(C:Addr)(s₃:ax)(H₃:Hp)(fp:List Addr)(N:List Str):Cx where
 prog:=X.prog
 w:=X.w
 K:=X.K
 mg:=X.mg
 base:=X.base
 A:=X.A
 N:=N
 s₀:=s₃
 H₀:=H₃
 env:=compEnvC scope cl C X.env
 outer:=X.stack
 stack:=X.stack
 ex:=fp
 fn:=fun _=>false
 calm:=X.calm
 pn:=[]
 xe:=fun _ _=>False
def PTs(X:Cx)(ifs:List Expr)(t:TT):Prop:=
 ∀(zc:List (Addr×Obj)) (s:ax) (σ:St) (H:Hp) (Q:Bool->Hp->Prop),Inv X zc σ H s->t σ H Q ->
  bh (model X.prog X.w) X.A (forIn ifs true fun c r=>if r=true then do let ok <- isTrue c X.env (eval c X.env);pure (je ok)else pure (je r)) (TP X zc σ Q) X.xe s
def AN:TT:=fun _ H Q=>Q true H
theorem fQ{X:Cx}:PTs X [] AN:=fun _ _ _ H _ I h=>wpAny_tests_nil ⟨H,I,h⟩
theorem pG{X:Cx}{c:Expr}{t:TT}(h:PT X c t):PTs X [c] t:=fun zc s σ H Q I hw=>wpAny_tests_one (h zc s σ H Q I hw)
def tau(caps:List (Option Nat))(σ:St):St:=caps.map fun o=>o.bind fun i=>(σ[i]?).join
def iT(caps:List (Option Nat))(wi:TI)(g:TG)(tt:TT)(te:TE):TE:=fun σ H Q=>wi σ H fun J H1=>∀D,H1 D=none->∃W:Nat->Nat->St->Hp->Prop,(∃m,W 0 m (tau caps σ) (upd H1 D (.lst []))) /\
 ∀i m τ H2,W i m τ H2->(J.stop i H2/\Q (.ref D) H2)\/(J.go i H2/\∀x H3,J.yld i H2 x H3->g x τ H3 fun τ4 H4=>tt τ4 H4 fun b H5=>
  if b=true then te τ4 H5 fun v H6=>∃xs,H6 D=some (.lst xs)/\xs.length<be/\∃m',m'<m/\W (i+1) m' τ4 (upd H6 D (.lst (xs++[v])))else ∃m',m'<m/\W (i+1) m' τ4 H5)
structure CompOk(X:Cx)(scope:Scope)(cl:List (Str×Addr))(N:List Str)(caps:List (Option Nat)):Prop where
 clos:closureFor scope X.env=pure cl
 sub:∀x c,cl.lookup x=some c->X.env.cells.lookup x=some c
 kind:scope.kind=.function
 cell:∀y∈scope.names,y.2≠.cell
 names:∀y∈scope.names,y.2=.local->scope.names.lookup y.1=some .local
 has:∀x,((relabel scope X.env).names.lookup x=some .cell\/(relabel scope X.env).names.lookup x=some .free)->∃c,cl.lookup x=some c
 cap:∀(j i:Nat) (x:Str),caps[j]?=some (some i)->N[j]?=some x->X.N[i]?=some x/\Vis X.env.scope x/\¬ X.env.kindOf x=some .local/\∃c,cl.lookup x=some c/\((relabel scope X.env).names.lookup x=some .cell\/(relabel scope X.env).names.lookup x=some .free)
 len:caps.length=N.length
section
variable {X:Cx}{scope:Scope}{cl:List (Str×Addr)}{N:List Str}{caps:List (Option Nat)}{tg iter elt:Expr}{ifs:List Expr}{pos:Pos}{wi:TI}{g:TG}{tt:TT}{te:TE}
theorem Br{zc:List (Addr×Obj)}{σ:St}{H:Hp}{s:ax}{fp:List Addr}{h₁:Heap}{t':Nat}(c:CompOk X scope cl N caps)(I:Inv X zc σ H s)(f:∀b∈fp,FpOk X zc H b)(fo:∀b∈fp,∃o,s.heap.get? b=some o)
  (hns:h₁.Ns s.heap.objs.size (fun _=>none)) (hk:∀b o,s.heap.get? b=some o->h₁.get? b=some o):
  Inv (aW X scope cl s.heap.objs.size s H fp N) [] (tau caps σ) H { s with heap:=h₁,toks:=t' }:=by
 have lt:∀b∈fp,b<s.heap.objs.size:=fun b hb=>by obtain⟨o,e⟩:=fo b hb;exact cr e
 have ab:∀x k,cl.lookup x=some k->∃v,s.heap.IsCell k v:=fun x k e=>I.cell x k (c.sub x k e);refine⟨⟨I.ok.mod,c.kind,I.ok.glob,I.ok.blt,bp _,fun x y k h1 h2=>I.ok.inj x y k (c.sub x k h1) (c.sub y k h2),fun x hx=>c.has x hx,fun x k h _=>absurd (show false=true from h) dz,I.ok.hd,I.ok.frames,.inl rfl,
  fun b hb=>⟨ff (lt b hb),fun x k e=>(f b hb).2.2.2.2.1 x k (c.sub x k e)⟩,I.bs,dm I.ok.bsz I.sz,fun b o e hb=>?_,fun b hb z=>?_,I.stack,I.stkFree⟩,
  rfl,I.bare,Un.kept hk,⟨_,hns,fun j x v h1 h2 h3=>?_⟩,fun x k e=>?_,I.hok.fresh (bp _),fun x k e=>I.freeC x k (c.sub x k e),fun p hp=>absurd (show p∈([]:List (Addr×Obj))from hp) yv,I.hok.kept hk,?_⟩
 ·rcases(f b hb).2.2.2.1 with q|q
  ·exact I.ok.noex b o e q
  ·exact absurd (cz (cr e) (dm I.ok.bsz q)) (jh _)
 ·rcases mem_cons.mp (I.stkSub b z)with q|q
  ·exact(f b hb).2.1 q
  ·exact(f b hb).2.2.1 q
 ·have aa:(caps.map fun o=>o.bind fun i=>(σ[i]?).join)[j]?=some (some v):=h2;rw[eg]at aa;cases e:caps[j]? with
  |none=>rw[e]at aa;cases aa
  |some oi=>
   rw[e]at aa;have h2'':(oi.bind fun i=>(σ[i]?).join)=some v:=eo aa;cases oi with
   |none=>cases h2''
   |some i=>
    have h4:(σ[i]?).join=some v:=h2'';have h5:σ[i]?=some (some v):=by
     cases q:σ[i]? with
     |none=>rw[q]at h4;cases h4
     |some w'=>rw[q]at h4;exact congrArg some h4
    obtain⟨k1,k2,k3,cc,k4,k5⟩:=c.cap j i x e h1;obtain⟨m,hn,hl⟩:=I.loc;obtain⟨u,r,l⟩:=hl i x v k1 h5 k2;refine⟨u,r,.inr ⟨k5,cc,k4,?_⟩⟩;rcases l with ⟨q,_⟩|⟨_,c',hc',hcell⟩
    ·exact(k3 q).elim
    ·rw[c.sub x cc k4]at hc';cases hc';exact hcell.keeps hk
 ·obtain⟨v,q⟩:=ab x k e;exact⟨v,q.keeps hk⟩
 ·show (caps.map _).length=N.length;rw[bo];exact c.len
theorem CP{zc:List (Addr×Obj)}{σ τ:St}{H H':Hp}{s s':ax}{h':Heap}{fp:List Addr}(I:Inv X zc σ H s)(f:∀b∈fp,FpOk X zc H b)(J:Inv (aW X scope cl s.heap.objs.size s H fp N) [] τ H' s')(hs:fg s.heap.objs.size s'.heap h'):
  Inv X zc σ H' { s' with heap:=h' }:=by
 have hC:H' s.heap.objs.size=none:=J.free;have keep:∀b o,b≠s.heap.objs.size->s'.heap.get? b=some o->h'.get? b=some o:=fun b o nb e=>hs.extBut b o nb e;have u1:Un (frs X.stack) (s.heap.objs.size::fp) H H' s.heap s'.heap:=Un.mono J.base (fun b hb=>hb) (fun b hb=>bc _ hb);have u2:Un (frs X.stack) (s.heap.objs.size::fp) H' H' s'.heap h':=
  ⟨fun b o e _ _ hx=>keep b o (fun z=>hx (by rw[z];exact bn)) e,fun b o e _ _ hx=>⟨o.slots,keep b o (fun z=>hx (by rw[z];exact bn)) e⟩,fun _ _ _ n _=>n,fun b o e hx=>⟨o,keep b o (fun z=>hx (by rw[z];exact bn)) e⟩,fun _ _ q=>q,fun _ _ _ q=>q,fun _ _ q=>q⟩
 have hok:HOk X.prog X.w H' h':=fun a o e=>(J.hok a o e).stay (fun b u hb q=>keep b u (fun z=>by
  rcases hb with hb|hb
  ·rw[<- hb,z,hC]at e;cases e
  ·rw[z,hC]at hb;cases hb) q) (fun b q=>q) fun b xs q=>q
 refine I.call' (s':={ s' with heap:=h' }) (ch:=s.heap.objs.size::fp) J.os (u1.trans u2) hok J.bare fun b hb=>?_;rcases mem_cons.mp hb with rfl|hb
 ·refine⟨.inr I.sz,ne_of_gt I.lt,fun x k e z=>?_,fun p hp z=>?_⟩
  ·obtain⟨v,q⟩:=I.cell x k e;exact absurd q.lt (by rw[z];exact jh _)
  ·exact absurd (cr (I.pin p hp).1) (by rw[z];exact jh _)
 ·obtain⟨f0,f1,f2,f3,f4,f5⟩:=f b hb;exact⟨f3,f1,f4,f5⟩
theorem yW{zc:List (Addr×Obj)}{σ:St}{H2:Hp}{s2:ax}{it:Addr}{fp:List Addr}{tn:Nat->Heap->Prop}{J:It}{RR:au->Addr->Result->ax->Prop}{E:au->ax->Prop}(hc:X.calm=true)(c:CompOk X scope cl N caps)
  (I2:Inv X zc σ H2 s2) (T:Turn X.prog X.w X.K tg J fp it tn) (st2:tn 0 s2.heap) (f2:∀b∈fp,FpOk X zc H2 b)
  (hg:∀C s H fp,PG (aW X scope cl C s H fp N) tg g) (ht:∀C s H fp,PTs (aW X scope cl C s H fp N) ifs tt) (he:∀C s H fp,PE (aW X scope cl C s H fp N) elt te)
  (Q:VK) (hq:∀D,H2 D=none->∃W:Nat->Nat->St->Hp->Prop,(∃m,W 0 m (tau caps σ) (upd H2 D (.lst []))) /\
   ∀i m τ H2,W i m τ H2->(J.stop i H2/\Q (.ref D) H2)\/(J.go i H2/\∀x H3,J.yld i H2 x H3->g x τ H3 fun τ4 H4=>tt τ4 H4 fun b H5=>
    if b=true then te τ4 H5 fun v H6=>∃xs,H6 D=some (.lst xs)/\xs.length<be/\∃m',m'<m/\W (i+1) m' τ4 (upd H6 D (.lst (xs++[v])))else ∃m',m'<m/\W (i+1) m' τ4 H5))
  (hRR:∀(D C:Addr) (H':Hp) (s':ax) (m:Str->Option au),s'.heap.Ns C m->FpOk X zc H' C->(∀h',fg C s'.heap h'->Inv X zc σ H' { s' with heap:=h' })->Q (.ref D) H'->RR (.ref D) C (.ok .next) s'):
  bh (model X.prog X.w) X.A (newList []) (fun acc s₃=>bh (model X.prog X.w) X.A (newFunctionEnv scope X.env.globals cl [] X.env.qual none .none (some X.env)) (fun ae s₄=>
   codeAny (model X.prog X.w) X.A (.compStart (.ListComp elt [⟨tg,iter,ifs,0⟩] scope pos) 0 (.ref it) acc { ae with scope:=relabel scope X.env }) (RR acc ae.locals) s₄) E s₃) E s2:=by
 have hD:H2 s2.heap.objs.size=none:=I2.hok.fresh (bp _);obtain⟨W,⟨m0,w0⟩,aj⟩:=hq s2.heap.objs.size hD;have I3:Inv X zc σ (upd H2 s2.heap.objs.size (.lst [])) { s2 with heap:=s2.heap.push { cls:=.type "list",data:=.seq ([]:List au).toArray } }:=I2.laid (t':=s2.toks) (fun b u e=>bb _ e) (bp _) ⟨kh _,[],0,.nil,bw _ rfl⟩;have fo:∀b∈fp,∃o,s2.heap.get? b=some o:=fun b hb=>by obtain⟨o,e,_⟩:=T.obj 0 _ st2 b hb;exact⟨o,e⟩
 have f3:∀b∈fp,FpOk X zc (upd H2 s2.heap.objs.size (.lst [])) b:=fun b hb=>by
  obtain⟨o,e⟩:=fo b hb;refine⟨?_,(f2 b hb).2⟩;rw[zp (ff (cr e))];exact(f2 b hb).1
 refine ga (wpAny_newFunctionEnv c.cell (by intro y hy;simp at hy) (fun h₁ ah ai=>?_) c.kind);have hk:∀b o,(s2.heap.push { cls:=.type "list",data:=.seq ([]:List au).toArray }).get? b=some o->h₁.get? b=some o:=fun b o e=>ai.extBut b o (ff (cr e)) (bb _ e);have ag:tn 0 h₁:=T.keep 0 _ _ st2 fun b _ o e=>hk b o (bb _ e);have I4:=Br (t':=s2.toks+([]:List (Str×au)).length) c I3 f3 (fun b hb=>by obtain⟨o,e⟩:=fo b hb;exact⟨o,bb _ e⟩) ah hk;have aa:∀{H':Hp},(∀b∈fp,H' b=none)->∀b∈fp,FpOk (aW X scope cl (s2.heap.push { cls:=.type "list",data:=.seq ([]:List au).toArray }).objs.size { s2 with heap:=s2.heap.push { cls:=.type "list",data:=.seq ([]:List au).toArray } } (upd H2 s2.heap.objs.size (.lst [])) fp N) [] H' b:=fun hn b hb=>
  ⟨hn b hb,(I4.ok.exf b hb).1,I4.ok.exfs b hb,.inl hb,(I4.ok.exf b hb).2,fun p hp=>absurd (show p∈([]:List (Addr×Obj))from hp) yv⟩
 have ac:codeAny (model X.prog X.w) X.A (.compLoop (.ListComp elt [⟨tg,iter,ifs,0⟩] scope pos) 0 (.ref it) (.ref s2.heap.objs.size) (compEnvC scope cl (s2.heap.push { cls:=.type "list",data:=.seq ([]:List au).toArray }).objs.size X.env))
   (RR (.ref s2.heap.objs.size) (s2.heap.push { cls:=.type "list",data:=.seq ([]:List au).toArray }).objs.size) { s2 with heap:=h₁,toks:=s2.toks+([]:List (Str×au)).length }:=by
  refine Fh (fun n s'=>∃i τ H',Inv (aW X scope cl (s2.heap.push { cls:=.type "list",data:=.seq ([]:List au).toArray }).objs.size { s2 with heap:=s2.heap.push { cls:=.type "list",data:=.seq ([]:List au).toArray } } (upd H2 s2.heap.objs.size (.lst [])) fp N) [] τ H' s'/\tn i s'.heap/\(∀b∈fp,H' b=none)/\W i n τ H') ?_ m0 ⟨0,_,_,I4,ag,fun b hb=>(f3 b hb).1,w0⟩;rintro n s5 ⟨i,τ,H5,I5,al,ak,w5⟩;rcases aj i n τ H5 w5 with ⟨stop,qn⟩|⟨go,step⟩
  ·refine thn (T.done (aW X scope cl (s2.heap.push { cls:=.type "list",data:=.seq ([]:List au).toArray }).objs.size { s2 with heap:=s2.heap.push { cls:=.type "list",data:=.seq ([]:List au).toArray } } (upd H2 s2.heap.objs.size (.lst [])) fp N) rfl rfl rfl hc i [] s5 τ H5 (fun _ _=>False) I5 (aa ak) al stop) fun r s6 ⟨hr,I6⟩=>?_;subst hr;obtain⟨m,hn,_⟩:=id I6.loc;exact hRR _ _ H5 s6 m hn (I3.fpOk (bp _) I6.free) (fun h' hs=>CP I3 f3 I6 hs) qn
  ·refine thn (T.item (aW X scope cl (s2.heap.push { cls:=.type "list",data:=.seq ([]:List au).toArray }).objs.size { s2 with heap:=s2.heap.push { cls:=.type "list",data:=.seq ([]:List au).toArray } } (upd H2 s2.heap.objs.size (.lst [])) fp N) rfl rfl rfl hc i [] s5 τ H5 (fun _ _=>False) I5 (aa ak) al go) fun r s6 ⟨u,hr,h6⟩=>?_;subst hr;refine thn h6 fun _ s7 ⟨x,H7,I7,r7,y7,af,ap⟩=>?_;have I7':=I7.pinned (aa ap) (T.obj _ _ af);refine thn (hg _ _ _ _ _ s7 τ H7 x u _ I7' r7 (step x H7 y7)) fun _ s8 ⟨τ8,H8,I8,q8⟩=>?_;refine thn (ht _ _ _ _ _ s8 τ8 H8 _ I8 q8) fun ok s9 ⟨H9,I9,q9⟩=>?_;have ab:∀{H':Hp}{s':ax}{m:Nat},Inv (aW X scope cl (s2.heap.push { cls:=.type "list",data:=.seq ([]:List au).toArray }).objs.size { s2 with heap:=s2.heap.push { cls:=.type "list",data:=.seq ([]:List au).toArray } } (upd H2 s2.heap.objs.size (.lst [])) fp N) ([]++jJ fp s7.heap) τ8 H' s'->(m<n/\W (i+1) m τ8 H') ->
     ∃m,m<n/\∃i τ H',Inv (aW X scope cl (s2.heap.push { cls:=.type "list",data:=.seq ([]:List au).toArray }).objs.size { s2 with heap:=s2.heap.push { cls:=.type "list",data:=.seq ([]:List au).toArray } } (upd H2 s2.heap.objs.size (.lst [])) fp N) [] τ H' s'/\tn i s'.heap/\(∀b∈fp,H' b=none)/\W i m τ H':=fun {H' s' m} I' q=>by
    refine⟨m,q.1,i+1,τ8,H',I'.unpinned,T.keep _ _ _ af fun b hb o e=>(I'.pin (b,o) (bd _ (bd _ (mF hb e)))).1,fun b hb=>?_,q.2⟩;obtain⟨o,e,d⟩:=T.obj _ _ af b hb;exact(I'.pin (b,o) (bd _ (bd _ (mF hb e)))).2.1
   cases ok with
   |false=>
    rw[bu fh]at q9 ⊢;obtain⟨m',hm,w9⟩:=q9;exact ab I9 ⟨hm,w9⟩
   |true=>
    rw[cb rfl]at q9 ⊢;refine thn (he _ _ _ _ _ s9 τ8 H9 _ I9 q9) fun v an ⟨z,H10,I10,aq,xs,hx,hz,m',hm,am⟩=>?_;refine thn (gY _ an τ8 H10 (.ref s2.heap.objs.size) [z] (.ref s2.heap.objs.size) [v] (fun _ H11=>W (i+1) m' τ8 H11) I10 rfl (.cons aq .nil) ⟨_,xs,z,rfl,rfl,hx,hz,am⟩) fun _ ar ⟨_,H11,I11,_,ao⟩=>?_;exact ab I11 ⟨hm,ao⟩
 exact codeAny_compStart_list ac (T.self _ 0 _ _ _ ag ac)
theorem eE(hx:∀e s,X.xe e s->False)(hc:X.calm=true)(c:CompOk X scope cl N caps)(hi:PI X tg iter wi)(hg:∀C s H fp,PG (aW X scope cl C s H fp N) tg g)(ht:∀C s H fp,PTs (aW X scope cl C s H fp N) ifs tt)(he:∀C s H fp,PE (aW X scope cl C s H fp N) elt te)
  (hs:∀x,foldedSetIterable iter X.env x=pure x:=by intro _;rfl):PE X (.ListComp elt [⟨tg,iter,ifs,0⟩] scope pos) (iT caps wi g tt te):=by
 intro zc s σ H Q I h;rw[eval_ListComp];refine wpAny_comprehension_free (use:=none) rfl hs c.clos c.kind c.names (thn (hi zc s σ H _ I h) fun v s1 h1=>thn h1 fun y s2 h2=>?_);obtain⟨it,fp,tn,J,H2,e,I2,T,p,f2,q2⟩:=h2;subst e;exact yW (RR:=fun acc C=>compPost (model X.prog X.w) X.A X.xe none (EP X zc σ Q) acc C) hc c I2 T p f2 hg ht he Q q2 fun D C H' s' m hn _ hb q=>⟨m,hn,fun h' hs=>⟨.ref D,H',hb h' hs,rfl,q⟩⟩
theorem EH{i:Nat}{y:Str}{py aa:Pos}(hx:∀e s,X.xe e s->False)(hc:X.calm=true)(c:CompOk X scope cl N caps)(hN:X.N.Nodup)(ab:X.N[i]?=some y)(hl:X.env.scope.names.lookup y=some .local)(hi:PI X tg iter wi)(hg:∀C s H fp,PG (aW X scope cl C s H fp N) tg g)
  (ht:∀C s H fp,PTs (aW X scope cl C s H fp N) ifs tt) (he:∀C s H fp,PE (aW X scope cl C s H fp N) elt te)
  (hsw:swapsWith (.ListComp elt [⟨tg,iter,ifs,0⟩] scope pos) (some (.Name y py)) aa.line X.env=pure true:=by rfl)
  (hs:∀x,foldedSetIterable iter X.env x=pure x:=by intro _;rfl):PS X (.Assign [.Name y py] (.ListComp elt [⟨tg,iter,ifs,0⟩] scope pos) aa) (iB (iT caps wi g tt te) (fM i)):=by
 intro zc s σ H D I h;rw[exec_Assign_Name_used _ _ _ _ hsw];refine aw (wpAny_standAt (aw ?_));show bh _ X.A (do let _ <- comprehension (.ListComp elt [⟨tg,iter,ifs,0⟩] scope pos) scope X.env _ (newList []) false (eval iter X.env) (some (assign (.Name y py) X.env))) _ _ s;refine aw (kj (wpAny_comprehension_free (use:=some (assign (.Name y py) X.env)) (Q:=fun _ s'=>SP X zc D .next s') rfl hs c.clos c.kind c.names (thn (hi zc s σ H _ I h) fun v s1 h1=>thn h1 fun ae s2 h2=>?_)) (fun _ s' hq=>bj (bj hq)) fun _ _ e=>e);obtain⟨it,fp,tn,J,H2,e,I2,T,ac,f2,q2⟩:=h2;subst e;refine yW (RR:=fun acc C=>compPost (model X.prog X.w) X.A X.xe (some (assign (.Name y py) X.env)) (fun _ s'=>SP X zc D .next s') acc C) hc c I2 T ac f2 hg ht he (fun v H'=>D.nx (σ.set i (some v)) H') q2 fun Da C H' s' m hn f hb q=>?_;obtain⟨o,es,ep,ho,hd,r⟩:=hn;have I':Inv X zc σ H' s':=hb s'.heap (Heap.SameBut.refl _ _);have I'':Inv X (zc++[(C,o)]) σ H' s':=I'.pins_of fun p hp=>(mem_append.mp hp).elim (fun z=>I'.pin p (bd _ z)) fun z=>by
  cases mem_singleton.mp z;exact⟨ho,f.1,f.2.1,f.2.2.1,fun v e=>by rw[hd]at e;cases e⟩
 refine wpAny_assign_Name (o7 I'' hN ab (.inl hl) (show RelV (V.ref Da) (cw Da)from rfl) (fun s2 J2=>?_) (.inr hl));refine⟨m,⟨o,es,ep,(J2.pin (C,o) (bd _ (bd _ (mem_singleton.mpr rfl)))).1,hd,r⟩,fun h' hs=>?_⟩;exact⟨_,H',J2.unpinned.turned (t':=s2.toks) (fun b ob nb e=>hs.extBut b ob nb e) f.1 f.2.1 f.2.2.2.1 f.2.2.2.2.1 f.2.2.2.2.2,q⟩
end
def cX(env:Env):List (Str×ii)->List (Str×Addr)->List (Str×Addr)
 | [],acc=>acc
 | (n,k)::r,acc=>cX env r (if k==.free then (n,(env.cells.lookup n).getD 0)::acc else acc)
theorem AB{env:Env}{x:Str}{c:Addr}:∀{names:List (Str×ii)}{acc:List (Str×Addr)},(x,c)∈cX env names acc->(x,c)∈acc\/((x,NameKind.free)∈names/\c=(env.cells.lookup x).getD 0)
 | [],_,h=>.inl h
 | (n,k)::r,acc,h=>by
  rcases AB (names:=r) h with h|⟨h,e⟩
  ·by_cases hk:k==.free
   ·rw[cb hk]at h;rcases mem_cons.mp h with h|h
    ·cases h;have:k=.free:=by simpa using hk
     subst this;exact .inr ⟨bn,rfl⟩
    ·exact .inl h
   ·rw[bu hk]at h;exact .inl h
  ·exact .inr ⟨bc _ h,e⟩
theorem xE{env:Env}{p:Str×Addr}:∀{names:List (Str×ii)}{acc:List (Str×Addr)},p∈acc->p∈cX env names acc
 | [],_,h=>h
 | (n,k)::r,acc,h=>xE (names:=r) (by split<;>first|exact bc _ h|exact h)
theorem oQ{env:Env}{x:Str}:∀{names:List (Str×ii)}{acc:List (Str×Addr)},(x,NameKind.free)∈names->∃c,(x,c)∈cX env names acc
 | (n,k)::r,acc,h=>by
  rcases mem_cons.mp h with h|h
  ·cases h;exact⟨_,xE (names:=r) (by rw[cb dz];exact bn)⟩
  ·exact oQ (names:=r) h
theorem oI{β:Type}{x:Str}{c:β}:∀{l:List (Str×β)},(x,c)∈l->∃c',l.lookup x=some c'
 | (n,v)::r,h=>by
  cases e:x==n with
  |true=>exact⟨v,by rw[gw,e]⟩
  |false=>
   rcases mem_cons.mp h with h|h
   ·cases h;simp at e
   ·obtain⟨c',q⟩:=oI (l:=r) h;exact⟨c',by rw[gw,e];exact q⟩
theorem AW{env:Env}{scope:Scope}(h:∀y∈scope.names,y.2=.free->(env.cells.lookup y.1).isSome=true):closureFor scope env=pure (cX env scope.names []):=by
 have go:∀(names:List (Str×ii)) (acc:List (Str×Addr)),(∀y∈names,y.2=.free->(env.cells.lookup y.1).isSome=true) ->
   (forIn names acc (fun(x:Str×ii) (cs:List (Str×Addr))=>(if x.2==.free then (do let c <- cellOf env x.1;pure (je ((x.1,c)::cs)))else pure (je cs):Sem (ForInStep (List (Str×Addr))))))=(pure (cX env names acc):Sem (List (Str×Addr))):=by
  intro names;induction names with
  |nil=>intro acc _;rfl
  |cons y r ih=>
   intro acc hy;obtain⟨n,k⟩:=y;rw[List.forIn_cons];by_cases hk:k==.free
   ·have hs:=hy (n,k) bn (by simpa using hk);obtain⟨c,hc⟩:=isSome_iff_exists.mp hs;have q:env.cells.lookup n=some c:=hc;simp only[hk,if_true,cellOf,q,pure_bind,cX,Option.getD_some];exact ih _ fun y p=>hy y (bc _ p)
   ·simp only[hk,ia,if_false,pure_bind,cX];exact ih _ fun y p=>hy y (bc _ p)
 have g:=go scope.names [] h;exact(bind_pure _).trans g
def cG(DN:List Str)(dsc sc:List (Str×ii))(N:List Str)(caps:List (Option Nat)):Bool:=
 (caps.length==N.length)&&sc.all (fun y=>y.2 != .cell&&(y.2 != .free||dsc.lookup y.1==some .cell)&&(y.2 != .local||sc.lookup y.1==some .local)) &&
 (caps.zip N).all fun p=>match p.1 with|none=>true|some i=>DN[i]?==some p.2&&dsc.lookup p.2==some .cell&&sc.lookup p.2==some .free
theorem rK{dsc:List (Str×ii)}{env:Env}{x:Str}{k:ii}:∀{names:List (Str×ii)},(names.map fun(n,k)=>if (k==.free&&env.scope.kind==.function&&env.kindOf n==some .cell)then (n,.cell)else (n,k)).lookup x=some k ->
  ∃k',names.lookup x=some k'/\(k'=k\/(k'=.free/\k=.cell))
 | [],h=>by simp at h
 | (n,k0)::r,h=>by
  cases e:x==n with
  |true=>
   refine⟨k0,by rw[gw,e],?_⟩;rw[ck]at h;dsimp only at h;split at h
   ·rename_i hc;rw[gw,e]at h;have:k0=.free:=by simp at hc;exact hc.1.1
    cases h;exact .inr ⟨this,rfl⟩
   ·rw[gw,e]at h;cases h;exact .inl rfl
  |false=>
   rw[ck]at h;dsimp only at h;have h':(r.map fun(n,k)=>if (k==NameKind.free&&env.scope.kind==.function&&env.kindOf n==some .cell)then (n,NameKind.cell)else (n,k)).lookup x=some k:=by
    split at h<;>(rw[gw,e]at h;exact h)
   obtain⟨k',q,z⟩:=rK (dsc:=dsc) h';exact⟨k',by rw[gw,e];exact q,z⟩
theorem v8{env:Env}{x:Str}(h1:env.scope.kind=.function)(h2:env.kindOf x=some .cell):∀{names:List (Str×ii)},names.lookup x=some .free ->
  (names.map fun(n,k)=>if (k==.free&&env.scope.kind==.function&&env.kindOf n==some .cell)then (n,.cell)else (n,k)).lookup x=some .cell
 | [],h=>by simp at h
 | (n,k0)::r,h=>by
  rw[ck];cases e:x==n with
  |true=>
   rw[gw,e]at h;cases h;have en:x=n:=by simpa using e
   subst en;dsimp only;rw[cb (by rw[h1,h2];decide),gw,e]
  |false=>
   rw[gw,e]at h;have ih:=v8 h1 h2 (names:=r) h;dsimp only;split<;>(rw[gw,e];exact ih)
theorem c9{X:Cx}{dsc:Scope}{L:Nat}{scope:Scope}{N:List Str}{caps:List (Option Nat)}(hd:X.env.scope=dsc)(hc:X.env.cells=cellsFrom L dsc.names [])(af:dsc.kind=.function)(hk:scope.kind=.function)(h:cG X.N dsc.names scope.names N caps=true):
  CompOk X scope (cX X.env scope.names []) N caps:=by
 subst hd;simp only[cG,fu,all_eq_true,beq_iff_eq]at h;obtain⟨⟨hl,hs⟩,hz⟩:=h;have aa:∀y∈scope.names,y.2=.free->X.env.scope.names.lookup y.1=some .cell:=fun y hy e=>by
  have q:=(hs y hy).1.2;rw[e]at q;simpa using q
 have p:∀y∈scope.names,y.2≠.cell:=fun y hy e=>by
  have q:=(hs y hy).1.1;rw[e]at q;simp at q
 have ab:∀x,X.env.scope.names.lookup x=some .cell->(X.env.cells.lookup x).isSome=true:=fun x e=>by
  rw[hc];exact W.cellsFrom_some _ _ _ (.inl e)
 have sub:∀x c,(cX X.env scope.names []).lookup x=some c->X.env.cells.lookup x=some c:=fun x c e=>by
  rcases AB (PySem.mem_of_lookup e)with q|⟨q,ec⟩
  ·cases q
  ·obtain⟨c',ac⟩:=isSome_iff_exists.mp (ab x (aa _ q rfl));rw[ec,ac];rfl
 refine⟨AW fun y hy e=>ab y.1 (aa y hy e),sub,hk,p,fun y hy e=>?_,fun x hx=>?_,fun j i x h1 h2=>?_,hl⟩
 ·have q:=(hs y hy).2;rw[e]at q;simpa using q
 ·have fin:(x,NameKind.free)∈scope.names->∃c,(cX X.env scope.names []).lookup x=some c:=fun m=>by
   obtain⟨c,hm⟩:=oQ (env:=X.env) (acc:=[]) m;exact oI hm
  rcases hx with hx|hx
  ·obtain⟨k',q,z⟩:=rK (dsc:=[]) hx;rcases z with rfl|⟨rfl,_⟩
   ·exact absurd rfl (p _ (PySem.mem_of_lookup q))
   ·exact fin (PySem.mem_of_lookup q)
  ·obtain⟨k',q,z⟩:=rK (dsc:=[]) hx;rcases z with rfl|⟨_,z⟩
   ·exact fin (PySem.mem_of_lookup q)
   ·cases z
 ·have hm:(some i,x)∈caps.zip N:=by
   have:(caps.zip N)[j]?=some (some i,x):=by rw[List.getElem?_zip_eq_some];exact⟨h1,h2⟩
   exact cf this
  have q:=hz _ hm;simp only[fu,beq_iff_eq]at q;obtain⟨⟨q1,q2⟩,q3⟩:=q;obtain⟨c,ae⟩:=oQ (env:=X.env) (acc:=[]) (PySem.mem_of_lookup q3);obtain⟨c',ac⟩:=oI ae;refine⟨q1,.inr (.inl q2),fun z=>?_,c',ac,.inl (v8 af q2 q3)⟩;have z':X.env.scope.names.lookup x=some .local:=z;rw[q2]at z';cases z'
end
section
section
variable {X:Cx}
def yC:R2:=fun x y H Q=>∃z n,x=.str z/\y=.int n/\z.length<=1000/\n<=1000/\-1000<=n/\Q (.str (PySem.Txt.mul z n)) H
theorem Do{z:Str}{n:Int}(h1:z.length<=1000)(h2:n<=1000)(h3:-1000<=n):PySem.MulOk z n:=by
 refine⟨by simp;omega,fun a _ b=>?_,fun a _=>?_⟩
 ·have e:(1000:Int)<=(2 ^ 63-1)/n:=by
   rw[Int.le_ediv_iff_mul_le yw];have:=Int.mul_le_mul_of_nonneg_left h2 (show (0:Int)<=1000 by decide);omega
  omega
 ·have e:z.length*n.toNat<=1000*1000:=mul_le_mul h1 yw;unfold Builtin.Str.tooLong;simp only[decide_eq_false_iff_not,Nat.not_lt];exact dm e dz
theorem FB:OpR X (gf .Mult) yC:=by
 intro zc s σ H x y v u Q I rx ry h;obtain⟨z,n,rfl,rfl,h1,h2,h3,q⟩:=h;obtain⟨t,rfl⟩:=rx;obtain⟨t',rfl⟩:=ry;exact PySem.SB.mul (Do h1 h2 h3) fun _ k=>⟨.str _,H,I.tok _,⟨_,rfl⟩,q⟩
def wH:V->Option Int->Option Int->Hp->VK->Prop:=fun x lo hi H Q=>∃z,x=.str z/\z.length<=be/\Q (.str (PySem.Txt.slice z lo hi)) H
theorem Fe:SlR X wH:=by
 intro zc s σ H x v vl vu lo hi sl Q I rx hs pl pu h;obtain⟨z,rfl,hz,q⟩:=h;obtain⟨t,rfl⟩:=rx;refine⟨"str",_,F.slot_str_getitem.lookup,typeIs_str _ _ _,?_⟩;have fin:∀(a b:Option (Int×Tok)),a.map (·.1)=lo->b.map (·.1)=hi->s.heap.IsSlice sl a b none->bh (model X.prog X.w) X.A (getItem (.str z t) (.ref sl)) (EP X zc σ Q) X.xe s:=fun a b e1 e2 p=>by
  subst e1 e2;exact wpAny_getItem_str_slice (l:=a) (u:=b) (st:=none) p rfl (post_val_or_str ⟨dm (PySem.Txt.slice_le z _ _) hz,fun _ k=>⟨.str _,H,I.tok _,⟨_,rfl⟩,q⟩⟩)
 cases pl with
 |none=>
  cases pu with
  |none=>exact fin none none rfl rfl hs
  |int j tj=>exact fin none (some (j,tj)) rfl rfl hs
 |int i ti=>
  cases pu with
  |none=>exact fin (some (i,ti)) none rfl rfl hs
  |int j tj=>exact fin (some (i,ti)) (some (j,tj)) rfl rfl hs
end
section
variable {K:bf}{o:List Addr}{σ:St}{H0:Hp}{t:TE}{ta:TA}{ds:List av}
def cJ(lo:Int)(n:Nat):List av:=(cp n).map fun k:Nat=>.int (lo+k)
theorem iF{lo:Int}{n:Nat}:(cJ lo n).length=n:=by simp[cJ]
theorem wG{lo:Int}{n i:Nat}{d:av}(h:(cJ lo n)[i]?=some d):i<n/\d=.int (lo+i):=by
 have hi:i<n:=by
  have:=List.getElem?_eq_some_iff.mp h;obtain⟨hl,_⟩:=this
  rwa [iF]at hl
 refine⟨hi,?_⟩;simp only[cJ,eg,List.getElem?_range hi,map_some,Option.some.injEq]at h;exact h.symm
end
def cY{α:Type}(xs:List α)(lo hi:Option Int):List α:=(xs.drop (HT.sIx xs.length 0 lo)).take (HT.sIx xs.length xs.length hi-HT.sIx xs.length 0 lo)
theorem HasL.drop{H:Hp}:∀{ds:List av}{vs:List V} (n:Nat),HasL H ds vs->HasL H (ds.drop n) (vs.drop n)
 |ds,vs,0,h=>h
 | [],vs,n+1,h=>by rw[zo.mp h];exact zo.mpr rfl
 |d::ds,vs,n+1,h=>by
  obtain⟨v,r,rfl,_,l⟩:=zn.mp h;exact HasL.drop n l
theorem HasL.take{H:Hp}:∀{ds:List av}{vs:List V} (n:Nat),HasL H ds vs->HasL H (ds.take n) (vs.take n)
 |ds,vs,0,h=>zo.mpr rfl
 | [],vs,n+1,h=>by rw[zo.mp h];exact zo.mpr rfl
 |d::ds,vs,n+1,h=>by
  obtain⟨v,r,rfl,q,l⟩:=zn.mp h;exact zn.mpr ⟨v,_,rfl,q,HasL.take n l⟩
theorem HasL.cut{H:Hp}{ds:List av}{vs:List V}(lo hi:Option Int)(h:HasL H ds vs):HasL H (cY ds lo hi) (b9 vs lo hi):=by
 unfold cY b9;rw[h.length];exact(h.drop _).take _
end
section
theorem uA:∀{l:List Addr}{H:Hp}{b:Addr}{u:HO},vw l H b=some u↔b∉l/\H b=some u
 | [],H,b,u=>by simp[vw]
 |a::r,H,b,u=>by
  show hid a (vw r H) b=some u↔_;by_cases h:b=a
  ·subst h;simp[B3]
  ·rw[BO h,uA];simp[h]
def vx(h o:List Addr)(H:Hp):Hp:=vw (h++o) H
theorem zr{h o:List Addr}{H:Hp}{b:Addr}{u:HO}:vx h o H b=some u↔b∉h/\b∉o/\H b=some u:=by
 unfold vx;rw[uA];simp[and_assoc]
theorem zA{h o:List Addr}{H:Hp}:Same (vx h o H) H:=fun b u e=>(zr.mp e).2.2
theorem m9{h o:List Addr}{H H':Hp}(s:Same H H'):Same (vx h o H) (vx h o H'):=fun b u e=>by
 obtain⟨h1,h2,h3⟩:=zr.mp e;exact zr.mpr ⟨h1,h2,s b u h3⟩
structure Ex(o:List Addr)(H:Hp)(o':List Addr)(H':Hp):Prop where
 pre:∃r,o'=o++r
 kp:∀b u,b∉o->H b=some u->b∉o'/\H' b=some u
section
variable {h o o' o'':List Addr}{H H' H'':Hp}{S:List (List av)}{p a:Addr}
theorem Ex.refl:Ex o H o H:=⟨⟨[],yv⟩,fun _ _ a b=>⟨a,b⟩⟩
theorem Ex.trans(a:Ex o H o' H')(b:Ex o' H' o'' H''):Ex o H o'' H'':=by
 obtain⟨⟨r,e⟩,ka⟩:=a;obtain⟨⟨t,e'⟩,kb⟩:=b;refine⟨⟨r++t,by rw[e',e,cu]⟩,fun b u h1 h2=>?_⟩;obtain⟨h3,h4⟩:=ka b u h1 h2;exact kb b u h3 h4
theorem Ex.vx(e:Ex o H o' H'):Same (L2.vx h o H) (L2.vx h o' H'):=fun b u q=>by
 obtain⟨h1,h2,h3⟩:=zr.mp q;obtain⟨h4,h5⟩:=e.kp b u h2 h3;exact zr.mpr ⟨h1,h4,h5⟩
structure ExH(h o:List Addr)(H:Hp)(o':List Addr)(H':Hp):Prop where
 pre:∃r,o'=o++r
 kp:∀b u,b∉h->b∉o->H b=some u->b∉o'/\H' b=some u
theorem Ex.hid(e:Ex o H o' H'):ExH h o H o' H':=⟨e.pre,fun b u _=>e.kp b u⟩
theorem ExH.refl:ExH h o H o H:=Ex.refl.hid
theorem ExH.trans(a:ExH h o H o' H')(b:ExH h o' H' o'' H''):ExH h o H o'' H'':=by
 obtain⟨⟨r,e⟩,ka⟩:=a;obtain⟨⟨t,e'⟩,kb⟩:=b;refine⟨⟨r++t,by rw[e',e,cu]⟩,fun b u h0 h1 h2=>?_⟩;obtain⟨h3,h4⟩:=ka b u h0 h1 h2;exact kb b u h0 h3 h4
theorem ExH.vx(e:ExH h o H o' H'):Same (L2.vx h o H) (L2.vx h o' H'):=fun b u q=>by
 obtain⟨h1,h2,h3⟩:=zr.mp q;obtain⟨h4,h5⟩:=e.kp b u h1 h2 h3;exact zr.mpr ⟨h1,h4,h5⟩
theorem Ex.of_same(s:Same H H'):Ex o H o H':=⟨⟨[],yv⟩,fun b u h e=>⟨h,s b u e⟩⟩
theorem dZ{α:Type}{l t:List α}{k:Nat}{a:α}(q:l[k]?=some a):(l++t)[k]?=some a:=by
 obtain⟨hk,_⟩:=List.getElem?_eq_some_iff.mp q;rw[cn hk];exact q
def exO(a C:Addr)(d:Option Addr):HO:=.ext fun h=>∃o,h.get? a=some o/\o.cls=.ref C/\o.dict=d/\∃vs,o.data=.fields vs/\vs[2]?=some .none
def xw(dx:Addr)(fs:List (Str×V)):HO:=.ext fun h=>∃mA,h.Ns1 dx mA/\(∀f,RelO (fs.lookup f) (mA f))/\PySem.Within mA (fs.map (·.1))
def HasE(H:Hp)(C:Addr)(fs:List (Str×av))(v:V):Prop:=∃a d,v=.ref a/\H a=some (exO a C d)/\∀f dt,fs.lookup f=some dt->∃dx vs u,d=some dx/\H dx=some (xw dx vs)/\vs.lookup f=some u/\Has H dt u
theorem HasE.mono{H H':Hp}{C:Addr}{fs:List (Str×av)}{v:V}(s:Same H H')(q:HasE H C fs v):HasE H' C fs v:=by
 obtain⟨a,d,e,ha,hf⟩:=q;refine⟨a,d,e,s _ _ ha,fun f dt l=>?_⟩;obtain⟨dx,vs,u,e1,e2,e3,e4⟩:=hf f dt l;exact⟨dx,vs,u,e1,s _ _ e2,e3,Has.mono s _ _ e4⟩
inductive XV where
 |d (d:av)
 |l (k:Nat)
 |o (v:V)
 |x (C:Addr) (fs:List (Str×av))
 |p (k:Nat) (d:av)
def HasLP(h o:List Addr)(H:Hp)(k:Nat)(d:av)(v:V):Prop:=∃t a u,v=.ref t/\o[k]?=some a/\vx h o H t=some (.tup [.ref a,u])/\Has (vx h o H) d u
theorem HasLP.to{h':List Addr}{k:Nat}{d:av}{v:V}(s:Same (vx h o H) (vx h' o' H'))(e:∀a,o[k]?=some a->o'[k]?=some a)(q:HasLP h o H k d v):HasLP h' o' H' k d v:=by
 obtain⟨t,a,u,e1,e2,e3,e4⟩:=q;exact⟨t,a,u,e1,e a e2,s _ _ e3,Has.mono s _ _ e4⟩
def HasX(h o:List Addr)(H:Hp):XV->V->Prop
 | .d d,v=>Has (vx h o H) d v
 | .l k,v=>∃a,o[k]?=some a/\v=.ref a
 | .o w,v=>v=w
 | .x C fs,v=>HasE (vx h o H) C fs v
 | .p k d,v=>HasLP h o H k d v
theorem HasX.mono(e:Ex o H o' H'):∀{x:XV}{v:V},HasX h o H x v->HasX h o' H' x v
 | .d d,v,q=>Has.mono e.vx d v q
 | .l k,v,⟨a,q,r⟩=>by
  obtain⟨t,rfl⟩:=e.pre;exact⟨a,dZ q,r⟩
 | .o w,v,q=>q
 | .x C fs,v,q=>HasE.mono e.vx q
 | .p k d,v,q=>by
  have ev:=e.vx (h:=h);obtain⟨t,rfl⟩:=e.pre;exact HasLP.to ev (fun a z=>dZ z) q
def HasXs(h o:List Addr)(H:Hp):List XV->List V->Prop
 | [],vs=>vs=[]
 |x::xs,vs=>∃v r,vs=v::r/\HasX h o H x v/\HasXs h o H xs r
abbrev Sto:=List (List av)
inductive MO where
 |l (vs:List V)
 |k (m:List (Key×V))
 |t (m:List (List Key×V))
 |x (a:Addr) (ob:Obj)
def MO.ho:MO->HO
 | .l vs=>.lst vs
 | .k m=>.dK m
 | .t m=>.dT m
 | .x a ob=>obO a ob
structure RepS(h o:List Addr)(H:Hp)(S:Sto):Prop where
 len:S.length=o.length
 nd:o.Nodup
 dis:∀a∈o,a∉h
 hal:∀b∈h,∃u:MO,H b=some u.ho
 cont:∀(k:Nat) (a:Addr) (ds:List av),o[k]?=some a->S[k]?=some ds->∃vs,H a=some (.lst vs)/\HasL (vx h o H) ds vs
theorem ET{α β:Type}{l:List α}{t:List β}{k:Nat}{a:α}(hl:t.length=l.length)(q:l[k]?=some a):∃b,t[k]?=some b:=by
 obtain⟨hk,_⟩:=List.getElem?_eq_some_iff.mp q;exact⟨t[k]'yw,bg _⟩
theorem RepS.oal(r:RepS h o H S):∀a∈o,∃u,H a=some (.lst u):=fun a ha=>by
 obtain⟨k,hk⟩:=mem_iff_getElem?.mp ha;obtain⟨ds,e⟩:=ET r.len hk;obtain⟨vs,e',_⟩:=r.cont k a ds hk e;exact⟨_,e'⟩
theorem RepS.oam(r:RepS h o H S):∀a∈o,∃u:MO,H a=some u.ho:=fun a ha=>let ⟨u,e⟩:=r.oal a ha;⟨.l u,e⟩
theorem RepS.fresh(r:RepS h o H S)(hp:H p=none):p∉h/\p∉o:=by
 constructor
 ·intro m;obtain⟨u,e⟩:=r.hal p m;rw[hp]at e;cases e
 ·intro m;obtain⟨u,e⟩:=r.oal p m;rw[hp]at e;cases e
theorem RepS.same(r:RepS h o H S)(s:Same H H'):RepS h o H' S where
 len:=r.len
 nd:=r.nd
 dis:=r.dis
 hal:=fun b m=>by obtain⟨u,e⟩:=r.hal b m;exact⟨u,s b _ e⟩
 cont:=fun k a ds e1 e2=>by
  obtain⟨vs,e3,l⟩:=r.cont k a ds e1 e2;exact⟨vs,s _ _ e3,HasL.mono (m9 s) _ _ l⟩
theorem RepS.laid{u:HO}(r:RepS h o H S)(hp:H p=none):vx h o (upd H p u) p=some u:=by
 obtain⟨h1,h2⟩:=r.fresh hp;exact zr.mpr ⟨h1,h2,zH⟩
theorem Ex.new{u:HO}(r:RepS h o H S)(hp:H p=none):Ex o H (o++[p]) (upd H p u):=by
 refine⟨⟨[p],rfl⟩,fun b w hb e=>?_⟩;have ne:b≠p:=zx e hp;exact⟨by simp[hb,ne],by rw[zp ne];exact e⟩
theorem hZ{α:Type}{l:List α}{a:α}(h:l.Nodup)(n:a∉l):(l++[a]).Nodup:=by
 rw[ix];refine⟨h,yv,fun x hx y hy e=>?_⟩;rw[mem_singleton]at hy;subst hy;subst e;exact n hx
theorem RepS.new{ds:List av}{vs:List V}(r:RepS h o H S)(hp:H p=none)(l:HasL (vx h o H) ds vs):RepS h (o++[p]) (upd H p (.lst vs)) (S++[ds]):=by
 obtain⟨h1,h2⟩:=r.fresh hp;have ex:Ex o H (o++[p]) (upd H p (.lst vs)):=Ex.new r hp;refine⟨by simp[r.len],hZ r.nd h2,fun a ha=>?_,fun b hb=>?_,fun k a es e1 e2=>?_⟩
 ·rcases mem_append.mp ha with ha|ha
  ·exact r.dis a ha
  ·rw[mem_singleton.mp ha];exact h1
 ·obtain⟨u,e⟩:=r.hal b hb;exact⟨u,by rw[zp (zx e hp)];exact e⟩
 ·by_cases hk:k<o.length
  ·rw[cn hk]at e1;rw[cn (by rw[r.len];exact hk)]at e2;obtain⟨ws,e3,l3⟩:=r.cont k a es e1 e2;refine⟨ws,?_,l3.mono ex.vx⟩;rw[zp (zx e3 hp)];exact e3
  ·have y:k=o.length:=by
    obtain⟨q,_⟩:=List.getElem?_eq_some_iff.mp e1;rw[bx,fe]at q;omega
   subst y;rw[bi]at e1;rw[<- r.len,bi]at e2;cases e1;cases e2;exact⟨vs,zH,l.mono ex.vx⟩
theorem Ex.upd{k:Nat}{u:HO}(e:o[k]?=some a):Ex o H o (L2.upd H a u):=
 ⟨⟨[],yv⟩,fun b w hb eb=>⟨hb,by rw[zp (fun z=>hb (by rw[z];exact cf e))];exact eb⟩⟩
theorem lT{l:List Addr}(h:l.Nodup){i j:Nat}{a:Addr}(e1:l[i]?=some a)(e2:l[j]?=some a):i=j:=by
 obtain⟨hi,e1⟩:=List.getElem?_eq_some_iff.mp e1;obtain⟨hj,e2⟩:=List.getElem?_eq_some_iff.mp e2;exact(List.getElem_inj h).mp (e1.trans e2.symm)
theorem RepS.upd{k:Nat}{ds:List av}{vs:List V}(r:RepS h o H S)(e:o[k]?=some a)(l:HasL (vx h o H) ds vs):RepS h o (L2.upd H a (.lst vs)) (S.set k ds):=by
 have ex:Ex o H o (L2.upd H a (.lst vs)):=Ex.upd e;refine⟨by simp[r.len],r.nd,r.dis,fun b hb=>?_,fun j b es e1 e2=>?_⟩
 ·obtain⟨u,eb⟩:=r.hal b hb;have ne:b≠a:=fun z=>r.dis a (cf e) (z▸hb);exact⟨u,by rw[zp ne];exact eb⟩
 ·by_cases hj:j=k
  ·subst hj;rw[e1]at e;cases e;obtain⟨hk,_⟩:=List.getElem?_eq_some_iff.mp e1;rw[jj (by rw[r.len];exact hk)]at e2;cases e2;exact⟨vs,zH,l.mono ex.vx⟩
  ·rw[ke (fw hj)]at e2;obtain⟨ws,e3,l3⟩:=r.cont j b es e1 e2;have ne:b≠a:=fun z=>hj (lT r.nd e1 (z▸e));exact⟨ws,by rw[zp ne];exact e3,l3.mono ex.vx⟩
abbrev XE:=List (Option XV)
structure RepE(h o:List Addr)(H:Hp)(δ:XE)(σ:St):Prop where
 len:δ.length=σ.length
 get:∀(i:Nat) x,δ[i]?=some (some x)->∃v,σ[i]?=some (some v)/\HasX h o H x v
variable {δ:XE}{σ:St}
theorem RepE.mono(r:RepE h o H δ σ)(e:Ex o H o' H'):RepE h o' H' δ σ:=⟨r.len,fun i x q=>by
 obtain⟨v,e1,e2⟩:=r.get i x q;exact⟨v,e1,e2.mono e⟩⟩
theorem RepE.set{i:Nat}{x:XV}{v:V}(r:RepE h o H δ σ)(q:HasX h o H x v):RepE h o H (δ.set i (some x)) (σ.set i (some v)):=by
 refine⟨by simp[r.len],fun j y e=>?_⟩;rw[List.getElem?_set]at e ⊢;by_cases hij:i=j
 ·rw[cb hij]at e ⊢;by_cases hl:i<δ.length
  ·rw[cb hl]at e;rw[cb (by rw[<- r.len];exact hl)];cases e;exact⟨v,rfl,q⟩
  ·rw[bu hl]at e;cases e
 ·rw[bu hij]at e ⊢;exact r.get j y e
def cQ(caps:List (Option Nat))(δ:XE):XE:=caps.map fun o=>o.bind fun i=>(δ[i]?).join
theorem RepE.tau{caps:List (Option Nat)}(r:RepE h o H δ σ):RepE h o H (cQ caps δ) (L2.tau caps σ):=by
 refine⟨by simp[cQ,L2.tau],fun i x e=>?_⟩;unfold cQ at e;unfold L2.tau;rw[eg]at e ⊢;cases hc:caps[i]? with
 |none=>rw[hc]at e;cases e
 |some c=>
  rw[hc]at e;cases c with
  |none=>cases e
  |some j=>
   have e':(δ[j]?).join=some x:=by simpa using e
   have e2:δ[j]?=some (some x):=by
    cases hd:δ[j]? with
    |none=>rw[hd]at e';cases e'
    |some y=>rw[hd]at e';exact congrArg some (by simpa using e')
   obtain⟨v,e3,e4⟩:=r.get j x e2;exact⟨v,by simp[e3],e4⟩
end
abbrev RX:=XV->Sto->Prop
abbrev DE:=XE->Sto->RX->Prop
abbrev DT:=XE->Sto->(Bool->Sto->Prop)->Prop
abbrev DA:=XE->Sto->(List XV->Sto->Prop)->Prop
abbrev D2:=XV->XV->Sto->RX->Prop
def Cn(h o:List Addr)(H:Hp)(R:RX)(Q:VK):Prop:=∀o' H' S' x v,Ex o H o' H'->RepS h o' H' S'->HasX h o' H' x v->R x S'->Q v H'
theorem Cn.pre{h o o':List Addr}{H H':Hp}{R:RX}{Q:VK}(c:Cn h o H R Q)(e:Ex o H o' H'):Cn h o' H' R Q:=fun o2 H2 S2 x v e2=>c o2 H2 S2 x v (e.trans e2)
def RE(t:TE)(dt:DE):Prop:=∀(h o:List Addr) (H:Hp) (δ:XE) (σ:St) (S:Sto) (R:RX) (Q:VK),RepE h o H δ σ->RepS h o H S->dt δ S R->Cn h o H R Q->t σ H Q
def RT(t:TT)(dt:DT):Prop:=∀(h o:List Addr) (H:Hp) (δ:XE) (σ:St) (S:Sto) (R:Bool->Sto->Prop) (Q:Bool->Hp->Prop),RepE h o H δ σ->RepS h o H S->dt δ S R ->
 (∀o' H' S' b,Ex o H o' H'->RepS h o' H' S'->R b S'->Q b H')->t σ H Q
def RA(t:TA)(dt:DA):Prop:=∀(h o:List Addr) (H:Hp) (δ:XE) (σ:St) (S:Sto) (R:List XV->Sto->Prop) (Q:List V->Hp->Prop),RepE h o H δ σ->RepS h o H S->dt δ S R ->
 (∀o' H' S' xs vs,Ex o H o' H'->RepS h o' H' S'->HasXs h o' H' xs vs->R xs S'->Q vs H')->t σ H Q
def RO(r:R2)(rd:D2):Prop:=∀(h o:List Addr) (H:Hp) (S:Sto) (x y:XV) (v u:V) (R:RX) (Q:VK),RepS h o H S->HasX h o H x v->HasX h o H y u->rd x y S R->Cn h o H R Q->r v u H Q
def RU(r:V->Hp->VK->Prop)(rd:XV->Sto->RX->Prop):Prop:=∀(h o:List Addr) (H:Hp) (S:Sto) (x:XV) (v:V) (R:RX) (Q:VK),RepS h o H S->HasX h o H x v->rd x S R->Cn h o H R Q->r v H Q
def RC(r:List V->Hp->VK->Prop)(rd:List XV->Sto->RX->Prop):Prop:=∀(h o:List Addr) (H:Hp) (S:Sto) (xs:List XV) (vs:List V) (R:RX) (Q:VK),RepS h o H S->HasXs h o H xs vs->rd xs S R->Cn h o H R Q->r vs H Q
def asI:XV->(Int->Prop)->Prop
 | .d (.int i),k=>k i
 |_,_=>False
def asB:XV->(Bool->Prop)->Prop
 | .d (.bool i),k=>k i
 |_,_=>False
def asS:XV->(Str->Prop)->Prop
 | .d (.str i),k=>k i
 |_,_=>False
def asT:XV->(List av->Prop)->Prop
 | .d (.tuple i),k=>k i
 |_,_=>False
def cV(S:Sto):XV->Option (List av)
 | .d (.list ds)=>some ds
 | .l k=>S[k]?
 |_=>none
def asL(S:Sto)(x:XV)(k:List av->Prop):Prop:=∃ds,cV S x=some ds/\k ds
def aV(S:Sto):XV->Option av
 | .d d=>some d
 | .l k=>(S[k]?).map .list
 | .o _=>none
 | .x _ _=>none
 | .p k d=>(S[k]?).map fun l=>.tuple [.list l,d]
def asD(x:XV)(k:av->Prop):Prop:=match x with
 | .d d=>k d
 |_=>False
theorem aQ{x:XV}{k:Int->Prop}(h:asI x k):∃i,x=.d (.int i)/\k i:=by
 unfold asI at h;split at h
 ·exact⟨_,rfl,h⟩
 ·exact h.elim
theorem hG{x:XV}{k:Bool->Prop}(h:asB x k):∃i,x=.d (.bool i)/\k i:=by
 unfold asB at h;split at h
 ·exact⟨_,rfl,h⟩
 ·exact h.elim
theorem yS{x:XV}{k:Str->Prop}(h:asS x k):∃i,x=.d (.str i)/\k i:=by
 unfold asS at h;split at h
 ·exact⟨_,rfl,h⟩
 ·exact h.elim
theorem gW{x:XV}{k:List av->Prop}(h:asT x k):∃i,x=.d (.tuple i)/\k i:=by
 unfold asT at h;split at h
 ·exact⟨_,rfl,h⟩
 ·exact h.elim
theorem eW{x:XV}{k:av->Prop}(h:asD x k):∃i,x=.d i/\k i:=by
 unfold asD at h;split at h
 ·exact⟨_,rfl,h⟩
 ·exact h.elim
section
variable {h o:List Addr}{H:Hp}{S:Sto}{x:XV}{v:V}{i:Int}{b:Bool}{z:Str}{ds:List av}{d:av}
theorem aP(q:HasX h o H (.d (.int i)) v):v=.int i:=(bV (H:=vx h o H)).mp q
theorem d7(q:HasX h o H (.d (.bool b)) v):v=.bl b:=(eV (H:=vx h o H)).mp q
theorem eF(q:HasX h o H (.d (.str z)) v):v=.str z:=(eJ (H:=vx h o H)).mp q
theorem dU(q:HasX h o H (.d (.tuple ds)) v):∃a vs,v=.ref a/\H a=some (.tup vs)/\HasL (vx h o H) ds vs:=by
 obtain⟨a,vs,e,q,l⟩:=zJ.mp (show Has _ _ _ from q);exact⟨a,vs,e,zA _ _ q,l⟩
theorem bL(r:RepS h o H S)(e:cV S x=some ds)(q:HasX h o H x v):∃a vs,v=.ref a/\H a=some (.lst vs)/\HasL (vx h o H) ds vs:=by
 unfold cV at e;split at e
 ·cases e;obtain⟨a,vs,e,q,l⟩:=zU.mp (show Has _ _ _ from q);exact⟨a,vs,e,zA _ _ q,l⟩
 ·obtain⟨a,e1,rfl⟩:=q;obtain⟨vs,e2,l⟩:=r.cont _ a ds e1 e;exact⟨a,vs,rfl,e2,l⟩
 ·cases e
theorem eC(r:RepS h o H S)(e:aV S x=some d)(q:HasX h o H x v):Has H d v:=by
 unfold aV at e;split at e
 ·cases e;exact Has.mono zA _ _ q
 ·rename_i k;obtain⟨a,e1,rfl⟩:=q;cases hs:S[k]? with
  |none=>rw[hs]at e;cases e
  |some es=>
   rw[hs]at e;cases e;obtain⟨vs,e2,l⟩:=r.cont k a es e1 hs;exact zU.mpr ⟨a,vs,rfl,e2,HasL.mono zA _ _ l⟩
 ·cases e
 ·cases e
 ·rename_i k d';obtain⟨t,a,u,rfl,e1,e3,e4⟩:=q;cases hs:S[k]? with
  |none=>rw[hs]at e;cases e
  |some es=>
   rw[hs]at e;cases e;obtain⟨vs,e2,l⟩:=r.cont k a es e1 hs;exact zJ.mpr ⟨t,_,rfl,zA _ _ e3,zn.mpr ⟨_,_,rfl,zU.mpr ⟨a,vs,rfl,e2,HasL.mono zA _ _ l⟩,zn.mpr ⟨u,_,rfl,Has.mono zA _ _ e4,zo.mpr rfl⟩⟩⟩
theorem xI(i:Int):HasX h o H (.d (.int i)) (.int i):=(bV (H:=vx h o H)).mpr rfl
theorem xB(i:Bool):HasX h o H (.d (.bool i)) (.bl i):=(eV (H:=vx h o H)).mpr rfl
theorem xS(i:Str):HasX h o H (.d (.str i)) (.str i):=(eJ (H:=vx h o H)).mpr rfl
theorem xN:HasX h o H (.d .none) .non:=(fX (H:=vx h o H)).mpr rfl
theorem jN{vs:List V}{R:RX}{Q:VK}(r:RepS h o H S)(l:HasL (vx h o H) ds vs)(c:Cn h o H R Q)(q:R (.d (.tuple ds)) S):∀p,H p=none->Q (.ref p) (upd H p (.tup vs)):=fun p hp=>
 c o _ S (.d (.tuple ds)) _ (Ex.of_same (Same.laid hp)) (r.same (Same.laid hp)) (zJ.mpr ⟨p,vs,rfl,r.laid hp,l.mono (m9 (Same.laid hp))⟩) q
theorem m7{vs:List V}{R:RX}{Q:VK}(r:RepS h o H S)(l:HasL (vx h o H) ds vs)(c:Cn h o H R Q)(q:R (.d (.list ds)) S):∀p,H p=none->Q (.ref p) (upd H p (.lst vs)):=fun p hp=>
 c o _ S (.d (.list ds)) _ (Ex.of_same (Same.laid hp)) (r.same (Same.laid hp)) (zU.mpr ⟨p,vs,rfl,r.laid hp,l.mono (m9 (Same.laid hp))⟩) q
theorem Ax{vs:List V}{R:RX}{Q:VK}(r:RepS h o H S)(l:HasL (vx h o H) ds vs)(c:Cn h o H R Q)(q:R (.l S.length) (S++[ds])):∀p,H p=none->Q (.ref p) (upd H p (.lst vs)):=fun p hp=>
 c (o++[p]) _ (S++[ds]) (.l S.length) _ (Ex.new r hp) (r.new hp l) ⟨p,by rw[r.len,bi],rfl⟩ q
theorem nN:∀{xs:List XV}{vs:List V}{ds:List av},HasXs h o H xs vs->xs=ds.map XV.d->HasL (vx h o H) ds vs
 | [],vs,[],q,_=>zo.mpr q
 |x::xs,vs,d::ds,⟨v,r,e,q,l⟩,e2=>by
  rw[ck]at e2;cases e2;exact zn.mpr ⟨v,r,e,q,nN l rfl⟩
 |x::xs,vs,[],_,e2=>by cases e2
 | [],vs,d::ds,_,e2=>by cases e2
end
def datas:List XV->Option (List av)
 | []=>some []
 | .d d::r=>(datas r).map (d :: ·)
 |_::_=>none
theorem gB:∀{xs:List XV}{ds:List av},datas xs=some ds->xs=ds.map XV.d
 | [],ds,e=>by cases e;rfl
 | .d d::r,ds,e=>by
  unfold datas at e;cases hr:datas r with
  |none=>rw[hr]at e;cases e
  |some es=>
   rw[hr]at e;cases e;rw[gB hr];rfl
 | .l _::_,_,e=>by cases e
 | .o _::_,_,e=>by cases e
 | .x _ _::_,_,e=>by cases e
 | .p _ _::_,_,e=>by cases e
def zj(i:Nat):DE:=fun δ S R=>∃x,δ[i]?=some (some x)/\R x S
def dC(d:av):DE:=fun _ S R=>R (.d d) S
def dO(v:V):DE:=fun _ S R=>R (.o v) S
def dOp(rd:D2)(a b:DE):DE:=fun δ S R=>a δ S fun x S1=>b δ S1 fun y S2=>rd x y S2 R
def dUn(rd:XV->Sto->RX->Prop)(a:DE):DE:=fun δ S R=>a δ S fun x S1=>rd x S1 R
def zv:DA:=fun _ S R=>R [] S
def zd(a:DE)(b:DA):DA:=fun δ S R=>a δ S fun x S1=>b δ S1 fun xs S2=>R (x::xs) S2
def dCB(rd:List XV->Sto->RX->Prop)(a:DA):DE:=fun δ S R=>a δ S fun xs S1=>rd xs S1 R
def aK(a:DA):DE:=fun δ S R=>a δ S fun xs S1=>∃ds,datas xs=some ds/\ds.length<=1000/\R (.d (.tuple ds)) S1
def bM(a:DA):DE:=fun δ S R=>a δ S fun xs S1=>∃ds,datas xs=some ds/\ds.length<=1000/\R (.d (.list ds)) S1
def cK(a:DA):DE:=fun δ S R=>a δ S fun xs S1=>∃ds,datas xs=some ds/\ds.length<=1000/\R (.l S1.length) (S1++[ds])
section
variable {t ta tb tc:TE}{da db dc:DE}{tl:TA}{dl:DA}{tt tu:TT}{dt du:DT}
theorem zk{i:Nat}:RE (dG i) (zj i):=fun h o H δ σ S R Q he hs ⟨x,e,q⟩ c=>by
 obtain⟨v,e1,e2⟩:=he.get i x e;exact⟨v,e1,c o H S x v Ex.refl hs e2 q⟩
theorem zR{i:Int}:RE (tC (.int i)) (dC (.int i)):=fun h o H δ σ S R Q he hs q c=>c o H S _ _ Ex.refl hs (xI i) q
theorem iA{i:Bool}:RE (tC (.bl i)) (dC (.bool i)):=fun h o H δ σ S R Q he hs q c=>c o H S _ _ Ex.refl hs (xB i) q
theorem uB:RE (tC .non) (dC .none):=fun h o H δ σ S R Q he hs q c=>c o H S _ _ Ex.refl hs xN q
theorem B4{v:V}:RE (tC v) (dO v):=fun h o H δ σ S R Q he hs q c=>c o H S (.o v) v Ex.refl hs rfl q
theorem cC{r:R2}{rd:D2}(hr:RO r rd)(ha:RE ta da)(hb:RE tb db):RE (tOp r ta tb) (dOp rd da db):=fun h o H δ σ S R Q he hs q c=>
 ha h o H δ σ S _ _ he hs q fun o1 H1 S1 x v e1 s1 x1 d1=>hb h o1 H1 δ σ S1 _ _ (he.mono e1) s1 d1 fun o2 H2 S2 y u e2 s2 y2 d2=>
  hr h o2 H2 S2 x y v u R Q s2 (x1.mono e2) y2 d2 (c.pre (e1.trans e2))
theorem qZ{r:V->Hp->VK->Prop}{rd:XV->Sto->RX->Prop}(hr:RU r rd)(ha:RE ta da):RE (tUn r ta) (dUn rd da):=fun h o H δ σ S R Q he hs q c=>
 ha h o H δ σ S _ _ he hs q fun o1 H1 S1 x v e1 s1 x1 d1=>hr h o1 H1 S1 x v R Q s1 x1 d1 (c.pre e1)
theorem zz:RA gE zv:=fun h o H δ σ S R Q he hs q c=>c o H S [] [] Ex.refl hs rfl q
theorem zi(ha:RE ta da)(hb:RA tl dl):RA (bU ta tl) (zd da dl):=fun h o H δ σ S R Q he hs q c=>
 ha h o H δ σ S _ _ he hs q fun o1 H1 S1 x v e1 s1 x1 d1=>hb h o1 H1 δ σ S1 _ _ (he.mono e1) s1 d1 fun o2 H2 S2 xs vs e2 s2 x2 d2=>
  c o2 H2 S2 (x::xs) (v::vs) (e1.trans e2) s2 ⟨v,vs,rfl,x1.mono e2,x2⟩ d2
theorem eI{r:List V->Hp->VK->Prop}{rd:List XV->Sto->RX->Prop}(hr:RC r rd)(ha:RA tl dl):RE (tCB r tl) (dCB rd dl):=fun h o H δ σ S R Q he hs q c=>
 ha h o H δ σ S _ _ he hs q fun o1 H1 S1 xs vs e1 s1 x1 d1=>hr h o1 H1 S1 xs vs R Q s1 x1 d1 (c.pre e1)
theorem cE(ha:RA tl dl):RE (rG tl) (aK dl):=fun h o H δ σ S R Q he hs q c=>
 ha h o H δ σ S _ _ he hs q fun o1 H1 S1 xs vs e1 s1 x1 ⟨ds,e,hl,d1⟩=>by
  have l:=nN x1 (gB e);exact⟨by rw[l.length];exact gu (small1000 hl),jN s1 l (c.pre e1) d1⟩
theorem oP(ha:RA tl dl):RE (hW tl) (bM dl):=fun h o H δ σ S R Q he hs q c=>
 ha h o H δ σ S _ _ he hs q fun o1 H1 S1 xs vs e1 s1 x1 ⟨ds,e,hl,d1⟩=>by
  have l:=nN x1 (gB e);exact⟨by rw[l.length];exact gu (small1000 hl),m7 s1 l (c.pre e1) d1⟩
theorem Bo(ha:RA tl dl):RE (hW tl) (cK dl):=fun h o H δ σ S R Q he hs q c=>
 ha h o H δ σ S _ _ he hs q fun o1 H1 S1 xs vs e1 s1 x1 ⟨ds,e,hl,d1⟩=>by
  have l:=nN x1 (gB e);exact⟨by rw[l.length];exact gu (small1000 hl),Ax s1 l (c.pre e1) d1⟩
def dB(a:DE):DT:=fun δ S R=>a δ S fun x S1=>asB x fun b=>R b S1
def aY(a:DT):DT:=fun δ S R=>a δ S fun b S1=>R (!b) S1
def l6(a b:DT):DT:=fun δ S R=>a δ S fun x S1=>if x=true then b δ S1 R else R false S1
def dOr(a b:DT):DT:=fun δ S R=>a δ S fun x S1=>if x=true then R true S1 else b δ S1 R
def fV(a b:DE):DE:=fun δ S R=>a δ S fun x S1=>asB x fun c=>if c=true then b δ S1 R else R (.d (.bool false)) S1
def gT(a b:DE):DE:=fun δ S R=>a δ S fun x S1=>asB x fun c=>if c=true then R (.d (.bool true)) S1 else b δ S1 R
def gR(a:DE):DE:=fun δ S R=>a δ S fun x S1=>asB x fun c=>R (.d (.bool (!c))) S1
def dIf(c:DT)(a b:DE):DE:=fun δ S R=>c δ S fun x S1=>if x=true then a δ S1 R else b δ S1 R
theorem pN(ha:RE ta da):RT (nI ta) (dB da):=fun h o H δ σ S R Q he hs q c=>
 ha h o H δ σ S _ _ he hs q fun o1 H1 S1 x v e1 s1 x1 d1=>by
  replace d1:=hG d1;obtain⟨b,rfl,d1⟩:=d1;exact⟨b,d7 x1,c o1 H1 S1 b e1 s1 d1⟩
theorem eP(ha:RT tt dt):RT (xR tt) (aY dt):=fun h o H δ σ S R Q he hs q c=>
 ha h o H δ σ S _ _ he hs q fun o1 H1 S1 b e1 s1 d1=>c o1 H1 S1 _ e1 s1 d1
theorem mU(ha:RT tt dt)(hb:RT tu du):RT (tOr tt tu) (dOr dt du):=fun h o H δ σ S R Q he hs q c=>
 ha h o H δ σ S _ _ he hs q fun o1 H1 S1 b e1 s1 d1=>by
  cases b with
  |false=>exact dP (hb h o1 H1 δ σ S1 R Q (he.mono e1) s1 (by simpa using d1) fun o2 H2 S2 b e2=>c o2 H2 S2 b (e1.trans e2))
  |true=>exact dR (c o1 H1 S1 true e1 s1 (by simpa using d1))
theorem Bs(ha:RE ta da)(hb:RE tb db):RE (x6 ta tb) (fV da db):=fun h o H δ σ S R Q he hs q c=>
 ha h o H δ σ S _ _ he hs q fun o1 H1 S1 x v e1 s1 x1 d1=>by
  replace d1:=hG d1;obtain⟨b,rfl,d1⟩:=d1;refine⟨b,d7 x1,?_⟩;cases b with
  |true=>exact dR (hb h o1 H1 δ σ S1 R Q (he.mono e1) s1 (by simpa using d1) (c.pre e1))
  |false=>exact dP (c o1 H1 S1 _ _ e1 s1 (xB false) (by simpa using d1))
theorem Be(ha:RE ta da)(hb:RE tb db):RE (vH ta tb) (gT da db):=fun h o H δ σ S R Q he hs q c=>
 ha h o H δ σ S _ _ he hs q fun o1 H1 S1 x v e1 s1 x1 d1=>by
  replace d1:=hG d1;obtain⟨b,rfl,d1⟩:=d1;refine⟨b,d7 x1,?_⟩;cases b with
  |false=>exact dP (hb h o1 H1 δ σ S1 R Q (he.mono e1) s1 (by simpa using d1) (c.pre e1))
  |true=>exact dR (c o1 H1 S1 _ _ e1 s1 (xB true) (by simpa using d1))
theorem Ae(ha:RE ta da):RE (sK ta) (gR da):=fun h o H δ σ S R Q he hs q c=>
 ha h o H δ σ S _ _ he hs q fun o1 H1 S1 x v e1 s1 x1 d1=>by
  replace d1:=hG d1;obtain⟨b,rfl,d1⟩:=d1;exact⟨b,d7 x1,c o1 H1 S1 _ _ e1 s1 (xB _) d1⟩
def fF(rd p:D2)(a b e:DE):DE:=fun δ S R=>a δ S fun x S1=>b δ S1 fun y S2=>rd x y S2 fun z S3=>asB z fun k=>if k=true then e δ S3 fun u S4=>p y u S4 R else R (.d (.bool false)) S3
theorem CM{r r':R2}{rd p:D2}(hr:RO r rd)(aa:RO r' p)(ha:RE ta da)(hb:RE tb db)(hc:RE tc dc):RE (xX r r' ta tb tc) (fF rd p da db dc):=fun h o H δ σ S R Q he hs q c=>
 ha h o H δ σ S _ _ he hs q fun o1 H1 S1 x v e1 s1 x1 d1=>hb h o1 H1 δ σ S1 _ _ (he.mono e1) s1 d1 fun o2 H2 S2 y u e2 s2 y2 d2=>
  hr h o2 H2 S2 x y v u _ _ s2 (x1.mono e2) y2 d2 fun o3 H3 S3 z w e3 s3 z3 d3=>by
   replace d3:=hG d3;obtain⟨b,rfl,d3⟩:=d3;refine⟨b,d7 z3,?_⟩;cases b with
   |false=>exact dP (c o3 H3 S3 _ _ ((e1.trans e2).trans e3) s3 (xB false) (by simpa using d3))
   |true=>exact dR (hc h o3 H3 δ σ S3 _ _ (((he.mono e1).mono e2).mono e3) s3 (by simpa using d3) fun o4 H4 S4 k w' e4 s4 k4 d4=>aa h o4 H4 S4 y k u w' R Q s4 ((y2.mono e3).mono e4) k4 d4 (c.pre (((e1.trans e2).trans e3).trans e4)))
end
def dI(C:Int->Int->Prop)(g:Int->Int->Int):D2:=fun x y S R=>asI x fun i=>asI y fun j=>C i j/\R (.d (.int (g i j))) S
def dI0(g:Int->Int->Int):D2:=fun x y S R=>asI x fun i=>asI y fun j=>R (.d (.int (g i j))) S
def dIb(g:Int->Int->Bool):D2:=fun x y S R=>asI x fun i=>asI y fun j=>R (.d (.bool (g i j))) S
def dUI(g:Int->Int):XV->Sto->RX->Prop:=fun x S R=>asI x fun i=>R (.d (.int (g i))) S
def bP:D2:=fun x y S R=>∃d,aV S x=some d/\∃e,aV S y=some e/\cg d=true/\cg e=true/\R (.d (.bool (iw d e))) S
def eZ:D2:=fun x y S R=>∃d,aV S x=some d/\∃e,aV S y=some e/\cg d=true/\cg e=true/\R (.d (.bool (!PyData.eqv d e))) S
def iZ:D2:=fun x _ S R=>asD x fun d=>R (.d (.bool (eT d))) S
def fP:D2:=fun x _ S R=>asD x fun d=>R (.d (.bool (!eT d))) S
def D8:D2:=fun x y S R=>asT x fun ds=>asI y fun i=>∃d,atI ds i=some d/\R (.d d) S
def BJ:D2:=fun x y S R=>asL S x fun ds=>asI y fun i=>∃d,atI ds i=some d/\R (.d d) S
def EW:D2:=fun x y S R=>asL S x fun ds=>asL S y fun es=>ds.length+es.length<=1000/\R (.d (.list (ds++es))) S
def C1:D2:=fun x y S R=>asT x fun ds=>asT y fun es=>ds≠[]/\ds.length+es.length<=1000/\R (.d (.tuple (ds++es))) S
section
theorem m8{C:Int->Int->Prop}{g:Int->Int->Int}:RO (rI C fun i j=>.int (g i j)) (dI C g):=fun h o H S x y v u R Q hs hx hy q c=>by
 replace q:=aQ q;obtain⟨i,rfl,q⟩:=q;replace q:=aQ q;obtain⟨j,rfl,hc,q⟩:=q;exact⟨i,j,aP hx,aP hy,hc,c o H S _ _ Ex.refl hs (xI _) q⟩
theorem yM{g:Int->Int->Int}:RO (rI0 fun i j=>.int (g i j)) (dI0 g):=fun h o H S x y v u R Q hs hx hy q c=>by
 replace q:=aQ q;obtain⟨i,rfl,q⟩:=q;replace q:=aQ q;obtain⟨j,rfl,q⟩:=q;exact⟨i,j,aP hx,aP hy,c o H S _ _ Ex.refl hs (xI _) q⟩
theorem Cj{g:Int->Int->Bool}:RO (rI0 fun i j=>.bl (g i j)) (dIb g):=fun h o H S x y v u R Q hs hx hy q c=>by
 replace q:=aQ q;obtain⟨i,rfl,q⟩:=q;replace q:=aQ q;obtain⟨j,rfl,q⟩:=q;exact⟨i,j,aP hx,aP hy,c o H S _ _ Ex.refl hs (xB _) q⟩
theorem qC{g:Int->Int}:RU (rU fun i=>.int (g i)) (dUI g):=fun h o H S x v R Q hs hx q c=>by
 replace q:=aQ q;obtain⟨i,rfl,q⟩:=q;exact⟨i,aP hx,c o H S _ _ Ex.refl hs (xI _) q⟩
theorem oG:RO uS bP:=fun h o H S x y v u R Q hs hx hy q c=>by
 obtain⟨d,q1,e,q2,q3,q4,q⟩:=q;exact⟨d,e,eC hs q1 hx,eC hs q2 hy,q3,q4,c o H S _ _ Ex.refl hs (xB _) q⟩
theorem B7:RO vW eZ:=fun h o H S x y v u R Q hs hx hy q c=>by
 obtain⟨d,q1,e,q2,q3,q4,q⟩:=q;exact⟨d,e,eC hs q1 hx,eC hs q2 hy,q3,q4,c o H S _ _ Ex.refl hs (xB _) q⟩
theorem Fj{ta:TE}{da:DE}(ha:RE ta da):RE (tOp sO ta (tC .non)) (dOp fP da (dC .none)):=fun h o H δ σ S R Q he hs q c=>
 ha h o H δ σ S _ _ he hs q fun o1 H1 S1 x v e1 s1 x1 d1=>by
  replace d1:=eW d1;obtain⟨d,rfl,d1⟩:=d1;have e:=EC (show Has _ d v from x1);exact⟨rfl,by rw[e];exact c o1 H1 S1 _ _ e1 s1 (xB _) d1⟩
theorem HasL.atI{H:Hp}{ds:List av}{vs:List V}{i:Int}{d:av}(l:HasL H ds vs)(e:L2.atI ds i=some d):∃v,L2.atI vs i=some v/\Has H d v:=by
 unfold L2.atI at e ⊢;rw[l.length];cases hn:ixN ds.length i with
 |none=>rw[hn]at e;cases e
 |some j=>
  rw[hn]at e;exact l.get (show ds[j]?=some d from e)
theorem BE{K:bf}:RO (pC K) D8:=fun h o H S x y v u R Q hs hx hy q c=>by
 replace q:=gW q;obtain⟨ds,rfl,q⟩:=q;replace q:=aQ q;obtain⟨i,rfl,d,e,q⟩:=q;obtain⟨a,vs,rfl,ea,l⟩:=dU hx;obtain⟨w,ew,hw⟩:=l.atI e;exact⟨a,vs,i,w,rfl,aP hy,.of ea,ew,c o H S (.d d) w Ex.refl hs hw q⟩
theorem xZ{K:bf}:RO (qB K) BJ:=fun h o H S x y v u R Q hs hx hy q c=>by
 obtain⟨ds,e0,q⟩:=q;replace q:=aQ q;obtain⟨i,rfl,d,e,q⟩:=q;obtain⟨a,vs,rfl,ea,l⟩:=bL hs e0 hx;obtain⟨w,ew,hw⟩:=l.atI e;exact⟨a,vs,i,w,rfl,aP hy,.of ea,ew,c o H S (.d d) w Ex.refl hs hw q⟩
theorem Bp:RO l7 EW:=fun h o H S x y v u R Q hs hx hy q c=>by
 obtain⟨ds,e0,es,e1,hl,q⟩:=q;obtain⟨a,vs,rfl,ea,la⟩:=bL hs e0 hx;obtain⟨b,us,rfl,eb,lb⟩:=bL hs e1 hy;exact⟨a,b,vs,us,rfl,rfl,ea,eb,by rw[la.length,lb.length];exact gu (small1000 hl),m7 hs (la.append lb) c q⟩
theorem CU{K:bf}:RO (qO K) C1:=fun h o H S x y v u R Q hs hx hy q c=>by
 replace q:=gW q;obtain⟨ds,rfl,q⟩:=q;replace q:=gW q;obtain⟨es,rfl,hn,hl,q⟩:=q;obtain⟨a,vs,rfl,ea,la⟩:=dU hx;obtain⟨b,us,rfl,eb,lb⟩:=dU hy;refine⟨a,b,vs,us,rfl,rfl,.of ea,.of eb,fun z=>?_,by rw[la.length,lb.length];exact gu (small1000 hl),fun z=>?_,fun _=>jN hs (la.append lb) c q⟩
 ·subst z;have:=la.length;exact hn (dq this.symm)
 ·subst z;have e:es=[]:=dq lb.length.symm;subst e;rw[fy]at q;exact c o H S (.d (.tuple ds)) _ Ex.refl hs hx q
end
abbrev DO:=XE->Sto->(Option Int->Sto->Prop)->Prop
def RP(t:TO)(dt:DO):Prop:=∀(h o:List Addr) (H:Hp) (δ:XE) (σ:St) (S:Sto) (R:Option Int->Sto->Prop) (Q:Option Int->Hp->Prop),RepE h o H δ σ->RepS h o H S->dt δ S R ->
 (∀o' H' S' b,Ex o H o' H'->RepS h o' H' S'->R b S'->Q b H')->t σ H Q
def fA:DO:=fun _ S R=>R none S
def eY(a:DE):DO:=fun δ S R=>a δ S fun x S1=>asI x fun i=>R (some i) S1
theorem Dt:RP wN fA:=fun h o H δ σ S R Q he hs q c=>c o H S none Ex.refl hs q
theorem FH{t:TE}{da:DE}(ha:RE t da):RP (iD t) (eY da):=fun h o H δ σ S R Q he hs q c=>
 ha h o H δ σ S _ _ he hs q fun o1 H1 S1 x v e1 s1 x1 d1=>by
  replace d1:=aQ d1;obtain⟨i,rfl,d1⟩:=d1;exact⟨i,aP x1,c o1 H1 S1 _ e1 s1 d1⟩
abbrev D3:=XV->Option Int->Option Int->Sto->RX->Prop
def RL(r:V->Option Int->Option Int->Hp->VK->Prop)(rd:D3):Prop:=∀(h o:List Addr) (H:Hp) (S:Sto) (x:XV) (v:V) (a b:Option Int) (R:RX) (Q:VK),RepS h o H S->HasX h o H x v->rd x a b S R->Cn h o H R Q->r v a b H Q
def dSl(rd:D3)(e:DE)(a b:DO):DE:=fun δ S R=>e δ S fun x S1=>a δ S1 fun i S2=>b δ S2 fun j S3=>rd x i j S3 R
theorem Cm{r:V->Option Int->Option Int->Hp->VK->Prop}{rd:D3}{te:TE}{de:DE}{ta tb:TO}{da db:DO}(hr:RL r rd)(p:RE te de)(ha:RP ta da)(hb:RP tb db):RE (tSl r te ta tb) (dSl rd de da db):=fun h o H δ σ S R Q he hs q c=>
 p h o H δ σ S _ _ he hs q fun o1 H1 S1 x v e1 s1 x1 d1=>ha h o1 H1 δ σ S1 _ _ (he.mono e1) s1 d1 fun o2 H2 S2 i e2 s2 d2=>hb h o2 H2 δ σ S2 _ _ ((he.mono e1).mono e2) s2 d2 fun o3 H3 S3 j e3 s3 d3=>
  hr h o3 H3 S3 x v i j R Q s3 ((x1.mono e2).mono e3) d3 (c.pre ((e1.trans e2).trans e3))
def Bw:D3:=fun x i j S R=>asL S x fun ds=>R (.d (.list (cY ds i j))) S
def De:D3:=fun x i j S R=>asT x fun ds=>¬(HT.sIx ds.length 0 i=0/\HT.sIx ds.length ds.length j=ds.length)/\R (.d (.tuple (cY ds i j))) S
theorem AO{K:bf}:RL (jR K) Bw:=fun h o H S x v a b R Q hs hx q c=>by
 obtain⟨ds,e0,q⟩:=q;obtain⟨p,vs,rfl,ea,l⟩:=bL hs e0 hx;exact⟨p,vs,rfl,.of ea,m7 hs (l.cut a b) c q⟩
theorem Ej{K:bf}:RL (rO K) De:=fun h o H S x v a b R Q hs hx q c=>by
 replace q:=gW q;obtain⟨ds,rfl,hn,q⟩:=q;obtain⟨p,vs,rfl,ea,l⟩:=dU hx;exact⟨p,vs,rfl,.of ea,by rw[l.length];exact hn,jN hs (l.cut a b) c q⟩
def asQ(S:Sto):XV->Option (List av)
 | .d (.tuple ds)=>some ds
 | .d (.list ds)=>some ds
 | .l k=>S[k]?
 |_=>none
theorem oN{h o:List Addr}{H:Hp}{S:Sto}{x:XV}{v:V}{ds:List av}(r:RepS h o H S)(e:asQ S x=some ds)(q:HasX h o H x v):∃a vs,v=.ref a/\(H a=some (.tup vs)\/H a=some (.lst vs))/\HasL (vx h o H) ds vs:=by
 unfold asQ at e;split at e
 ·cases e;obtain⟨a,vs,e,q,l⟩:=dU q;exact⟨a,vs,e,.inl q,l⟩
 ·cases e;obtain⟨a,vs,e,q,l⟩:=bL (x:=.d (.list ds)) (ds:=ds) r rfl q;exact⟨a,vs,e,.inr q,l⟩
 ·rename_i k;obtain⟨a,vs,e,q,l⟩:=bL (x:=.l k) r e q;exact⟨a,vs,e,.inr q,l⟩
 ·cases e
def arg1:List XV->(XV->Prop)->Prop
 | [x],k=>k x
 |_,_=>False
def arg2:List XV->(XV->XV->Prop)->Prop
 | [x,y],k=>k x y
 |_,_=>False
theorem b8{xs:List XV}{k:XV->Prop}(h:arg1 xs k):∃x,xs=[x]/\k x:=by
 unfold arg1 at h;split at h
 ·exact⟨_,rfl,h⟩
 ·exact h.elim
theorem xP{xs:List XV}{k:XV->XV->Prop}(h:arg2 xs k):∃x y,xs=[x,y]/\k x y:=by
 unfold arg2 at h;split at h
 ·exact⟨_,_,rfl,h⟩
 ·exact h.elim
theorem hxs1{h o:List Addr}{H:Hp}{x:XV}{vs:List V}(q:HasXs h o H [x] vs):∃v,vs=[v]/\HasX h o H x v:=by
 obtain⟨v,r,e,hx,hr⟩:=q;cases hr;exact⟨v,e,hx⟩
theorem hxs2{h o:List Addr}{H:Hp}{x y:XV}{vs:List V}(q:HasXs h o H [x,y] vs):∃v u,vs=[v,u]/\HasX h o H x v/\HasX h o H y u:=by
 obtain⟨v,r,e,hx,q⟩:=q;obtain⟨u,e',hy⟩:=hxs1 q;subst e';exact⟨v,u,e,hx,hy⟩
def qJ:XV->(String->Prop)->Prop
 | .o v,k=>∃c,v=.ty c/\k c
 |_,_=>False
def pB:XV->(Int->Prop)->Prop
 | .d d,k=>match d with
  | .int i=>k i
  | .bool b=>k (if b then 1 else 0)
  |_=>False
 |_,_=>False
theorem Fn{x:XV}{k:String->Prop}(h:qJ x k):∃c,x=.o (.ty c)/\k c:=by
 cases x with
 |o v=>
  obtain⟨c,rfl,h⟩:=h;exact⟨c,rfl,h⟩
 |d d=>exact h.elim
 |l j=>exact h.elim
 |x _ _=>exact h.elim
 |p _ _=>exact h.elim
theorem DF{x:XV}{k:Int->Prop}(h:pB x k):(∃i,x=.d (.int i)/\k i)\/∃b,x=.d (.bool b)/\k (if b then 1 else 0):=by
 cases x with
 |d d=>
  cases d with
  |int i=>exact .inl ⟨i,rfl,h⟩
  |bool b=>exact .inr ⟨b,rfl,h⟩
  |_=>exact h.elim
 |_=>exact h.elim
def Am:List XV->Sto->RX->Prop:=fun xs S R=>arg1 xs fun x=>∃ds,asQ S x=some ds/\R (.d (.int ds.length)) S
theorem oH{K:bf}:RC (rX K) Am:=fun h o H S xs vs R Q hs hx q c=>by
 obtain⟨x,rfl,ds,hd,q1⟩:=b8 q;obtain⟨v,rfl,p⟩:=hxs1 hx;obtain⟨a,ws,rfl,ea,l⟩:=oN hs hd p;refine⟨a,ws,rfl,ea.elim (fun z=>.inr (.of z)) (fun z=>.inl (.of z)),?_⟩;rw[l.length];exact c o H S _ _ Ex.refl hs (xI _) q1
def dW:List XV->Sto->RX->Prop:=fun xs S R=>arg2 xs fun x y=>qJ y fun cl=>∃d,aV S x=some d/\cl∈eA/\R (.d (.bool (fS d cl))) S
theorem Bk:RC pF dW:=fun h o H S xs vs R Q hs hx q c=>by
 obtain⟨x,y,rfl,q1⟩:=xP q;obtain⟨cl,rfl,d,hd,hc,q2⟩:=Fn q1;obtain⟨v,u,rfl,p,hu⟩:=hxs2 hx;cases hu;exact D7 (eC hs hd p) hc (c o H S _ _ Ex.refl hs (xB _) q2)
def fH:List XV->Sto->RX->Prop:=fun xs S R=>arg1 xs fun x=>asI x fun i=>R (.d (.int (if i<0 then -i else i))) S
theorem C5:RC (fun xs H Q=>∃i,xs=[.int i]/\Q (.int (if i<0 then -i else i)) H) fH:=fun h o H S xs vs R Q hs hx q c=>by
 obtain⟨x,rfl,q1⟩:=b8 q;obtain⟨v,rfl,p⟩:=hxs1 hx;obtain⟨i,rfl,q2⟩:=aQ q1;exact⟨i,by rw[aP p],c o H S _ _ Ex.refl hs (xI _) q2⟩
def fI:List XV->Sto->RX->Prop:=fun xs S R=>arg1 xs fun x=>pB x fun i=>R (.d (.int i)) S
theorem F7:RC (fun xs H Q=>(∃i,xs=[.int i]/\Q (.int i) H)\/∃k,xs=[.bl k]/\Q (.int (if k then 1 else 0)) H) fI:=fun h o H S xs vs R Q hs hx q c=>by
 obtain⟨x,rfl,q1⟩:=b8 q;obtain⟨v,rfl,p⟩:=hxs1 hx;rcases DF q1 with ⟨i,rfl,q2⟩|⟨b,rfl,q2⟩
 ·exact .inl ⟨_,by rw[aP p],c o H S _ _ Ex.refl hs (xI _) q2⟩
 ·exact .inr ⟨_,by rw[d7 p],c o H S _ _ Ex.refl hs (xI _) q2⟩
def dI2(g:Int->Int->Int):List XV->Sto->RX->Prop:=fun xs S R=>arg2 xs fun x y=>asI x fun i=>asI y fun j=>R (.d (.int (g i j))) S
theorem BK{g:Int->Int->Int}:RC (fun xs H Q=>∃i j,xs=[.int i,.int j]/\Q (.int (g i j)) H) (dI2 g):=fun h o H S xs vs R Q hs hx q c=>by
 obtain⟨x,y,rfl,q1⟩:=xP q;obtain⟨v,u,rfl,p,hu⟩:=hxs2 hx;obtain⟨i,rfl,q2⟩:=aQ q1;obtain⟨j,rfl,q3⟩:=aQ q2;exact⟨i,j,by rw[aP p,aP hu],c o H S _ _ Ex.refl hs (xI _) q3⟩
def f9:List XV->Sto->RX->Prop:=fun xs S R=>arg1 xs fun x=>∃ds,asQ S x=some ds/\R (.d (.tuple ds)) S
theorem uL{K:bf}:RC (fun xs H Q=>∃p ys,xs=[.ref p]/\((SqL K H p ys/\∀l,H l=none->Q (.ref l) (upd H l (.tup ys)))\/(SqT K H p ys/\Q (.ref p) H))) f9:=fun h o H S xs vs R Q hs hx q c=>by
 obtain⟨x,rfl,ds,hd,q1⟩:=b8 q;obtain⟨v,rfl,y⟩:=hxs1 hx;obtain⟨a,ws,rfl,ea,l⟩:=oN hs hd y;refine⟨a,ws,rfl,ea.elim (fun z=>.inr ⟨.of z,?_⟩) (fun z=>.inl ⟨.of z,jN hs l c q1⟩)⟩;have hh:HasX h o H (.d (.tuple ds)) (.ref a):=by
  unfold asQ at hd;split at hd
  ·cases hd;exact y
  ·obtain⟨a',us,e1,e2,_⟩:=bL (x:=.d (.list _)) hs rfl y;cases e1;rw[z]at e2;cases e2
  ·rename_i k;obtain⟨a',us,e1,e2,_⟩:=bL (x:=.l k) hs hd y;cases e1;rw[z]at e2;cases e2
  ·cases hd
 exact c o H S _ _ Ex.refl hs hh q1
theorem rW{H:Hp}:∀{ns:List Int}{vs:List V},HasL H (ns.map bq) vs->vs=ns.map V.int
 | [],vs,h=>zo.mp h
 |n::ns,vs,h=>by
  obtain⟨v,r,rfl,h1,h2⟩:=zn.mp h;rw[bV.mp h1,rW h2];rfl
def rF:List XV->Sto->RX->Prop:=fun xs S R=>arg1 xs fun x=>∃ds,asQ S x=some ds/\∃ns,ds=ns.map bq/\ns≠[]/\∀m,m∈ns->(∀a,a∈ns->a<=m)->R (.d (.int m)) S
theorem uJ{K:bf}:RC (vO K) rF:=fun h o H S xs vs R Q hs hx q c=>by
 obtain⟨x,rfl,ds,hd,ns,rfl,hn,q1⟩:=b8 q;obtain⟨v,rfl,p⟩:=hxs1 hx;obtain⟨a,ws,rfl,ea,l⟩:=oN hs hd p;rw[rW l]at ea;exact⟨a,ns,rfl,ea.elim (fun z=>.inr (.of z)) (fun z=>.inl (.of z)),hn,fun m m1 m2=>c o H S _ _ Ex.refl hs (xI _) (q1 m m1 m2)⟩
def dBM(rd:XV->List XV->Sto->RX->Prop)(e:DE)(a:DA):DE:=fun δ S R=>e δ S fun x S1=>∃k,x=.l k/\k<S1.length/\a δ S1 fun xs S2=>rd x xs S2 R
def iN(rd:XV->List XV->Sto->RX->Prop)(e:DE):DE:=fun δ S R=>e δ S fun x S1=>∃k,x=.l k/\k<S1.length/\rd x [] S1 R
def RM(r:V->List V->Hp->VK->Prop)(rd:XV->List XV->Sto->RX->Prop):Prop:=∀(h o:List Addr) (H:Hp) (S:Sto) (x:XV) (v:V) (xs:List XV) (vs:List V) (R:RX) (Q:VK),RepS h o H S->HasX h o H x v->HasXs h o H xs vs->rd x xs S R->Cn h o H R Q->r v vs H Q
theorem B1{K:bf}{H:Hp}{a:Addr}{vs:List V}(e:H a=some (.lst vs)):tyV K "list" (.ref a) H:=.inl ⟨rfl,vs,.of e⟩
theorem BC{h o:List Addr}{H:Hp}{S:Sto}{k:Nat}{v:V}(hs:RepS h o H S)(hk:k<S.length)(hx:HasX h o H (.l k) v):∃a vs,v=.ref a/\H a=some (.lst vs):=by
 obtain⟨a,e,rfl⟩:=hx;obtain⟨vs,e2,_⟩:=hs.cont k a _ e (bg hk);exact⟨a,vs,rfl,e2⟩
theorem E3{K:bf}{r:V->List V->Hp->VK->Prop}{rd:XV->List XV->Sto->RX->Prop}{te:TE}{de:DE}{tl:TA}{dl:DA}(hr:RM r rd)(p:RE te de)(ha:RA tl dl):RE (tBM K "list" r te tl) (dBM rd de dl):=fun h o H δ σ S R Q he hs q c=>
 p h o H δ σ S _ _ he hs q fun o1 H1 S1 x v e1 s1 x1 ⟨k,ek,hk,d1⟩=>by
  subst ek;obtain⟨a,ws,rfl,ea⟩:=BC s1 hk x1;exact⟨B1 ea,ha h o1 H1 δ σ S1 _ _ (he.mono e1) s1 d1 fun o2 H2 S2 xs vs e2 s2 x2 d2=>hr h o2 H2 S2 (.l k) _ xs vs R Q s2 (x1.mono e2) x2 d2 (c.pre (e1.trans e2))⟩
def cP:XV->List XV->Sto->RX->Prop:=fun x xs S R=>∃k,x=.l k/\∃ds,S[k]?=some ds/\arg1 xs fun y=>asD y fun d=>ds.length<1000/\R (.d .none) (S.set k (ds++[d]))
theorem Db:RM y9 cP:=fun h o H S x v xs vs R Q hs hx p q c=>by
 obtain⟨k,rfl,ds,e,q1⟩:=q;obtain⟨y,rfl,q2⟩:=b8 q1;obtain⟨d,rfl,hl,q3⟩:=eW q2;obtain⟨a,ea,rfl⟩:=hx;obtain⟨u,rfl,hu⟩:=hxs1 p;obtain⟨ws,ew,l⟩:=hs.cont k a ds ea e;exact⟨a,ws,u,rfl,rfl,ew,by rw[l.length];exact small1000 (gu hl),c o _ _ (.d .none) _ (Ex.upd ea) (hs.upd ea (l.append (zn.mpr ⟨u,[],rfl,hu,zo.mpr rfl⟩))) xN q3⟩
def iO:XV->List XV->Sto->RX->Prop:=fun x xs S R=>∃k,x=.l k/\∃ds,S[k]?=some ds/\arg1 xs fun y=>∃es,cV S y=some es/\ds.length+es.length<=1000/\R (.d .none) (S.set k (ds++es))
def ret0(S:Sto)(R:RX):RX:=fun y S'=>match y,S' with
 | .d d,[]=>R (.d d) S
 | .l 0,[ds]=>R (.l S.length) (S++[ds])
 |_,_=>False
def nW(k:Nat)(S:Sto)(R:RX):RX:=fun y S'=>match y,S' with
 | .d d,[p]=>R (.d d) (S.set k p)
 | .l 1,[p,ds]=>R (.l S.length) (S.set k p++[ds])
 |_,_=>False
section
variable {h o:List Addr}{H:Hp}{S:Sto}{R:RX}{Q:VK}
theorem gG{h o h' o':List Addr}{H:Hp}(e:∀b,(b∈h'\/b∈o')↔(b∈h\/b∈o)):vx h' o' H=vx h o H:=by
 funext b;have p:∀u,vx h' o' H b=some u↔vx h o H b=some u:=fun u=>by
  rw[zr,zr];have:=e b;constructor
  ·rintro⟨a1,a2,a3⟩;exact⟨fun m=>(this.mpr (.inl m)).elim a1 a2,fun m=>(this.mpr (.inr m)).elim a1 a2,a3⟩
  ·rintro⟨a1,a2,a3⟩;exact⟨fun m=>(this.mp (.inl m)).elim a1 a2,fun m=>(this.mp (.inr m)).elim a1 a2,a3⟩
 cases e1:vx h' o' H b with
 |some u=>exact((p u).mp e1).symm
 |none=>
  cases e2:vx h o H b with
  |none=>rfl
  |some u=>rw[(p u).mpr e2]at e1;cases e1
theorem rep0(hs:RepS h o H S):RepS (h++o) [] H [] where
 len:=rfl
 nd:=gn
 dis:=fun a ha=>by cases ha
 hal:=fun b hb=>(mem_append.mp hb).elim (hs.hal b) (hs.oam b)
 cont:=fun k a ds e=>by simp at e
theorem hx0{d:av}{v:V}(hx:HasX h o H (.d d) v):HasX (h++o) [] H (.d d) v:=by
 show Has (vx (h++o) [] H) d v;rw[gG (h:=h) (o:=o) fun b=>by simp];exact hx
theorem hx0'{d:av}{v:V}(hx:HasX (h++o) [] H (.d d) v):HasX h o H (.d d) v:=by
 show Has (vx h o H) d v;rw[<- gG (h':=h++o) (o':=[]) (h:=h) (o:=o) fun b=>by simp];exact hx
theorem cn0(hs:RepS h o H S)(c:Cn h o H R Q):Cn (h++o) [] H (ret0 S R) Q:=fun o' H' S' y v e s' hy q=>by
 have sm:Same H (vx [] o' H'):=fun b u eb=>by
  obtain⟨a1,a2⟩:=e.kp b u yv eb;exact zr.mpr ⟨yv,a1,a2⟩
 have sH:Same H H':=fun b u eb=>(zr.mp (sm b u eb)).2.2;unfold ret0 at q;split at q
 ·have e0:o'=[]:=dq s'.len.symm;subst e0;exact c o H' S _ v (Ex.of_same sH) (hs.same sH) (hx0' hy) q
 ·rename_i ds;obtain⟨a,rfl⟩:∃a,o'=[a]:=List.length_eq_one_iff.mp s'.len.symm;obtain⟨a',ea,rfl⟩:=hy;cases ea;obtain⟨vs,ev,l⟩:=s'.cont 0 a ds rfl rfl;have na:a∉h++o:=s'.dis a yv;have hn:H a=none:=by
   cases eh:H a with
   |none=>rfl
   |some u=>exact absurd (e.kp a u yv eh).1 yv
  have e2:Ex o H (o++[a]) H':=⟨⟨[a],rfl⟩,fun b u hb eb=>by
   obtain⟨a1,a2⟩:=e.kp b u yv eb;exact⟨by simp only[mem_append,not_or];exact⟨hb,a1⟩,a2⟩⟩
  have z:vx (h++o) [a] H'=vx h (o++[a]) H':=gG fun b=>by simp[or_assoc]
  rw[z]at l;refine c (o++[a]) H' (S++[ds]) (.l S.length) _ e2 ⟨by simp[hs.len],hZ hs.nd fun m=>na (bd _ m),fun b hb=>?_,fun b hb=>?_,fun k b es q1 q2=>?_⟩ ⟨a,by rw[hs.len,bi],rfl⟩ q
  ·rcases mem_append.mp hb with hb|hb
   ·exact hs.dis b hb
   ·rw[mem_singleton.mp hb];exact fun m=>na (ba _ m)
  ·obtain⟨u,eb⟩:=hs.hal b hb;exact⟨u,sH b _ eb⟩
  ·by_cases hk:k<o.length
   ·rw[cn hk]at q1;rw[cn (by rw[hs.len];exact hk)]at q2;obtain⟨ws,e3,l3⟩:=hs.cont k b es q1 q2;exact⟨ws,sH _ _ e3,l3.mono e2.vx⟩
   ·have p:k=o.length:=by
     obtain⟨q,_⟩:=List.getElem?_eq_some_iff.mp q1;rw[bx,fe]at q;omega
    subst p;rw[bi]at q1;rw[<- hs.len,bi]at q2;cases q1;cases q2;exact⟨vs,ev,l⟩
 ·exact q.elim
theorem mP{k:Nat}{a:Addr}{p:List av}(hs:RepS h o H S)(ea:o[k]?=some a)(ep:S[k]?=some p):RepS (h++o.filter (fun b=>b≠a)) [a] H [p] where
 len:=rfl
 nd:=by simp
 dis:=fun b hb=>by
  rw[mem_singleton.mp hb];intro m;rcases mem_append.mp m with m|m
  ·exact hs.dis a (cf ea) m
  ·have:=(mem_filter.mp m).2;simp at this
 hal:=fun b hb=>(mem_append.mp hb).elim (hs.hal b) fun m=>hs.oam b (mem_filter.mp m).1
 cont:=fun j b ds e1 e2=>by
  cases j with
  |succ j=>simp at e1
  |zero=>
   cases e1;cases e2;obtain⟨vs,e3,l⟩:=hs.cont k a p ea ep;refine⟨vs,e3,?_⟩;rw[gG (h:=h) (o:=o) (mem_pen ea)];exact l
where
 mem_pen {h o:List Addr}{k:Nat}{a:Addr} (ea:o[k]?=some a) (b:Addr):(b∈h++o.filter (fun b=>b≠a)\/b∈[a])↔(b∈h\/b∈o):=by
  have ma:=cf ea;by_cases e:b=a
  ·subst e;simp[ma]
  ·simp[e]
theorem hxP{k:Nat}{a:Addr}{d:av}{v:V}(ea:o[k]?=some a)(hx:HasX h o H (.d d) v):HasX (h++o.filter (fun b=>b≠a)) [a] H (.d d) v:=by
 show Has (vx _ _ H) d v;rw[gG (h:=h) (o:=o) (mP.mem_pen ea)];exact hx
theorem cnP{k:Nat}{a:Addr}{p:List av}(hs:RepS h o H S)(ea:o[k]?=some a)(ep:S[k]?=some p)(c:Cn h o H R Q):Cn (h++o.filter (fun b=>b≠a)) [a] H (nW k S R) Q:=fun o' H' S' y v e s' hy q=>by
 have ma:=cf ea;have hk:k<o.length:=(List.getElem?_eq_some_iff.mp ea).1;unfold nW at q;split at q
 ·rename_i d p';obtain⟨r,rfl⟩:=e.pre;have er:r=[]:=by
   have:=s'.len;simp at this;exact this
  subst er;have ex:Ex o H o H':=⟨⟨[],yv⟩,fun b u hb eb=>⟨hb,(e.kp b u (fun m=>hb (by rw[mem_singleton.mp m];exact ma)) eb).2⟩⟩;obtain⟨vs,ev,l⟩:=s'.cont 0 a p' rfl rfl;have aa:vx (h++o.filter (fun b=>b≠a)) ([a]++[]) H'=vx h o H':=gG (mP.mem_pen ea);rw[aa]at l;refine c o H' (S.set k p') (.d d) v ex ⟨by simp[hs.len],hs.nd,hs.dis,fun b hb=>?_,fun j b es q1 q2=>?_⟩ (by
   have ab:Has (vx (h++o.filter (fun b=>b≠a)) ([a]++[]) H') d v:=hy;rw[aa]at ab;exact ab) q
  ·obtain⟨u,eb⟩:=hs.hal b hb;exact⟨u,(e.kp b _ (fun m=>hs.dis a ma (by rw[<- mem_singleton.mp m];exact hb)) eb).2⟩
  ·by_cases hj:j=k
   ·subst hj;rw[q1]at ea;cases ea;rw[jj (by rw[hs.len];exact hk)]at q2;cases q2;exact⟨vs,ev,l⟩
   ·rw[ke (fw hj)]at q2;obtain⟨ws,e3,l3⟩:=hs.cont j b es q1 q2;have ne:b≠a:=fun z=>hj (lT hs.nd q1 (z▸ea));exact⟨ws,(e.kp b _ (by simp[ne]) e3).2,l3.mono ex.vx⟩
 ·rename_i p' ds;obtain⟨r,rfl⟩:=e.pre;obtain⟨a2,rfl⟩:∃a2,r=[a2]:=by
   have:=s'.len;simp at this;exact List.length_eq_one_iff.mp this
  obtain⟨b2,af,rfl⟩:=hy;cases af;obtain⟨vs,ev,l⟩:=s'.cont 0 a p' rfl rfl;obtain⟨ae,ac,l2⟩:=s'.cont 1 a2 ds rfl rfl;have n2:a2∉h++o.filter (fun b=>b≠a):=s'.dis a2 yv;have n3:a≠a2:=by
   have:=s'.nd;simp at this;exact this
  have n4:a2∉o:=fun m=>n2 (bd _ (mem_filter.mpr ⟨m,by simp[fw n3]⟩));have ex:Ex o H (o++[a2]) H':=⟨⟨[a2],rfl⟩,fun b u hb eb=>by
   obtain⟨z1,z2⟩:=e.kp b u (fun m=>hb (by rw[mem_singleton.mp m];exact ma)) eb;refine⟨?_,z2⟩;simp only[mem_append,not_or];exact⟨hb,fun m=>z1 (by simp at m ⊢;exact .inr m)⟩⟩
  have aa:vx (h++o.filter (fun b=>b≠a)) ([a]++[a2]) H'=vx h (o++[a2]) H':=gG fun b=>by
   have:=mP.mem_pen (h:=h) ea b;simp only[mem_append]at this ⊢;rw[<- or_assoc,this,or_assoc]
  rw[aa]at l l2;refine c (o++[a2]) H' (S.set k p'++[ds]) (.l S.length) _ ex ⟨by simp[hs.len],hZ hs.nd n4,fun b hb=>?_,fun b hb=>?_,fun j b es q1 q2=>?_⟩ ⟨a2,by rw[hs.len,bi],rfl⟩ q
  ·rcases mem_append.mp hb with hb|hb
   ·exact hs.dis b hb
   ·rw[mem_singleton.mp hb];exact fun m=>n2 (ba _ m)
  ·obtain⟨u,eb⟩:=hs.hal b hb;exact⟨u,(e.kp b _ (fun m=>hs.dis a ma (by rw[<- mem_singleton.mp m];exact hb)) eb).2⟩
  ·by_cases hjo:j<o.length
   ·rw[cn hjo]at q1;rw[cn (by rw[length_set,hs.len];exact hjo)]at q2;by_cases hj:j=k
    ·subst hj;rw[q1]at ea;cases ea;rw[jj (by rw[hs.len];exact hk)]at q2;cases q2;exact⟨vs,ev,l⟩
    ·rw[ke (fw hj)]at q2;obtain⟨ws,e3,l3⟩:=hs.cont j b es q1 q2;have ne:b≠a:=fun z=>hj (lT hs.nd q1 (z▸ea));exact⟨ws,(e.kp b _ (by simp[ne]) e3).2,l3.mono ex.vx⟩
   ·have ag:j=o.length:=by
     obtain⟨q,_⟩:=List.getElem?_eq_some_iff.mp q1;rw[bx,fe]at q;omega
    subst ag;rw[bi]at q1;rw[<- hs.len,<- length_set (i:=k) (a:=p'),bi]at q2;cases q1;cases q2;exact⟨ae,ac,l2⟩
 ·exact q.elim
end
structure DEnds where
 nx:XE->Sto->Prop
 rt:RX
 bk:XE->Sto->Prop:=fun _ _=>False
 ct:XE->Sto->Prop:=fun _ _=>False
abbrev DS:=DEnds->XE->Sto->Prop
abbrev DG:=XV->XE->Sto->(XE->Sto->Prop)->Prop
abbrev DGs:=List av->XE->Sto->(XE->Sto->Prop)->Prop
def Nx(h o:List Addr)(H:Hp)(N:XE->Sto->Prop)(M:St->Hp->Prop):Prop:=∀o' H' δ' S' σ',Ex o H o' H'->RepE h o' H' δ' σ'->RepS h o' H' S'->N δ' S'->M σ' H'
theorem Nx.pre{h o o':List Addr}{H H':Hp}{N:XE->Sto->Prop}{M:St->Hp->Prop}(c:Nx h o H N M)(e:Ex o H o' H'):Nx h o' H' N M:=fun o2 H2 δ2 S2 σ2 e2=>c o2 H2 δ2 S2 σ2 (e.trans e2)
structure EOk(h o:List Addr)(H:Hp)(E:DEnds)(D:Ends):Prop where
 nx:Nx h o H E.nx D.nx
 rt:Cn h o H E.rt D.rt
 bk:Nx h o H E.bk D.bk
 ct:Nx h o H E.ct D.ct
theorem EOk.pre{h o o':List Addr}{H H':Hp}{E:DEnds}{D:Ends}(c:EOk h o H E D)(e:Ex o H o' H'):EOk h o' H' E D:=⟨c.nx.pre e,c.rt.pre e,c.bk.pre e,c.ct.pre e⟩
def RS(t:TS)(dt:DS):Prop:=∀(h o:List Addr) (H:Hp) (δ:XE) (σ:St) (S:Sto) (E:DEnds) (D:Ends),RepE h o H δ σ->RepS h o H S->dt E δ S->EOk h o H E D->t D σ H
def RG(t:TG)(dt:DG):Prop:=∀(h o:List Addr) (H:Hp) (δ:XE) (σ:St) (S:Sto) (x:XV) (v:V) (N:XE->Sto->Prop) (M:St->Hp->Prop),RepE h o H δ σ->RepS h o H S->HasX h o H x v->dt x δ S N->Nx h o H N M->t v σ H M
def RGs(t:TGs)(dt:DGs):Prop:=∀(h o:List Addr) (H:Hp) (δ:XE) (σ:St) (S:Sto) (ds:List av) (vs:List V) (N:XE->Sto->Prop) (M:St->Hp->Prop),RepE h o H δ σ->RepS h o H S->HasL (vx h o H) ds vs->dt ds δ S N->Nx h o H N M->t vs σ H M
def zm(i:Nat):DG:=fun x δ S N=>N (δ.set i (some x)) S
def bT:DGs:=fun ds δ S N=>ds=[]/\N δ S
def hdD:List av->(av->List av->Prop)->Prop
 |d::es,k=>k d es
 | [],_=>False
theorem Bi{ds:List av}{k:av->List av->Prop}(h:hdD ds k):∃d es,ds=d::es/\k d es:=by
 cases ds with
 |nil=>exact h.elim
 |cons d es=>exact⟨d,es,rfl,h⟩
theorem jC{d:av}{es:List av}{k:av->List av->Prop}:hdD (d::es) k=k d es:=rfl
def aO(g:DG)(r:DGs):DGs:=fun ds δ S N=>hdD ds fun d es=>g (.d d) δ S fun δ' S'=>r es δ' S' N
def cI(n:Nat)(r:DGs):DG:=fun x δ S N=>asT x fun ds=>ds.length=n/\r ds δ S N
def e8(a b:DE):DG:=fun x δ S N=>a δ S fun y S1=>b δ S1 fun z S2=>asD x fun d=>∃k,y=.l k/\∃ds,S2[k]?=some ds/\asI z fun i=>∃j,ixN ds.length i=some j/\N δ (S2.set k (ds.set j d))
theorem zD{i:Nat}:RG (fM i) (zm i):=fun h o H δ σ S x v N M he hs hx q c=>c o H _ S _ Ex.refl (he.set hx) hs q
theorem kT:RGs uH bT:=fun h o H δ σ S ds vs N M he hs l ⟨e,q⟩ c=>by
 subst e;exact⟨zo.mp l,c o H δ S σ Ex.refl he hs q⟩
theorem c8{t:TG}{u:TGs}{g:DG}{r:DGs}(h1:RG t g)(h2:RGs u r):RGs (sB t u) (aO g r):=fun h o H δ σ S ds vs N M he hs l q0 c=>by
 obtain⟨d,es,rfl,q⟩:=Bi q0;obtain⟨v,ws,rfl,hv,l⟩:=zn.mp l;exact⟨v,ws,rfl,h1 h o H δ σ S (.d d) v _ _ he hs hv q fun o1 H1 δ1 S1 σ1 e1 y p q1=>h2 h o1 H1 δ1 σ1 S1 es ws N M y p (l.mono e1.vx) q1 (c.pre e1)⟩
theorem j4{K:bf}{n:Nat}{t:TGs}{r:DGs}(h1:RGs t r):RG (x0 K n t) (cI n r):=fun h o H δ σ S x v N M he hs hx q c=>by
 replace q:=gW q;obtain⟨ds,rfl,hn,q⟩:=q;obtain⟨a,vs,rfl,ea,l⟩:=dU hx;exact⟨a,vs,rfl,.of ea,by rw[l.length];exact hn,h1 h o H δ σ S ds vs N M he hs l q c⟩
theorem HasL.setAt{H:Hp}:∀{ds:List av}{vs:List V}{j:Nat}{d:av}{v:V},HasL H ds vs->Has H d v->HasL H (ds.set j d) (vs.set j v)
 | [],vs,j,d,v,l,_=>by rw[zo.mp l];exact zo.mpr rfl
 |c::ds,vs,0,d,v,l,q=>by
  obtain⟨u,r,rfl,_,l⟩:=zn.mp l;exact zn.mpr ⟨v,r,rfl,q,l⟩
 |c::ds,vs,j+1,d,v,l,q=>by
  obtain⟨u,r,rfl,hu,l⟩:=zn.mp l;exact zn.mpr ⟨u,r.set j v,rfl,hu,HasL.setAt l q⟩
theorem A0{ta tb:TE}{da db:DE}(ha:RE ta da)(hb:RE tb db):RG (vV ta tb w6) (e8 da db):=fun h o H δ σ S x v N M he hs hx q c=>
 ha h o H δ σ S _ _ he hs q fun o1 H1 S1 y u e1 s1 y1 d1=>hb h o1 H1 δ σ S1 _ _ (he.mono e1) s1 d1 fun o2 H2 S2 z w e2 s2 z2 d0=>by
  obtain⟨d,rfl,k,rfl,ds,es,d2⟩:=eW d0;replace d2:=aQ d2;obtain⟨i,rfl,j,ej,d2⟩:=d2;obtain⟨a,ea,rfl⟩:=y1.mono e2;obtain⟨ws,ew,l⟩:=s2.cont k a ds ea es;refine⟨a,ws,i,j,rfl,aP z2,ew,by rw[l.length];exact ej,?_⟩;exact c o2 _ δ _ σ ((e1.trans e2).trans (Ex.upd ea)) (((he.mono e1).mono e2).mono (Ex.upd ea)) (s2.upd ea (l.setAt (hx.mono (e1.trans e2)))) d2
def aJ:DS:=fun E δ S=>E.nx δ S
def aA(t u:DS):DS:=fun E δ S=>t { E with nx:=u E } δ S
def aD(e:DE)(g:DG):DS:=fun E δ S=>e δ S fun x S1=>g x δ S1 E.nx
def cL(e:DE):DS:=fun E δ S=>e δ S fun _ S1=>E.nx δ S1
def aC(e:DE):DS:=fun E δ S=>e δ S E.rt
def aN(c:DT)(t u:DS):DS:=fun E δ S=>c δ S fun b S1=>if b=true then t E δ S1 else u E δ S1
def eX:DS:=fun E δ S=>E.ct δ S
section
variable {t u:TS}{dt du:DS}{te:TE}{de:DE}
theorem gZ:RS pK aJ:=fun h o H δ σ S E D he hs q c=>c.nx o H δ S σ Ex.refl he hs q
theorem wZ:RS u8 eX:=fun h o H δ σ S E D he hs q c=>c.ct o H δ S σ Ex.refl he hs q
theorem aT(ht:RS t dt)(hu:RS u du):RS (bN t u) (aA dt du):=fun h o H δ σ S E D he hs q c=>
 ht h o H δ σ S _ _ he hs q ⟨fun o1 H1 δ1 S1 σ1 e1 y p q1=>hu h o1 H1 δ1 σ1 S1 E D y p q1 (c.pre e1),c.rt,c.bk,c.ct⟩
theorem eR{g:TG}{dg:DG}(p:RE te de)(hg:RG g dg):RS (iB te g) (aD de dg):=fun h o H δ σ S E D he hs q c=>
 p h o H δ σ S _ _ he hs q fun o1 H1 S1 x v e1 s1 x1 d1=>hg h o1 H1 δ σ S1 x v _ _ (he.mono e1) s1 x1 d1 (c.nx.pre e1)
theorem DH(p:RE te de):RS (pT te) (cL de):=fun h o H δ σ S E D he hs q c=>
 p h o H δ σ S _ _ he hs q fun o1 H1 S1 x v e1 s1 x1 d1=>c.nx o1 H1 δ S1 σ e1 (he.mono e1) s1 d1
theorem bJ(p:RE te de):RS (oX te) (aC de):=fun h o H δ σ S E D he hs q c=>p h o H δ σ S _ _ he hs q c.rt
theorem jI{tc:TT}{dc:DT}(hc:RT tc dc)(ht:RS t dt)(hu:RS u du):RS (lD tc t u) (aN dc dt du):=fun h o H δ σ S E D he hs q c=>
 hc h o H δ σ S _ _ he hs q fun o1 H1 S1 b e1 s1 d1=>by
  cases b with
  |true=>exact dR (ht h o1 H1 δ σ S1 E D (he.mono e1) s1 (by simpa using d1) (c.pre e1))
  |false=>exact dP (hu h o1 H1 δ σ S1 E D (he.mono e1) s1 (by simpa using d1) (c.pre e1))
def frz(n:Nat)(ds:List av):Option XV->Option XV
 |some (.l k)=>if k=n then some (.d (.list ds))else some (.l k)
 |some (.p k d)=>if k=n then some (.d (.tuple [.list ds,d]))else some (.p k d)
 |y=>y
end
abbrev DI:=XE->Sto->(List av->Sto->Prop)->Prop
structure WalkX(h o:List Addr)(H:Hp)(J:It)(ds:List av):Prop where
 stop:∀(i:Nat) o2 H2,ExH h o H o2 H2->ds.length<=i->J.stop i H2
 go:∀(i:Nat) d o2 H2,ExH h o H o2 H2->ds[i]?=some d->J.go i H2
 yld:∀(i:Nat) d o2 H2 x H3 S2,ExH h o H o2 H2->RepS h o2 H2 S2->ds[i]?=some d->J.yld i H2 x H3->Same H2 H3/\Has (vx h o2 H3) d x
def RI(w:TI)(di:DI):Prop:=∀(h o:List Addr) (H:Hp) (δ:XE) (σ:St) (S:Sto) (R:List av->Sto->Prop) (Q:It->Hp->Prop),RepE h o H δ σ->RepS h o H S->di δ S R ->
 (∀o' H' S' ds J,Ex o H o' H'->RepS h o' H' S'->WalkX h o' H' J ds->R ds S'->Q J H')->w σ H Q
theorem FR{h o:List Addr}{H:Hp}{lo:Int}{n:Nat}:WalkX h o H (Itr lo n) (cJ lo n) where
 stop:=fun i _ _ _ hi=>by rw[iF]at hi;exact hi
 go:=fun i d _ _ _ hi=>(wG hi).1
 yld:=fun i d o2 H2 x H3 S2 _ _ hi y=>by
  obtain⟨e,ex⟩:=y;subst e ex;rw[(wG hi).2];exact⟨Same.refl _,bV.mpr rfl⟩
def fE(g:DG)(b:DS):List av->DS
 | [],E,δ,S=>E.nx δ S
 |d::ds,E,δ,S=>g (.d d) δ S fun δ1 S1=>b { nx:=fun δ2 S2=>fE g b ds E δ2 S2,ct:=fun δ2 S2=>fE g b ds E δ2 S2,bk:=E.nx,rt:=E.rt } δ1 S1
def bO(i:DI)(g:DG)(b:DS):DS:=fun E δ S=>i δ S fun ds S1=>fE g b ds E δ S1
theorem jL{wi:TI}{g:TG}{tb:TS}{di:DI}{dg:DG}{db:DS}(hi:RI wi di)(hg:RG g dg)(hb:RS tb db):RS (lE wi g tb) (bO di dg db):=fun h o H δ σ S E D he hs q c=>
 hi h o H δ σ S _ _ he hs q fun o1 H1 S1 ds J e1 s1 wk d1=>by
  refine⟨fun i m σ2 H2=>m=ds.length-i/\i<=ds.length/\∃o2 δ2 S2,Ex o1 H1 o2 H2/\RepE h o2 H2 δ2 σ2/\RepS h o2 H2 S2/\fE dg db (ds.drop i) E δ2 S2,⟨ds.length,yv,kh _,o1,δ,S1,Ex.refl,he.mono e1,s1,d1⟩,?_⟩;rintro i m σ2 H2 ⟨rfl,hi,o2,δ2,S2,e2,ae,z,d2⟩;by_cases hlt:i<ds.length
  ·have ed:ds[i]?=some ds[i]:=bg hlt;rw[gj hlt]at d2;refine .inr ⟨wk.go i _ o2 H2 e2.hid ed,fun σ3 H3=>∃o3 δ3 S3,Ex o1 H1 o3 H3/\RepE h o3 H3 δ3 σ3/\RepS h o3 H3 S3/\fE dg db (ds.drop (i+1)) E δ3 S3,fun σ3 H3 n=>⟨ds.length-(i+1),yw,rfl,hlt,n⟩,fun x H3 y=>?_⟩;obtain⟨s3,hx⟩:=wk.yld i _ o2 H2 x H3 S2 e2.hid z ed y;have ac:Ex o2 H2 o2 H3:=Ex.of_same s3;refine hg h o2 H3 δ2 σ2 S2 (.d ds[i]) x _ _ (ae.mono ac) (z.same s3) hx d2 fun o4 H4 δ4 S4 σ4 e4 ag af d4=>?_;have aa:Ex o1 H1 o4 H4:=(e2.trans ac).trans e4;have ce:=(c.pre e1).pre aa;exact hb h o4 H4 δ4 σ4 S4 _ _ ag af d4 ⟨fun o5 H5 δ5 S5 σ5 e5 p ab d5=>⟨o5,δ5,S5,aa.trans e5,p,ab,d5⟩,ce.rt,ce.nx,fun o5 H5 δ5 S5 σ5 e5 p ab d5=>⟨o5,δ5,S5,aa.trans e5,p,ab,d5⟩⟩
  ·have ei:i=ds.length:=yw
   subst ei;rw[drop_length]at d2;exact .inl ⟨wk.stop _ o2 H2 e2.hid (bp _),c.nx o2 H2 δ2 S2 σ2 (e1.trans e2) ae z d2⟩
def aF:DT:=fun _ S R=>R true S
theorem gK:RT AN aF:=fun h o H δ σ S R Q he hs q c=>c o H S true Ex.refl hs q
def aL(n:Nat)(g:DG)(tt:DT)(te:DE)(fin:Sto->Prop):List av->XE->Sto->Prop
 | [],_,S=>fin S
 |d::ds,τ,S=>g (.d d) τ S fun τ1 S1=>tt τ1 S1 fun b S2=>if b=true then te τ1 S2 fun x S3=>asD x fun e=>∃acc,S3[n]?=some acc/\acc.length<1000/\aL n g tt te fin ds τ1 (S3.set n (acc++[e]))else aL n g tt te fin ds τ1 S2
def eG(caps:List (Option Nat))(i:DI)(g:DG)(tt:DT)(te:DE):DE:=fun δ S R=>i δ S fun ds S1=>aL S1.length g tt te (fun S2=>R (.l S1.length) S2) ds (cQ caps δ) (S1++[[]])
def bR(caps:List (Option Nat))(i:DI)(g:DG)(tt:DT)(te:DE):DE:=fun δ S R=>i δ S fun ds S1=>aL S1.length g tt te (fun S2=>∃S0 acc,S2=S0++[acc]/\S0.length=S1.length/\R (.d (.list acc)) S0) ds (cQ caps δ) (S1++[[]])
theorem RepS.pop{h o r:List Addr}{H:Hp}{S0 T:Sto}(hs:RepS h (o++r) H (S0++T))(hl:S0.length=o.length):RepS h o H S0 where
 len:=hl
 nd:=(nodup_append.mp hs.nd).1
 dis:=fun a ha=>hs.dis a (ba _ ha)
 hal:=hs.hal
 cont:=fun k a ds e1 e2=>by
  obtain⟨vs,e3,l⟩:=hs.cont k a ds (dZ e1) (dZ e2);exact⟨vs,e3,l.mono fun b u e=>by
   obtain⟨z1,z2,z3⟩:=zr.mp e;exact zr.mpr ⟨z1,fun m=>z2 (ba _ m),z3⟩⟩
theorem mE{h o r:List Addr}{H:Hp}:Same (vx h (o++r) H) (vx h o H):=fun b u e=>by
 obtain⟨z1,z2,z3⟩:=zr.mp e;exact zr.mpr ⟨z1,fun m=>z2 (ba _ m),z3⟩
theorem Ex.pop{o o' r:List Addr}{H H':Hp}(e:Ex o H (o++r) H'):Ex o H o H':=⟨⟨[],yv⟩,fun b u hb eb=>⟨hb,(e.kp b u hb eb).2⟩⟩
theorem uT{caps:List (Option Nat)}{wi:TI}{g:TG}{tt:TT}{te:TE}{di:DI}{dg:DG}{ac:DT}{aa:DE}(hi:RI wi di)(hg:RG g dg)(ht:RT tt ac)(ai:RE te aa)
  {h o:List Addr}{H:Hp}{δ:XE}{σ:St}{S:Sto}{Q:VK}{fin:Nat->Sto->Prop} (he:RepE h o H δ σ) (hs:RepS h o H S) (q:di δ S fun ds S1=>aL S1.length dg ac aa (fin S1.length) ds (cQ caps δ) (S1++[[]]))
  (c:∀o1 H1 D o2 H2 S2,Ex o H o1 H1->H1 D=none->Ex (o1++[D]) (upd H1 D (.lst [])) o2 H2->RepS h o2 H2 S2->fin o1.length S2->Q (.ref D) H2):iT caps wi g tt te σ H Q:=by
 refine hi h o H δ σ S _ _ he hs q fun o1 H1 S1 ds J e1 s1 wk d1 D hD=>?_;have eN:Ex o1 H1 (o1++[D]) (upd H1 D (.lst [])):=Ex.new s1 hD;have sN:RepS h (o1++[D]) (upd H1 D (.lst [])) (S1++[[]]):=s1.new hD (zo.mpr rfl);have hn:S1.length=o1.length:=s1.len;refine⟨fun i m τ H2=>m=ds.length-i/\i<=ds.length/\∃o2 δ2 S2,Ex (o1++[D]) (upd H1 D (.lst [])) o2 H2/\RepE h o2 H2 δ2 τ/\RepS h o2 H2 S2/\aL S1.length dg ac aa (fin S1.length) (ds.drop i) δ2 S2,⟨ds.length,yv,kh _,_,_,_,Ex.refl,((he.mono e1).mono eN).tau,sN,d1⟩,?_⟩;rintro i m τ H2 ⟨rfl,hi,o2,δ2,S2,e2,aj,ab,d2⟩;by_cases hlt:i<ds.length
 ·have ed:ds[i]?=some ds[i]:=bg hlt;rw[gj hlt]at d2;refine .inr ⟨wk.go i _ o2 H2 (eN.trans e2).hid ed,fun x H3 y=>?_⟩;obtain⟨s3,hx⟩:=wk.yld i _ o2 H2 x H3 S2 (eN.trans e2).hid ab ed y;have af:Ex o2 H2 o2 H3:=Ex.of_same s3;refine hg h o2 H3 δ2 τ S2 (.d ds[i]) x _ _ (aj.mono af) (ab.same s3) hx d2 fun o4 H4 δ4 S4 τ4 e4 p ah d4=>?_;refine ht h o4 H4 δ4 τ4 S4 _ _ p ah d4 fun o5 H5 S5 b e5 s5 d5=>?_;have ae:=((e2.trans af).trans e4).trans e5;cases b with
  |false=>exact dP ⟨ds.length-(i+1),yw,rfl,hlt,o5,δ4,S5,ae,p.mono e5,s5,by simpa using d5⟩
  |true=>
   refine dR (ai h o5 H5 δ4 τ4 S5 _ _ (p.mono e5) s5 (by simpa using d5) fun o6 H6 S6 z v e6 s6 z6 d6=>?_);replace d6:=eW d6;obtain⟨e,rfl,acc,ea,hl,d6⟩:=d6;have ag:=ae.trans e6;have eD:o6[S1.length]?=some D:=by
    obtain⟨r,rfl⟩:=ag.pre;rw[hn];exact dZ (by rw[bi])
   obtain⟨vs,ev,l⟩:=s6.cont _ D acc eD ea;refine⟨vs,ev,by rw[l.length];exact small1000 (gu hl),ds.length-(i+1),yw,rfl,hlt,o6,δ4,_,ag.trans (Ex.upd eD),((p.mono e5).mono e6).mono (Ex.upd eD),s6.upd eD (l.append (zn.mpr ⟨v,[],rfl,z6,zo.mpr rfl⟩)),d6⟩
 ·have ei:i=ds.length:=yw
  subst ei;rw[drop_length]at d2;exact .inl ⟨wk.stop _ o2 H2 (eN.trans e2).hid (bp _),c o1 H1 D o2 H2 S2 e1 hD e2 ab (hn▸d2)⟩
theorem qD{caps:List (Option Nat)}{wi:TI}{g:TG}{tt:TT}{te:TE}{di:DI}{dg:DG}{y:DT}{p:DE}(hi:RI wi di)(hg:RG g dg)(ht:RT tt y)(z:RE te p):RE (iT caps wi g tt te) (eG caps di dg y p):=fun h o H δ σ S R Q he hs q c=>by
 refine uT (fin:=fun n S2=>R (.l n) S2) hi hg ht z he hs q fun o1 H1 D o2 H2 S2 e1 hD e2 s2 f=>?_;have eN:Ex o1 H1 (o1++[D]) (upd H1 D (.lst [])):=⟨⟨[D],rfl⟩,fun b w hb e=>by
  have ne:b≠D:=zx e hD;exact⟨by simp[hb,ne],by rw[zp ne];exact e⟩⟩
 refine c o2 H2 S2 (.l o1.length) _ ((e1.trans eN).trans e2) s2 ⟨D,?_,rfl⟩ f;obtain⟨r,rfl⟩:=e2.pre;exact dZ (by rw[bi])
theorem gD{caps:List (Option Nat)}{wi:TI}{g:TG}{tt:TT}{te:TE}{di:DI}{dg:DG}{z:DT}{p:DE}(hi:RI wi di)(hg:RG g dg)(ht:RT tt z)(aa:RE te p):RE (iT caps wi g tt te) (bR caps di dg z p):=fun h o H δ σ S R Q he hs q c=>by
 refine uT (fin:=fun n S2=>∃(S0:Sto) (acc:List av),S2=S0++[acc]/\S0.length=n/\R (.d (.list acc)) S0) hi hg ht aa he hs q fun o1 H1 D o2 H2 S2 e1 hD e2 s2 ⟨S0,acc,eS,hl,f⟩=>?_;subst eS;have eN:Ex o1 H1 (o1++[D]) (upd H1 D (.lst [])):=⟨⟨[D],rfl⟩,fun b w hb e=>by
  have ne:b≠D:=zx e hD;exact⟨by simp[hb,ne],by rw[zp ne];exact e⟩⟩
 have y:=eN.trans e2;obtain⟨r,rfl⟩:=e2.pre;have er:r=[]:=by
  have:=s2.len;simp only[bx,fe,hl]at this;exact dq yw
 subst er;rw[fy]at s2 y;have s0:RepS h o1 H2 S0:=s2.pop hl;refine c o1 H2 S0 (.d (.list acc)) _ (e1.trans (Ex.pop (o':=o1) y)) s0 ?_ f;obtain⟨vs,ev,l⟩:=s2.cont o1.length D acc (by rw[bi]) (by rw[<- hl,bi]);have nD:D∉o1:=by
  have:=(nodup_append.mp s2.nd).2.2;intro m;exact this D m D yv rfl
 exact zU.mpr ⟨D,vs,rfl,zr.mpr ⟨s2.dis D yv,nD,ev⟩,l.mono mE⟩
def fin(n:Nat)(R:RX):RX:=fun y S'=>match y with
 | .l k=>if k<n then R (.l k) (S'.take n)else ∃ds,S'[k]?=some ds/\(R (.d (.list ds)) (S'.take n)\/R (.l n) (S'.take n++[ds]))
 | .p k d=>n<=k/\∃ds,S'[k]?=some ds/\R (.p n d) (S'.take n++[ds])
 |y=>R y (S'.take n)
theorem yT{h o r:List Addr}{H H':Hp}{S S':Sto}{k:Nat}{a:Addr}{ds:List av}(hs:RepS h o H S)(e:Ex o H (o++r) H')(s':RepS h (o++r) H' S')(hk:¬ k<S.length)(ea:(o++r)[k]?=some a)(y:S'[k]?=some ds):
  Ex o H (o++[a]) H'/\Same (vx h (o++r) H') (vx h (o++[a]) H')/\RepS h (o++[a]) H' (S'.take S.length++[ds]):=by
 have eS:S'=S'.take S.length++S'.drop S.length:=(List.take_append_drop _ _).symm;have hl:(S'.take S.length).length=o.length:=by
  have:=s'.len;rw[bx]at this;rw[ko,this,hs.len];omega
 have s0:RepS h o H' (S'.take S.length):=by
  rw[eS]at s';exact s'.pop hl
 have e0:Ex o H o H':=Ex.pop (o':=o) e;obtain⟨vs,ev,l⟩:=s'.cont k a ds ea y;have na:a∉o:=fun m=>by
  obtain⟨j,ej⟩:=mem_iff_getElem?.mp m;have hj:j<o.length:=(List.getElem?_eq_some_iff.mp ej).1;have:=lT s'.nd (dZ (t:=r) ej) ea;rw[hs.len]at hk;omega
 have nh:a∉h:=s'.dis a (cf ea);have hn:H a=none:=by
  cases eh:H a with
  |none=>rfl
  |some u=>exact absurd (cf ea) (e.kp a u na eh).1
 have e1:Ex o H (o++[a]) H':=⟨⟨[a],rfl⟩,fun b u hb eb=>⟨by simp only[mem_append,mem_singleton,not_or];exact⟨hb,zx eb hn⟩,(e0.kp b u hb eb).2⟩⟩;have sub:Same (vx h (o++r) H') (vx h (o++[a]) H'):=fun b u eb=>by
  obtain⟨z1,z2,z3⟩:=zr.mp eb;refine zr.mpr ⟨z1,?_,z3⟩;simp only[mem_append,mem_singleton,not_or];exact⟨fun m=>z2 (ba _ m),fun z=>z2 (by rw[z];exact cf ea)⟩
 refine⟨e1,sub,⟨by rw[bx,bx,hl];rfl,hZ hs.nd na,fun b hb=>?_,s0.hal,fun j b es q1 q2=>?_⟩⟩
 ·rcases mem_append.mp hb with hb|hb
  ·exact hs.dis b hb
  ·rw[mem_singleton.mp hb];exact nh
 ·by_cases hj:j<o.length
  ·rw[cn hj]at q1;rw[cn (by rw[hl];exact hj),List.getElem?_take_of_lt (by rw[hs.len];exact hj)]at q2;obtain⟨ws,e3,l3⟩:=s'.cont j b es (dZ q1) q2;exact⟨ws,e3,l3.mono sub⟩
  ·have p:j=o.length:=by
    obtain⟨q,_⟩:=List.getElem?_eq_some_iff.mp q1;rw[bx,fe]at q;omega
   subst p;rw[bi]at q1;rw[<- hl,bi]at q2;cases q1;cases q2;exact⟨vs,ev,l.mono sub⟩
theorem uC{h o:List Addr}{H:Hp}{S:Sto}{R:RX}{Q:VK}(hs:RepS h o H S)(c:Cn h o H R Q):Cn h o H (fin S.length R) Q:=fun o' H' S' y v e s' hy q=>by
 obtain⟨r,rfl⟩:=e.pre;have eS:S'=S'.take S.length++S'.drop S.length:=(List.take_append_drop _ _).symm;have hl:(S'.take S.length).length=o.length:=by
  have:=s'.len;rw[bx]at this;rw[ko,this,hs.len];omega
 have s0:RepS h o H' (S'.take S.length):=by
  rw[eS]at s';exact s'.pop hl
 have e0:Ex o H o H':=Ex.pop (o':=o) e;cases y with
 |d d=>exact c o H' _ (.d d) v e0 s0 (Has.mono mE d v hy) q
 |o w=>exact c o H' _ (.o w) v e0 s0 hy q
 |x C fs=>exact c o H' _ (.x C fs) v e0 s0 (HasE.mono mE hy) q
 |p k d=>
  obtain⟨hk,ds,z,q⟩:=q;obtain⟨t,a,u,rfl,ea,et,hu⟩:=hy;obtain⟨e1,sub,s1⟩:=yT hs e s' yw ea z;exact c (o++[a]) H' _ (.p S.length d) _ e1 s1 ⟨t,a,u,rfl,by rw[hs.len,bi],sub _ _ et,Has.mono sub _ _ hu⟩ q
 |l k=>
  unfold fin at q;by_cases hk:k<S.length
  ·simp only[hk,↓reduceIte]at q;obtain⟨a,ea,rfl⟩:=hy;exact c o H' _ (.l k) _ e0 s0 ⟨a,by rw[cn (by rw[<- hs.len];exact hk)]at ea;exact ea,rfl⟩ q
  ·simp only[hk,↓reduceIte]at q;obtain⟨ds,z,q⟩:=q;obtain⟨a,ea,rfl⟩:=hy;obtain⟨vs,ev,l⟩:=s'.cont k a ds ea z;have na:a∉o:=fun m=>by
    obtain⟨j,ej⟩:=mem_iff_getElem?.mp m;have hj:j<o.length:=(List.getElem?_eq_some_iff.mp ej).1;have:=lT s'.nd (dZ (t:=r) ej) ea;rw[hs.len]at hk;omega
   have nh:a∉h:=s'.dis a (cf ea);rcases q with q|q
   ·exact c o H' _ (.d (.list ds)) _ e0 s0 (zU.mpr ⟨a,vs,rfl,zr.mpr ⟨nh,na,ev⟩,l.mono mE⟩) q
   ·obtain⟨e1,sub,s1⟩:=yT hs e s' hk ea z;exact c (o++[a]) H' _ (.l S.length) _ e1 s1 ⟨a,by rw[hs.len,bi],rfl⟩ q
def aI(n:Nat)(R:RX):DEnds:={ nx:=fun _ S'=>fin n R (.d .none) S',rt:=fin n R }
theorem eok{h o:List Addr}{H:Hp}{S:Sto}{R:RX}{Q:VK}(hs:RepS h o H S)(c:Cn h o H R Q):EOk h o H (aI S.length R) { nx:=fun _ H'=>Q .non H',rt:=Q } :=
 ⟨fun o' H' δ' S' σ' e he p q=>uC hs c o' H' S' _ _ e p xN q,uC hs c,fun _ _ _ _ _ _ _ _ q=>q.elim,fun _ _ _ _ _ _ _ _ q=>q.elim⟩
def bH(p:List av):Prop:=∃l g s:Int,p=[.int l,.int g,.int s]/\0<=l
end
section
def uP(K:bf):List V->Hp->VK->Prop:=fun xs H Q=>∃(p:Addr) (ns:List Int),xs=[.ref p]/\SqL K H p (ns.map V.int)/\Q (.int ns.sum) H
theorem Cu:dh "sum" = some (.builtin "sum"):=by decide +kernel
section
variable {X:Cx}
theorem CA(hc:X.calm=true):CallR X (.builtin "sum") (uP X.K):=by
 intro zc s σ H xs us Q I r h;obtain⟨p,ns,rfl,hq,q⟩:=h;obtain⟨u,rfl,rx⟩:=vals1 r;cases (show u=cw p from rx);obtain⟨z,rv,pl,_⟩:=I.list hq;obtain⟨ys,e,y⟩:=pI (rB rv);refine sum_intListG (I.ok.hd hc) (by rw[<- e];exact pl.isList) fun h' tk t' hk=>⟨.int ns.sum,H,I.kept (t':=tk) hk,⟨t',?_⟩,q⟩;have es:preSum (numAt ys) ys.size=ns.sum:=by
  rw[preSum_eq,y,List.take_of_length_le yv]
 rw[es]
theorem xG:∀{bs:List Bool}{us:List au}{i:Nat}{v:au},Vals (bs.map V.bl) us->us[i]?=some v->∃b,bs[i]?=some b/\v=.bool b
 | [],_,i,v,.nil,e=>by simp at e
 |b::bs,_,0,v,.cons r _,e=>by
  rw[iy]at e;cases e;exact⟨b,rfl,r⟩
 |b::bs,_,i+1,v,.cons _ t,e=>by
  obtain⟨c,e1,e2⟩:=xG (i:=i) (v:=v) t (by simpa using e);exact⟨c,by simpa using e1,e2⟩
end
def gM:List XV->Sto->RX->Prop:=fun xs S R=>arg1 xs fun x=>∃ds,cV S x=some ds/\∃ns:List Int,ds=ns.map bq/\R (.d (.int ns.sum)) S
theorem vX{K:bf}:RC (uP K) gM:=fun h o H S xs vs R Q hs hx q c=>by
 obtain⟨x,rfl,ds,hd,ns,rfl,q1⟩:=b8 q;obtain⟨v,rfl,p⟩:=hxs1 hx;obtain⟨a,ws,rfl,ea,l⟩:=bL hs hd p;rw[rW l]at ea;exact⟨a,ns,rfl,.of ea,c o H S _ _ Ex.refl hs (xI _) q1⟩
theorem yJ{H:Hp}:∀{ns:List Bool}{vs:List V},HasL H (ns.map PyData.bool) vs->vs=ns.map V.bl
 | [],vs,h=>zo.mp h
 |n::ns,vs,h=>by
  obtain⟨v,r,rfl,h1,h2⟩:=zn.mp h;rw[eV.mp h1,yJ h2];rfl
def jB:List XV->Sto->RX->Prop:=fun xs S R=>arg1 xs fun x=>∃ds,cV S x=some ds/\∃ns:List Bool,ds=ns.map PyData.bool/\R (.d (.bool (ns.all id))) S
section
variable {S:Sto}{i:Int}{b:Bool}{z:Str}{ds:List av}{d:av}{k:Nat}{x y:XV}{R:RX}{c:String}{p:List av}{n:Nat}{v:V}
theorem lV{K:Int->Prop}:asI (.d (.int i)) K=K i:=rfl
theorem lF{K:Bool->Prop}:asB (.d (.bool b)) K=K b:=rfl
theorem kU{K:List av->Prop}:asT (.d (.tuple ds)) K=K ds:=rfl
theorem i7{K:av->Prop}:asD (.d d) K=K d:=rfl
theorem iP:cV S (.d (.list ds))=some ds:=rfl
theorem kP:asQ S (.d (.list ds))=some ds:=rfl
theorem kA:aV S (.d d)=some d:=rfl
theorem kX:aV S (.l k)=(S[k]?).map .list:=rfl
theorem l4:ret0 S R (.d d) []=R (.d d) S:=rfl
theorem lC:ret0 S R (.l 0) [ds]=R (.l S.length) (S++[ds]):=rfl
theorem jP:nW k S R (.d d) [p]=R (.d d) (S.set k p):=rfl
theorem kB:fin n R (.d d) S=R (.d d) (S.take n):=rfl
theorem kY:fin n R (.l k) S=if k<n then R (.l k) (S.take n)else ∃ds,S[k]?=some ds/\(R (.d (.list ds)) (S.take n)\/R (.l n) (S.take n++[ds])):=rfl
theorem jT{K:XV->Prop}:arg1 [x] K=K x:=rfl
theorem lN{K:XV->XV->Prop}:arg2 [x,y] K=K x y:=rfl
theorem j8{K:String->Prop}:qJ (.o (.ty c)) K↔K c:=⟨fun⟨_,e,q⟩=>by cases e;exact q,fun q=>⟨c,rfl,q⟩⟩
theorem iU{K:Int->Prop}:pB (.d (.bool b)) K=K (if b then 1 else 0):=rfl
theorem k6:(aI n R).rt x S=fin n R x S:=rfl
theorem jS:datas []=some []:=rfl
theorem iQ{r:List XV}:datas (.d d::r)=(datas r).map (d :: ·):=rfl
end
theorem lU{α:Type}{a:α}{l:List α}:atI (a::l) 0=some a:=gO (j:=0) rfl
theorem i5{α:Type}{a b:α}{l:List α}:atI (a::b::l) 1=some b:=gO (j:=1) rfl
theorem kC{α:Type}{a b c:α}{l:List α}:atI (a::b::c::l) 2=some c:=gO (j:=2) rfl
def Shp(n:Nat)(d:av):Prop:=d.canLay0=true/\d.depth<=n
theorem rR{n:Nat}{i:Int}:Shp n (.int i):=⟨rfl,kh _⟩
theorem qQ{n:Nat}:∀{ds:List av},(∀d∈ds,Shp n d)->gp ds=true/\jf ds<=n
 | [],_=>⟨by simp only[gp],by simp only[jf];exact kh _⟩
 |d::ds,h=>by
  obtain⟨h1,h2⟩:=h d bn;obtain⟨h3,h4⟩:=qQ (ds:=ds) fun e m=>h e (bc _ m);simp only[gp,jf,h1,h3,Bool.and_true,true_and];omega
theorem wW{n:Nat}{ds:List av}(h:∀d∈ds,Shp n d):Shp (n+1) (.list ds):=by
 obtain⟨h1,h2⟩:=qQ h;exact⟨by simp only[gz];exact h1,by simp only[PyData.depth];omega⟩
theorem DL{n:Nat}{ds:List av}(h:∀d∈ds,Shp n d):Shp (n+1) (.tuple ds):=by
 obtain⟨h1,h2⟩:=qQ h;exact⟨by simp only[gz];exact h1,by simp only[PyData.depth];omega⟩
theorem sZ{α:Type}{n:Nat}{f:α->av}{l:List α}(h:∀x∈l,Shp n (f x)):∀d∈l.map f,Shp n d:=fun d m=>by
 obtain⟨x,hx,rfl⟩:=mem_map.mp m;exact h x hx
theorem Aw{n:Nat}{a b:av}(h1:Shp n a)(h2:Shp n b):∀d∈[a,b],Shp n d:=by
 intro d m;simp only[jr,jt,or_false]at m;rcases m with rfl|rfl
 ·exact h1
 ·exact h2
theorem Shp.ok{n:Nat}{d:av}(h:Shp n d)(hn:n<=64:=by decide):cg d=true:=by
 unfold cg;rw[h.1,fc (dm h.2 hn)];rfl
theorem fK{g:DG}{b:DS}{E:DEnds}:∀{ds:List av}{δ:XE}{S:Sto} (I:Nat->XE->Sto->Prop),I 0 δ S ->
  (∀i d δ S (N:XE->Sto->Prop),ds[i]?=some d->I i δ S->(∀ δ' S',I (i+1) δ' S'->N δ' S')->g (.d d) δ S fun δ1 S1=>b { nx:=N,ct:=N,bk:=E.nx,rt:=E.rt } δ1 S1) ->
  (∀ δ S,I ds.length δ S->E.nx δ S)->fE g b ds E δ S
 | [],δ,S,I,h0,_,fin=>fin δ S h0
 |d::ds,δ,S,I,h0,step,fin=>by
  show g (.d d) δ S fun δ1 S1=>b _ δ1 S1;refine step 0 d δ S _ rfl h0 fun δ' S' h1=>?_;exact fK (ds:=ds) (fun i=>I (i+1)) h1 (fun i e δ S N hi=>step (i+1) e δ S N (by simpa using hi)) fin
theorem AL{α:Type}{l:List α}{a b:α}{n:Nat}(h:l.length=n):(l++[a]).set n b=l++[b]:=by
 subst h;rw[List.set_append_right _ _ (bp _),Nat.sub_self];rfl
theorem sQ{H:Hp}:RepS [] [] H []:=⟨rfl,gn,fun _ h=>(nomatch h),fun _ h=>(nomatch h),fun _ _ _ e=>(by simp at e)⟩
theorem Ex.same_nil{o':List Addr}{H H':Hp}(e:Ex [] H o' H'):Same H H':=fun b u q=>(e.kp b u yv q).2
theorem CC{K:bf}{a:Addr}{ns:List Int}{N:Int}{j m:Nat}{tb:TS}{db:DS}{D:Ends}{σ:St}{H:Hp}(hb:RS tb db)(h0:σ[0]?=some (some (.ref a)))(hl:σ.length=m+1)(hS:SqL K H a (ns.map V.int))(p:ns.length<=63)
  (turn:∀n:Int,db { nx:=fun δ _=>δ[0]?=some (some (.o (.ref a)))/\δ.length=m+1,ct:=fun δ _=>δ[0]?=some (some (.o (.ref a)))/\δ.length=m+1,rt:=fun _ _=>False } ((some (.o (.ref a))::az m none).set j (some (.d (.int n)))) [])
  (hj:j≠0) (done:∀(σ:St) (H1:Hp),Same H H1->D.nx σ H1):
  lE (oY K (tOp l7 (hW (bU (tC2 (pV K) (dG 0) (tC (.int 0))) gE)) (tSl (jR K) (dG 0) (iD (tC (.int 1))) (iD (tC (.int N)))))) (fM j) tb D σ H:=by
 refine D6 (a:=a) (ns:=ns) (fun σ=>σ[0]?=some (some (.ref a))/\σ.length=m+1) h0 hS p ⟨h0,hl⟩ ?_ fun σ H1 _ s=>done σ H1 s;rintro n σ1 H1 H2 ⟨z0,z1⟩ s1 s2;refine hb [] [] H2 _ _ [] _ _ ⟨by simp[z1],fun i x e=>?_⟩ sQ (turn n) ⟨?_,fun _ _ _ _ _ _ _ _ q=>q.elim,fun _ _ _ _ _ _ _ _ q=>q.elim,?_⟩
 ·rw[List.getElem?_set]at e ⊢;by_cases hij:j=i
  ·rw[cb hij]at e ⊢;by_cases hjl:j<m+1
   ·rw[cb (by simpa using hjl)]at e;rw[cb (by rw[z1];exact hjl)];cases e;exact⟨.int n,rfl,xI n⟩
   ·rw[bu (by simpa using hjl)]at e;cases e
  ·rw[bu hij]at e ⊢;cases i with
   |zero=>
    cases e;exact⟨.ref a,z0,rfl⟩
   |succ i=>
    rw[ib,List.getElem?_replicate]at e;split at e<;>cases e
 ·rintro o' H' δ' S' σ' e he hs ⟨q1,q2⟩;obtain⟨v,ev,hv⟩:=he.get 0 _ q1;cases hv;exact⟨s2.trans e.same_nil,ev,by rw[<- he.len];exact q2⟩
 ·rintro o' H' δ' S' σ' e he hs ⟨q1,q2⟩;obtain⟨v,ev,hv⟩:=he.get 0 _ q1;cases hv;exact⟨s2.trans e.same_nil,ev,by rw[<- he.len];exact q2⟩
theorem CN{a:Addr}{m:Nat}{t u:TS}{dt:DS}{D:Ends}{σ:St}{H:Hp}(ht:RS t dt)(h0:σ[0]?=some (some (.ref a)))(hl:σ.length=m+1)
  (go:dt { nx:=fun δ _=>δ[0]?=some (some (.o (.ref a)))/\δ.length=m+1,rt:=fun _ _=>False } (some (.o (.ref a))::az m none) [])
  (next:∀(σ:St) (H1:Hp),σ[0]?=some (some (.ref a))->σ.length=m+1->Same H H1->u D σ H1):bN t u D σ H:=by
 refine ht [] [] H _ _ [] _ _ ⟨by simp[hl],fun i x e=>?_⟩ sQ go ⟨?_,fun _ _ _ _ _ _ _ _ q=>q.elim,fun _ _ _ _ _ _ _ _ q=>q.elim,fun _ _ _ _ _ _ _ _ q=>q.elim⟩
 ·cases i with
  |zero=>
   cases e;exact⟨.ref a,h0,rfl⟩
  |succ i=>
   rw[ib,List.getElem?_replicate]at e;split at e<;>cases e
 ·rintro o' H' δ' S' σ' e he hs ⟨q1,q2⟩;obtain⟨v,ev,hv⟩:=he.get 0 _ q1;cases hv;exact next σ' H' ev (by rw[<- he.len];exact q2) e.same_nil
end
section
theorem Ey{P:ca}{w:cy}{K:bf}{tg:Expr}(it:Addr)(lo:Int)(n:Nat):Turn P w K tg (Itr lo n) [it] it (fun i h=>IsLongIter h it (lo+(i:Nat)*1) ((n:Int)-(i:Nat)) 1) where
 mem:=by simp
 obj:=fun i h st b hb=>by
  have e:b=it:=by simpa using hb
  subst e;exact⟨_,st,fun v z=>by
   have z':Data.fields _=Data.cell v:=z;cases z'⟩
 keep:=fun i h h' st k=>k it yv _ st
 item:=by
  intro X hP hw hK hc i zc s σ H E I hf st hg;subst hP hw hK;obtain⟨f0,f1,f2,f3,f4,f5⟩:=hf it yv;have W:=Walks.longrange (prog:=X.prog) (w:=X.w) (I.ok.hd hc) it lo 1 n;refine W.item i s _ _ hg st fun v h' tk hv p kk=>?_;obtain⟨t,rfl⟩:=hv;have I1:Inv X zc σ H { s with heap:=h',toks:=tk }:=I.turned (fun b o hb e=>kk b o (by simpa using hb) e) f0 f1 f3 f4 f5;refine⟨_,rfl,mX (s:={ s with heap:=h',toks:=tk }) (n:="longrange_iterator") p rfl rfl dz ⟨.int (lo+i),H,I1,⟨t,?_⟩,⟨rfl,rfl⟩,p,fun b hb=>(hf b hb).1⟩⟩;rw[Int.mul_one]
 done:=by
  intro X hP hw hK hc i zc s σ H E I hf st hg;subst hP hw hK;obtain⟨f0,f1,f2,f3,f4,f5⟩:=hf it yv;exact wpAny_pyNext_long_end (I.ok.hd hc) st (by have:n<=i:=hg;omega) fun h' eb=>⟨rfl,I.turned (t':=s.toks) (fun b o hb e=>eb b o hb e) f0 f1 f3 f4 f5⟩
 self:=fun _ _ _ _ _ st h=>wpAny_pyIter_longiter st h
section
variable {X:Cx}{tg:Expr}
theorem EN{zc:List (Addr×Obj)}{σ:St}{H:Hp}{s:ax}{R:It->Hp->Prop}{E:au->ax->Prop}{lo hi:Int}{t u v:Tok}{tk:Nat}(I:Inv X zc σ H s)
  (q:R (Itr lo (hi-lo).toNat) H):bh (model X.prog X.w) X.A (pyIter (.ref s.heap.objs.size)) (PIE X zc σ tg R) E { s with heap:=s.heap.push { cls:=.type "range",data:=.fields #[.int lo t,.int hi u,.int 1 v] },toks:=tk }:=by
 have I1:Inv X zc σ H { s with heap:=s.heap.push { cls:=.type "range",data:=.fields #[.int lo t,.int hi u,.int 1 v] },toks:=tk }:=I.kept fun b o e=>bb _ e;have e1:lo+((0:Nat):Int)*1=lo:=by simp
 have e2:(((hi-lo).toNat:Nat):Int)-((0:Nat):Int)=Builtin.Range.rangeSize lo hi 1:=by rw[rangeSize_one];split<;>omega
 cases hsm:Builtin.Range.small lo hi 1 with
 |true=>
  refine wpAny_pyIter_range (IsRange.new ..) hsm ?_;refine⟨(s.heap.push { cls:=.type "range",data:=.fields #[.int lo t,.int hi u,.int 1 v] }).objs.size,[(s.heap.push { cls:=.type "range",data:=.fields #[.int lo t,.int hi u,.int 1 v] }).objs.size],_,_,H,rfl,
   I1.kept (t':=tk) fun b o e=>bb _ e,Fg _ lo (hi-lo).toNat,?_,fun b hb=>?_,q⟩
  ·show IsRangeIter _ _ (lo+((0:Nat):Int)*1) ((((hi-lo).toNat:Nat):Int)-((0:Nat):Int)) 1;rw[e1,e2];exact bw _ rfl
  ·have e:b=(s.heap.push { cls:=.type "range",data:=.fields #[.int lo t,.int hi u,.int 1 v] }).objs.size:=by simpa using hb
   subst e;exact I1.fpOk (bp _) (I1.hok.fresh (bp _))
 |false=>
  refine wpAny_pyIter_longrange (IsRange.new ..) hsm ?_;refine⟨(s.heap.push { cls:=.type "range",data:=.fields #[.int lo t,.int hi u,.int 1 v] }).objs.size,[(s.heap.push { cls:=.type "range",data:=.fields #[.int lo t,.int hi u,.int 1 v] }).objs.size],_,_,H,rfl,
   I1.kept (t':=tk) fun b o e=>bb _ e,Ey _ lo (hi-lo).toNat,?_,fun b hb=>?_,q⟩
  ·show IsLongIter _ _ (lo+((0:Nat):Int)*1) ((((hi-lo).toNat:Nat):Int)-((0:Nat):Int)) 1;rw[e1,e2];exact bw _ rfl
  ·have e:b=(s.heap.push { cls:=.type "range",data:=.fields #[.int lo t,.int hi u,.int 1 v] }).objs.size:=by simpa using hb
   subst e;exact I1.fpOk (bp _) (I1.hok.fresh (bp _))
def yZ(ta:TA):TI:=fun σ H R=>ta σ H fun vs H1=>∃j:Int,vs=[.int j]/\R (Itr 0 j.toNat) H1
theorem gH{a:Expr}{ta:TA}{p pos:Pos}(hg:Gl X "range")(hm:X.mg "range" = none)(ha:PA X [a] ta)(hs:cq [a] X.env=[(false,eval a X.env)]:=by rfl):PI X tg (.Call (.Name "range" p) [a] [] pos) (yZ ta):=by
 intro zc s σ H R I h;refine Call_ (lR I hg hm boot_range (PyProof.Rows.callWith_type1 (thn (ha pos zc s σ H _ I h) fun us s1 ⟨vs,H1,I1,r1,q1⟩=>?_) hs rfl));obtain⟨j,e,q⟩:=q1;subst e;cases r1 with
 |cons r rr=>
  cases rr;obtain⟨t,rfl⟩:=r;exact call_range_1 (EN I1 (by simpa using q))
end
def bZ(a:DA):DI:=fun δ S R=>a δ S fun xs S1=>arg1 xs fun x=>asI x fun j=>R (cJ 0 j.toNat) S1
def lY(a:DA):DI:=fun δ S R=>a δ S fun xs S1=>arg2 xs fun x y=>asI x fun i=>asI y fun j=>R (cJ i (j-i).toNat) S1
theorem pE{ta:TA}{da:DA}(ha:RA ta da):RI (yZ ta) (bZ da):=fun h o H δ σ S R Q he hs q c=>
 ha h o H δ σ S _ _ he hs q fun o1 H1 S1 xs vs e1 s1 x1 d0=>by
  obtain⟨x,rfl,d2⟩:=b8 d0;obtain⟨j,rfl,d1⟩:=aQ d2;obtain⟨v,rfl,hv⟩:=hxs1 x1;rw[aP hv];exact⟨j,rfl,c o1 H1 S1 _ _ e1 s1 FR d1⟩
def vC(K:bf):List V->Hp->VK->Prop:=fun xs H Q=>∃(p:Addr) (bs:List Bool),xs=[.ref p]/\SqL K H p (bs.map V.bl)/\Q (.bl (bs.any id)) H
theorem FZ:dh "any" = some (.builtin "any"):=by decide +kernel
theorem E2(bs:List Bool):((cp bs.length).any fun i=>(bs[i]?).getD true)=bs.any id:=by
 rw[jg,any_eq_true,any_eq_true];constructor
 ·rintro⟨i,hi,h⟩;have hl:=mem_range.mp hi;rw[bg hl]at h;exact⟨_,getElem_mem hl,h⟩
 ·rintro⟨b,hb,h⟩;obtain⟨i,hi⟩:=mem_iff_getElem?.mp hb;have hl:=(List.getElem?_eq_some_iff.mp hi).1;refine⟨i,mem_range.mpr hl,?_⟩;rw[hi];exact h
theorem BL{X:Cx}(hc:X.calm=true):CallR X (.builtin "any") (vC X.K):=by
 intro zc s σ H xs us Q I r h;obtain⟨p,bs,rfl,hq,q⟩:=h;obtain⟨u,rfl,rx⟩:=vals1 r;cases (show u=cw p from rx);obtain⟨y,rv,pl,_⟩:=I.list hq;have hl:=pl.isList;have z:p<s.heap.objs.size:=by
  obtain⟨_,e,_⟩:=hl;exact cr e
 refine call_any_walk (x:=cw p) (jk hl ?_);refine⟨s.heap.objs.size,[s.heap.objs.size,p],[s.heap.objs.size],y.toArray.size,_,_,fun i=>(bs[i]?).getD true,rfl,
  Walks.list (A:=X.A.in1) (I.ok.hd hc) _ p (ff z) y.toArray,⟨⟨_,bw _ rfl,rfl,rfl⟩,hl.push _⟩,fun i v s' Q' E' hP hQ=>?_,fun h' tk hk=>?_⟩
 ·obtain⟨b,e,rfl⟩:=xG (i:=i) (v:=v) rv (by simpa using hP);have aa:Q' b s':=by simpa[e]using hQ
  exact fx aa
 ·have hz:y.toArray.size=bs.length:=by
   have:=rv.length;rw[bo]at this;simp[this]
  rw[hz,E2];refine⟨.bl _,H,I.kept (t':=tk) fun b o e=>hk b o (fun hm=>?_) (bb _ e),rfl,q⟩;rw[mem_singleton.mp hm]at e;exact jh _ (cr e)
def gV:List XV->Sto->RX->Prop:=fun xs S R=>arg1 xs fun x=>∃ds,cV S x=some ds/\∃ns:List Bool,ds=ns.map PyData.bool/\R (.d (.bool (ns.any id))) S
theorem wI{K:bf}:RC (vC K) gV:=fun h o H S xs vs R Q hs hx q c=>by
 obtain⟨x,rfl,ds,hd,ns,rfl,q1⟩:=b8 q;obtain⟨v,rfl,p⟩:=hxs1 hx;obtain⟨a,ws,rfl,ea,l⟩:=bL hs hd p;rw[yJ l]at ea;exact⟨a,ns,rfl,.of ea,c o H S _ _ Ex.refl hs (xB _) q1⟩
end
section
open Sem (wp)
open AutoSeq1 (wpAny_loadPart')
section
variable {X:Cx}{zc:List (Addr×Obj)}{σ:St}{H:Hp}{s:ax}{h':Heap}
theorem Inv.turnLaid{t':Nat}{ch:List Addr}{T:Addr}{o:HO}(I:Inv X zc σ H s)(k:∀b u,b∉ch->s.heap.get? b=some u->h'.get? b=some u)(hf:∀b∈ch,FpOk X zc H b)(hT:s.heap.objs.size<=T)
  (new:ObjOk X.prog X.w (upd H T o) h' T o):Inv X zc σ (upd H T o) { s with heap:=h',toks:=t' }:=by
 have hn:H T=none:=I.hok.fresh hT;have p:∀b u,H b=some u->b∉ch:=fun b u e m=>by rw[(hf b m).1]at e;cases e
 have y:∀b u,s.heap.get? b=some u->b≠T:=fun b u e z=>absurd (cz (cr e) hT) (by rw[z];exact jh _);have up:∀b u,H b=some u->upd H T o b=some u:=fun b u e=>(zp (zx e hn)).trans e;refine I.step (g':=s.gens) (d':=s.drawn) (ch:=ch) (fun b hb=>?_) (fun b u _ _ hc e _=>k b u hc e) (fun b u _ _ hc e _=>⟨u.slots,k b u hc e⟩) (fun b u _ e n=>(zp (y b u e)).trans n)
  (fun b u hc e=>⟨u,k b u hc e⟩) (fun b xs e=>up b _ e) (fun b u v e=>up b _ e) (fun b ps e=>up b _ e) (fun m hm=>?_) (fun b u e=>?_) I.bare
 ·obtain⟨_,f1,_,f3,f4,f5⟩:=hf b hb;exact⟨f3,f1,f4,f5⟩
 ·obtain⟨ob,es,ep,ho,r⟩:=hm;exact⟨ob,es,ep,k _ ob (fun z=>(hf _ z).2.1 rfl) ho,r⟩
 ·by_cases hb:b=T
  ·subst hb;rw[zH]at e;cases e;exact new
  ·rw[zp hb]at e;refine(I.hok b u e).stay (fun c v hc q=>k c v ?_ q) (fun c q=>up c _ q) (fun c xs q=>up c _ q) fun c o u q=>up c _ q;rcases hc with z|z
   ·rw[z];exact p b u e
   ·exact p c _ z
theorem Inv.turnedN{t':Nat}{ch:List Addr}(I:Inv X zc σ H s)(k:∀b u,b∉ch->s.heap.get? b=some u->h'.get? b=some u)(hf:∀b∈ch,FpOk X zc H b):Inv X zc σ H { s with heap:=h',toks:=t' }:=by
 have p:∀b u,H b=some u->b∉ch:=fun b u e m=>by rw[(hf b m).1]at e;cases e
 refine I.step (g':=s.gens) (d':=s.drawn) (ch:=ch) (fun b hb=>?_) (fun b u _ _ hc e _=>k b u hc e) (fun b u _ _ hc e _=>⟨u.slots,k b u hc e⟩) (fun b u _ e n=>n)
  (fun b u hc e=>⟨u,k b u hc e⟩) (fun b xs e=>e) (fun b u v e=>e) (fun b ps e=>e) (fun m hm=>?_) (fun b u e=>?_) I.bare
 ·obtain⟨_,f1,_,f3,f4,f5⟩:=hf b hb;exact⟨f3,f1,f4,f5⟩
 ·obtain⟨ob,es,ep,ho,r⟩:=hm;exact⟨ob,es,ep,k _ ob (fun z=>(hf _ z).2.1 rfl) ho,r⟩
 ·refine(I.hok b u e).stay (fun c v hc q=>k c v ?_ q) (fun _ q=>q) fun _ _ q=>q;rcases hc with z|z
  ·rw[z];exact p b u e
  ·exact p c _ z
end
section
variable {prog:ca}{w:cy}{A:ef}{E:au->ax->Prop}{s:ax}
theorem D5{j t:Addr}{i:Nat}{vs:Array au}{x:au}{Q:au->ax->Prop}(hj:s.heap.IsTupleIter j t i)(ht:s.heap.IsTuple t vs)(hx:vs[i]?=some x)
  (hQ:∀g,g.IsTupleIter j t (i+1)->fg j s.heap g->Q x { s with heap:=g }):bh (model prog w) A (fb (.ref j)) Q E s:=by
 obtain⟨oj,ej,cj,dj⟩:=id hj;obtain⟨ot,et,_,nt,dt⟩:=ht;unfold fb;refine aw (gk (name:=Str.ofString "__next__") hj.typeIs F.slot_tuple_iterator_next (jw F.slot_tuple_iterator_next hj.typeIs F.entry_tuple_iterator_next ?_ (F.args_tuple_iterator_next_1 _)));show bh _ _ (field (.ref j) 0 >>= _) _ _ s;refine aw (gd ej dj (x:=.ref t) rfl ?_);show bh _ _ (ite ((cw t==jq)=true) _ _) _ _ s;refine(bu (show ¬((cw t==jq)=true)from fh))▸?_;show bh _ _ (field (.ref j) 1 >>= _) _ _ s;refine aw (gd ej dj (x:=.int i 0) rfl ?_);refine aw (m:=seqItems? (.ref t)) (wpAny_seqItems et dt ?_);simp only[hx,jn];refine aw (wpAny_setField ej dj yv (bj ⟨x,rfl,bj (hQ _ ⟨_,get?_update_self _ ej (Obj.isFreed_of_fields (Obj.data_mapFields dj _)),(Obj.cls_mapFields ..).trans cj,?_⟩ (Heap.SameBut.update ..))⟩));rw[Obj.data_mapFields dj];simp[rawInt]
theorem EJ{j t:Addr}{i:Nat}{vs:Array au}{Q:au->ax->Prop}(hh:A.handled=none)(hj:s.heap.IsTupleIter j t i)(ht:s.heap.IsTuple t vs)(hx:vs[i]?=none)
  (hE:∀g e,Heap.ExtBut j s.heap g->(∃o,g.get? e=some o/\o.cls=.type "StopIteration")->E (.ref e) { s with heap:=g }):bh (model prog w) A (fb (.ref j)) Q E s:=by
 obtain⟨oj,ej,cj,dj⟩:=id hj;obtain⟨ot,et,_,nt,dt⟩:=ht;unfold fb;refine aw (gk (name:=Str.ofString "__next__") hj.typeIs F.slot_tuple_iterator_next (jw F.slot_tuple_iterator_next hj.typeIs F.entry_tuple_iterator_next ?_ (F.args_tuple_iterator_next_1 _)));show bh _ _ (field (.ref j) 0 >>= _) _ _ s;refine aw (gd ej dj (x:=.ref t) rfl ?_);show bh _ _ (ite ((cw t==jq)=true) _ _) _ _ s;refine(bu (show ¬((cw t==jq)=true)from fh))▸?_;show bh _ _ (field (.ref j) 1 >>= _) _ _ s;refine aw (gd ej dj (x:=.int i 0) rfl ?_);refine aw (m:=seqItems? (.ref t)) (wpAny_seqItems et dt ?_);simp only[hx,jn];refine aw (wpAny_rule (aw (wpAny_setField ej dj yv ?_)));show bh _ _ (newExc (.type "StopIteration") [] >>= _) _ _ _;refine aw ?_;simp only[newExc,newTuple];refine aw (ga ?_ (by size_fits));refine aw (m:=firstArgMember _ _) (wpAny_of_eq (a:=jq) (by first|rfl|(simp only[firstArgMember];rfl)) ?_);refine ga ?_ (by size_fits);simp only[raiseNew];refine aw (wpAny_handled ?_)
 first|rw[show A.in1.handled=none from hh]|rw[hh]
 exact aw (bj (wpAny_throw (hE _ _ (((Heap.SameBut.update ..).extBut.push _).push _) ⟨_,bw _ rfl,rfl⟩)))
theorem A2{e j:Addr}{i:Nat}{x p:au}{J:Heap->Prop}{Q:au->ax->Prop}(he:IsEnum s.heap e j i p)(y:e≠j)
  (hn:∀(Q':au->ax->Prop) (E':au->ax->Prop),(∀g,J g->fg j s.heap g->Q' x { s with heap:=g })->bh (model prog w) A (fb (.ref j)) Q' E' s)
  (hJ:∀g g',J g->(∀o,g.get? j=some o->g'.get? j=some o)->J g')
  (hQ:∀g,IsEnumOut g e j ((i:Int)+1) x s.heap.objs.size->J g->g.get? s.heap.objs.size=some { cls:=.type "tuple",data:=.seq #[.int i s.toks,x] } ->
   (∀b o,b≠e->b≠j->s.heap.get? b=some o->g.get? b=some o)->Q (.ref s.heap.objs.size) { s with heap:=g,toks:=s.toks+1 }):
  bh (model prog w) A (Builtin.«enumerate.__next__» ⟨[.ref e],[]⟩) (fun fin s'=>∃v,fin=.done (.ret v)/\Q v s') E s:=by
 obtain⟨h0,gs,dr,tk,os⟩:=s;show bh _ _ (field (.ref e) 2 >>= _) _ _ _;refine aw (gd he rfl (x:=.ref j) rfl (aw (hn _ _ fun g1 J1 b1=>?_)));replace b1:fg j h0 g1:=b1;have e1:IsEnum g1 e j i p:=(b1.2 e y).trans he;show bh _ _ (field (.ref e) 3 >>= _) _ _ ⟨g1,gs,dr,tk,os⟩;refine aw (gd e1 rfl (x:=rawInt i) rfl ?_);show bh _ _ (field (.ref e) 4 >>= _) _ _ ⟨g1,gs,dr,tk,os⟩;refine aw (gd e1 rfl (x:=.none) rfl ?_);show bh _ _ (mkInt i >>= _) _ _ ⟨g1,gs,dr,tk,os⟩;refine aw (wpAny_mkInt ?_);show bh _ _ (setField (.ref e) 3 (rawInt ((i:Int)+1)) >>= _) _ _ ⟨g1,gs,dr,tk+1,os⟩;refine aw (iz e1 yv fun g2 e2 b2=>?_);replace b2:fg e g1 g2:=b2;replace e2:IsEnum g2 e j ((i:Int)+1) p:=e2;show bh _ _ (setField (.ref e) 4 .none >>= _) _ _ ⟨g2,gs,dr,tk+1,os⟩;refine aw (iz e2 yv fun g3 e3 b3=>?_);replace b3:fg e g2 g3:=b3;replace e3:IsEnum g3 e j ((i:Int)+1) p:=e3;show bh _ _ (newTuple [.int i tk,x] >>= _) _ _ ⟨g3,gs,dr,tk+1,os⟩;refine aw (wpAny_newTuple ?_);have sz:g3.objs.size=h0.objs.size:=by rw[b3.1,b2.1,b1.1]
 have lt:e<h0.objs.size:=cr he;have e4:IsEnum (g3.push { cls:=.type "tuple",data:=.seq #[.int i tk,x] }) e j ((i:Int)+1) p:=bb _ e3;have J3:J g3:=hJ _ _ (hJ _ _ J1 fun o q=>b2.extBut j o (fw y) q) fun o q=>b3.extBut j o (fw y) q;have J4:J (g3.push { cls:=.type "tuple",data:=.seq #[.int i tk,x] }):=hJ _ _ J3 fun o q=>bb _ q;have t4:(g3.push { cls:=.type "tuple",data:=.seq #[.int i tk,x] }).get? h0.objs.size=some { cls:=.type "tuple",data:=.seq #[.int i tk,x] }:=by rw[<- sz];exact bw _ rfl
 have k4:∀b o,b≠e->b≠j->h0.get? b=some o->(g3.push { cls:=.type "tuple",data:=.seq #[.int i tk,x] }).get? b=some o:=fun b o n1 n2 q=>bb _ (b3.extBut b o n1 (b2.extBut b o n1 (b1.extBut b o n2 q)));generalize g3.push { cls:=.type "tuple",data:=.seq #[.int i tk,x] } = g4 at e4 J4 t4 k4 ⊢;show bh _ _ (Builtin.SmallTypes.ownedTupleIsFree (.ref e) >>= _) _ _ ⟨g4,gs,dr,tk+1,os⟩;rw[sz];refine aw ?_;unfold Builtin.SmallTypes.ownedTupleIsFree;refine aw (gd e4 rfl (x:=.none) rfl (bj ?_));simp only[if_true];refine aw (wpAny_rule (aw (gd e4 rfl (x:=p) rfl (aw (iz e4 yv fun g5 e5 b5=>?_)))));replace b5:fg e g4 g5:=b5;replace e5:IsEnum g5 e j ((i:Int)+1) x:=e5;show bh _ _ (Builtin.SmallTypes.ownedTupleHandOut (.ref e) (.ref h0.objs.size) >>= _) _ _ ⟨g5,gs,dr,tk+1,os⟩;refine aw ?_;unfold Builtin.SmallTypes.ownedTupleHandOut;refine aw (iz e5 yv fun g6 e6 b6=>?_);replace b6:fg e g5 g6:=b6;replace e6:IsEnumOut g6 e j ((i:Int)+1) x h0.objs.size:=e6;refine iz e6 yv fun g7 e7 b7=>?_;replace b7:fg e g6 g7:=b7;replace e7:IsEnumOut g7 e j ((i:Int)+1) x h0.objs.size:=e7;have k7:∀b o,b≠e->g4.get? b=some o->g7.get? b=some o:=fun b o n q=>b7.extBut b o n (b6.extBut b o n (b5.extBut b o n q));exact aw (wpAny_letGo (bj ⟨_,rfl,hQ g7 e7 (hJ _ _ J4 fun o q=>k7 j o (fw y) q) (k7 _ _ (ne_of_gt lt) t4) fun b o n1 n2 q=>k7 b o n1 (k4 b o n1 n2 q)⟩))
theorem xU{e j:Addr}{i:Nat}{x q:au}{J:Heap->Prop}{Q:Option au->ax->Prop}(he:IsEnum s.heap e j i q)(p:e≠j)
  (hn:∀(A:ef) (Q':au->ax->Prop) (E':au->ax->Prop),(∀g,J g->fg j s.heap g->Q' x { s with heap:=g })->bh (model prog w) A (fb (.ref j)) Q' E' s)
  (hJ:∀g g',J g->(∀o,g.get? j=some o->g'.get? j=some o)->J g')
  (hQ:∀g,IsEnumOut g e j ((i:Int)+1) x s.heap.objs.size->J g->g.get? s.heap.objs.size=some { cls:=.type "tuple",data:=.seq #[.int i s.toks,x] } ->
   (∀b o,b≠e->b≠j->s.heap.get? b=some o->g.get? b=some o)->Q (some (.ref s.heap.objs.size)) { s with heap:=g,toks:=s.toks+1 }):bh (model prog w) A (pyNext (.ref e)) Q E s:=by
 have ty:s.TypeIs (.ref e) "enumerate":=⟨_,he,rfl⟩;unfold pyNext;exact aw (wpAny_attempt (gk (name:=Str.ofString "__next__") ty F.slot_enumerate_next (jw F.slot_enumerate_next ty F.entry_enumerate_next (A2 he p (hn _) hJ fun g a b c k=>bj (hQ g a b c k)) (F.args_enumerate_next_1 _))))
theorem tJ{e j:Addr}{i:Nat}{p:au}{Q:Option au->ax->Prop}(hh:A.handled=none)(he:IsEnum s.heap e j i p)
  (hn:∀(A:ef) (Q':au->ax->Prop) (E':au->ax->Prop),A.handled=none->(∀g x,Heap.ExtBut j s.heap g->(∃o,g.get? x=some o/\o.cls=.type "StopIteration")->E' (.ref x) { s with heap:=g })->bh (model prog w) A (fb (.ref j)) Q' E' s)
  (hQ:∀g,Heap.ExtBut j s.heap g->Q none { s with heap:=g }):bh (model prog w) A (pyNext (.ref e)) Q E s:=by
 have ty:s.TypeIs (.ref e) "enumerate":=⟨_,he,rfl⟩;unfold pyNext;refine aw (wpAny_attempt (gk (name:=Str.ofString "__next__") ty F.slot_enumerate_next (jw F.slot_enumerate_next ty F.entry_enumerate_next ?_ (F.args_enumerate_next_1 _))));show bh _ _ (field (.ref e) 2 >>= _) _ _ _;refine aw (gd he rfl (x:=.ref j) rfl (aw (hn _ _ _ hh fun g x b hx=>?_)));obtain⟨o,ho,hc⟩:=hx;exact aw (wpAny_isInstance (T:="StopIteration") (b:=true) ⟨o,ho,hc⟩ isSubtype_stop (bj (hQ _ b)))
theorem F4(t:Addr)(vs:Array au)(n:Nat)(q:Option Addr)(sl:Array (Option au)):Meets (Builtin.«enumerate.__new__» ⟨[.type "enumerate",.ref t],[]⟩) (fun _ R s=>s.heap.get? t=some { cls:=.type "tuple",dict:=q,data:=.seq vs n,slots:=sl } /\
   R (.ok (.ret (.ref (s.heap.push { cls:=.type "tuple_iterator",data:=.fields #[.ref t,.int 0 0] }).objs.size)))
    { s with heap:=(s.heap.push { cls:=.type "tuple_iterator",data:=.fields #[.ref t,.int 0 0] }).push { cls:=.type "enumerate",data:=.fields #[.none,.bool false,.ref s.heap.objs.size,rawInt 0,.none,.none] } }):=
 .of_wp fun prog w A R s p=>by
  obtain⟨g0,gs,dr,tk,os⟩:=s;obtain⟨ht,p⟩:=p;have sub:=sub_enumerate;have hT:Heap.IsTuple (Shared.heap ⟨g0,gs,dr,tk,os⟩) t vs:=⟨_,ht,rfl,n,rfl⟩
  wp_walk using wpAny_loadPart' ht
  refine wpAny_stack_any fun _=>bj ?_;split
  ·rename_i c _ _ _ _ _;cases (c==Value.type "enumerate")<;>(wp_walk using wpAny_loadPart' ht,wpAny_pyIter_tuple hT;exact⟨_,rfl,p⟩)
  ·wp_walk using wpAny_loadPart' ht,wpAny_pyIter_tuple hT
   exact⟨_,rfl,p⟩
theorem Bg{t:Addr}{vs:Array au}{Q:au->ax->Prop}(hT:s.heap.IsTuple t vs)
  (hyp:∀g,IsEnum g (s.heap.objs.size+1) s.heap.objs.size 0 .none->g.IsTupleIter s.heap.objs.size t 0->(∀b o,s.heap.get? b=some o->g.get? b=some o)->Q (.ref (s.heap.objs.size+1)) { s with heap:=g }):bh (model prog w) A (call (.type "enumerate") [.ref t]) Q E s:=by
 obtain⟨⟨c,p,dt,sl⟩,ht,hc,n,hd⟩:=hT;replace hc:c=.type "tuple":=hc;replace hd:dt=.seq vs n:=hd;subst hc hd;refine callType_new F.called_enumerate dz (F.typeCall_enumerate_1 _) (F.newCall_enumerate_1 _) (fun ob=>F.args_object_init_2 ob _) F.entry_enumerate_new (F4 t vs n p sl) ⟨ht,?_⟩;have sz:(s.heap.push { cls:=.type "tuple_iterator",data:=.fields #[.ref t,.int 0 0] }).objs.size=s.heap.objs.size+1:=size_push ..;show _/\_;rw[sz];have he:=bw (s.heap.push { cls:=.type "tuple_iterator",data:=.fields #[.ref t,.int 0 0] }) (o:={ cls:=.type "enumerate",data:=.fields #[.none,.bool false,.ref s.heap.objs.size,rawInt 0,.none,.none] }) rfl;rw[sz]at he;exact⟨⟨_,he,rfl⟩,hyp _ he ⟨_,bb _ (bw _ rfl),rfl,rfl⟩ fun b o q=>bb _ (bb _ q)⟩
end
def Ite(Sq:Hp->Addr->List V->Prop)(a:Addr):It:=
 ⟨fun i H=>∃xs x,Sq H a xs/\xs[i]?=some x,fun i H x H'=>∃p v,H p=none/\x=.ref p/\H'=upd H p (.tup [.int i,v])/\∀xs,Sq H a xs->xs[i]?=some v,fun i H=>∃xs,Sq H a xs/\xs.length<=i⟩
theorem CK{P:ca}{w:cy}{K:bf}{elts:List Expr}{n:Nat}{pos:Pos}(a e j:Addr)(ab:e≠j):Turn P w K (.Tuple elts n pos) (Ite (SqT K) a) [e,j] e (fun i h=>(∃y,IsEnum h e j i y)/\h.IsTupleIter j a i) where
 mem:=by simp
 obj:=fun i h ⟨⟨y,he⟩,hj⟩ b hb=>by
  rcases mem_cons.mp hb with rfl|hb
  ·exact⟨_,he,fun v z=>by
    have z':Data.fields _=Data.cell v:=z;cases z'⟩
  ·rw[mem_singleton.mp hb];obtain⟨o,q,c,d⟩:=hj;exact⟨o,q,fun v z=>by rw[d]at z;cases z⟩
 keep:=fun i h h' ⟨⟨y,he⟩,hj⟩ k=>⟨⟨y,k e yv _ he⟩,hj.at fun o q=>k j yv o q⟩
 item:=by
  intro X hP hw hK hc i zc s σ H E I hf ⟨⟨y,he⟩,hj⟩ hg;subst hP hw hK;obtain⟨xs,x,hq,hx⟩:=hg;obtain⟨aa,rv,p,hz⟩:=I.tuple hq;obtain⟨u,hu,ru⟩:=rv.get hx;have hT:s.heap.IsTuple a aa.toArray:=p;refine xU (J:=fun g=>g.IsTupleIter j a (i+1)) he ab (fun A' Q' E' k=>D5 hj hT (x:=u) (by simpa using hu) k) (fun g g' z k=>z.at k) fun g e1 j1 t1 k1=>?_;refine⟨_,rfl,wpAny_letOwnedTupleGo_enum (s:={ s with heap:=g,toks:=s.toks+1 }) e1 fun g' e2 b2=>?_⟩;have lt:e<s.heap.objs.size:=cr he;have ac:j<s.heap.objs.size:=by
   obtain⟨_,q,_⟩:=hj;exact cr q
  have t2:g'.get? s.heap.objs.size=some { cls:=.type "tuple",data:=.seq #[.int i s.toks,u] }:=(b2.2 _ (ne_of_gt lt)).trans t1;have ae:H s.heap.objs.size=none:=I.hok.fresh (bp _);refine⟨.ref s.heap.objs.size,upd H s.heap.objs.size (.tup [.int i,x]),I.turnLaid (ch:=[e,j]) (t':=s.toks+1) (fun b o nb q=>(b2.2 b fun z=>nb (by simp[z])).trans (k1 b o (fun z=>nb (by simp[z])) (fun z=>nb (by simp[z])) q)) hf (bp _) ?_,rfl,
   ⟨_,x,ae,rfl,rfl,fun ys hy=>by rw[I.tuple_inj hy hq];exact hx⟩,⟨⟨u,by simpa using e2⟩,j1.at fun o q=>(b2.2 j (fw ab)).trans q⟩,fun b hb=>?_⟩
  ·refine⟨⟨by show 2<=be;decide,_,t2,rfl⟩,[.int i s.toks,u],.cons ⟨s.toks,rfl⟩ (.cons ru .nil),⟨_,t2,rfl,_,rfl⟩⟩
  ·rcases mem_cons.mp hb with rfl|hb
   ·rw[zp (ff lt)];exact(hf _ yv).1
   ·rw[mem_singleton.mp hb,zp (ff ac)];exact(hf _ yv).1
 done:=by
  intro X hP hw hK hc i zc s σ H E I hf ⟨⟨y,he⟩,hj⟩ hg;subst hP hw hK;obtain⟨xs,hq,hx⟩:=hg;obtain⟨aa,rv,p,hz⟩:=I.tuple hq;have hT:s.heap.IsTuple a aa.toArray:=p;have hl:=rv.length;exact tJ (I.ok.hd hc) he (fun A' Q' E' h0 k=>EJ h0 hj hT (by simp;omega) k) fun g b=>⟨rfl,I.turnedN (ch:=[e,j]) (t':=s.toks) (fun b' o nb q=>b b' o (fun z=>nb (by simp[z])) q) hf⟩
 self:=fun _ _ _ _ _ st h=>by
  obtain⟨⟨y,he⟩,_⟩:=st;exact wpAny_pyIter_enum he h
theorem E4{P:ca}{w:cy}{K:bf}{elts:List Expr}{n:Nat}{pos:Pos}(a e j:Addr)(ab:e≠j):Turn P w K (.Tuple elts n pos) (Ite (SqL K) a) [e,j] e (fun i h=>(∃y,IsEnum h e j i y)/\h.IsListIter j a i) where
 mem:=by simp
 obj:=fun i h ⟨⟨y,he⟩,hj⟩ b hb=>by
  rcases mem_cons.mp hb with rfl|hb
  ·exact⟨_,he,fun v z=>by
    have z':Data.fields _=Data.cell v:=z;cases z'⟩
  ·rw[mem_singleton.mp hb];obtain⟨o,q,c,d⟩:=hj;exact⟨o,q,fun v z=>by rw[d]at z;cases z⟩
 keep:=fun i h h' ⟨⟨y,he⟩,hj⟩ k=>⟨⟨y,k e yv _ he⟩,hj.at fun o q=>k j yv o q⟩
 item:=by
  intro X hP hw hK hc i zc s σ H E I hf ⟨⟨y,he⟩,hj⟩ hg;subst hP hw hK;obtain⟨xs,x,hq,hx⟩:=hg;obtain⟨aa,rv,p,hz⟩:=I.list hq;obtain⟨u,hu,ru⟩:=rv.get hx;have hT:s.heap.IsList a aa.toArray:=p.isList;refine xU (J:=fun g=>g.IsListIter j a (i+1)) he ab (fun A' Q' E' k=>wpAny_nextOf_list_item hj hT (x:=u) (by simpa using hu) k) (fun g g' z k=>z.at k) fun g e1 j1 t1 k1=>?_;refine⟨_,rfl,wpAny_letOwnedTupleGo_enum (s:={ s with heap:=g,toks:=s.toks+1 }) e1 fun g' e2 b2=>?_⟩;have lt:e<s.heap.objs.size:=cr he;have ac:j<s.heap.objs.size:=by
   obtain⟨_,q,_⟩:=hj;exact cr q
  have t2:g'.get? s.heap.objs.size=some { cls:=.type "tuple",data:=.seq #[.int i s.toks,u] }:=(b2.2 _ (ne_of_gt lt)).trans t1;have ae:H s.heap.objs.size=none:=I.hok.fresh (bp _);refine⟨.ref s.heap.objs.size,upd H s.heap.objs.size (.tup [.int i,x]),I.turnLaid (ch:=[e,j]) (t':=s.toks+1) (fun b o nb q=>(b2.2 b fun z=>nb (by simp[z])).trans (k1 b o (fun z=>nb (by simp[z])) (fun z=>nb (by simp[z])) q)) hf (bp _) ?_,rfl,
   ⟨_,x,ae,rfl,rfl,fun ys hy=>by rw[I.list_inj hy hq];exact hx⟩,⟨⟨u,by simpa using e2⟩,j1.at fun o q=>(b2.2 j (fw ab)).trans q⟩,fun b hb=>?_⟩
  ·refine⟨⟨by show 2<=be;decide,_,t2,rfl⟩,[.int i s.toks,u],.cons ⟨s.toks,rfl⟩ (.cons ru .nil),⟨_,t2,rfl,_,rfl⟩⟩
  ·rcases mem_cons.mp hb with rfl|hb
   ·rw[zp (ff lt)];exact(hf _ yv).1
   ·rw[mem_singleton.mp hb,zp (ff ac)];exact(hf _ yv).1
 done:=by
  intro X hP hw hK hc i zc s σ H E I hf ⟨⟨y,he⟩,hj⟩ hg;subst hP hw hK;obtain⟨xs,hq,hx⟩:=hg;obtain⟨aa,rv,p,hz⟩:=I.list hq;have hT:s.heap.IsList a aa.toArray:=p.isList;have hl:=rv.length;exact tJ (I.ok.hd hc) he (fun A' Q' E' h0 k=>wpAny_nextOf_list_end h0 hj hT (by simp;omega) k) fun g b=>⟨rfl,I.turnedN (ch:=[e,j]) (t':=s.toks) (fun b' o nb q=>b b' o (fun z=>nb (by simp[z])) q) hf⟩
 self:=fun _ _ _ _ _ st h=>by
  obtain⟨⟨y,he⟩,_⟩:=st;exact wpAny_pyIter_enum he h
section
variable {X:Cx}{elts:List Expr}{n:Nat}{tpos:Pos}
theorem A9:dh "enumerate" = some (.type "enumerate"):=by decide +kernel
end
def c6(i:Nat):List av->List av
 | []=>[]
 |d::ds=>.tuple [.int i,d]::c6 (i+1) ds
theorem mB:∀(ds:List av) (i:Nat),(c6 i ds).length=ds.length
 | [],_=>rfl
 |d::ds,i=>by simp[c6,mB ds (i+1)]
theorem nR:∀(ds:List av) (i k:Nat) (d:av),(c6 i ds)[k]?=some d->∃e,ds[k]?=some e/\d=.tuple [.int ((i+k:Nat):Int),e]
 | [],_,_,_,h=>by simp[c6]at h
 |c::ds,i,0,d,h=>by
  have e:PyData.tuple [.int i,c]=d:=by simpa[c6]using h
  exact⟨c,rfl,by rw[<- e];rfl⟩
 |c::ds,i,k+1,d,h=>by
  obtain⟨e,h1,h2⟩:=nR ds (i+1) k d (by simpa[c6]using h);exact⟨e,by simpa using h1,by rw[h2];congr 3;omega⟩
end
section
def dIx:D2:=fun x y S R=>asI y fun i=>match x with
 | .d (.tuple ds)=>∃d,atI ds i=some d/\R (.d d) S
 | .d (.list ds)=>∃d,atI ds i=some d/\R (.d d) S
 | .l k=>∃ds,S[k]?=some ds/\∃d,atI ds i=some d/\R (.d d) S
 | .d (.str z)=>z.length<=be/\∃c,atI z.cps.toList i=some c/\R (.d (.str ⟨#[c]⟩)) S
 |_=>False
theorem Cv:RO pX (fun x y S R=>asS x fun z=>asI y fun i=>z.length<=be/\∃c,atI z.cps.toList i=some c/\R (.d (.str ⟨#[c]⟩)) S):=fun h o H S x y v u R Q hs hx hy q c=>by
 replace q:=yS q;obtain⟨z,rfl,q⟩:=q;replace q:=aQ q;obtain⟨i,rfl,hz,k,ek,q⟩:=q;exact⟨z,i,k,eF hx,aP hy,hz,ek,c o H S _ _ Ex.refl hs (xS _) q⟩
theorem mO{K:bf}:RO (rIx K) dIx:=fun h o H S x y v u R Q hs hx hy q c=>by
 replace q:=aQ q;obtain⟨i,rfl,q⟩:=q;split at q
 ·exact .inr (.inl (BE h o H S _ _ v u R Q hs hx hy q c))
 ·exact .inl (xZ h o H S _ _ v u R Q hs hx hy ⟨_,rfl,q⟩ c)
 ·exact .inl (xZ h o H S _ _ v u R Q hs hx hy q c)
 ·exact .inr (.inr (Cv h o H S _ _ v u R Q hs hx hy q c))
 ·exact q.elim
section
variable {S:Sto}{R:RX}{ds:List av}{i:Int}{k:Nat}{z:Str}
theorem iV:dIx (.d (.tuple ds)) (.d (.int i)) S R=∃d,atI ds i=some d/\R (.d d) S:=rfl
theorem k8:dIx (.d (.list ds)) (.d (.int i)) S R=∃d,atI ds i=some d/\R (.d d) S:=rfl
theorem i9:dIx (.l k) (.d (.int i)) S R=∃ds,S[k]?=some ds/\∃d,atI ds i=some d/\R (.d d) S:=rfl
end
def uY(K:bf):V->Option Int->Option Int->Hp->VK->Prop:=fun x a b H Q=>jR K x a b H Q\/(rO K x a b H Q\/wH x a b H Q)
theorem FQ{X:Cx}:SlR X (uY X.K):=v6.or (F2.or Fe)
def lX:D3:=fun x i j S R=>match x with
 | .d (.tuple ds)=>¬(HT.sIx ds.length 0 i=0/\HT.sIx ds.length ds.length j=ds.length)/\R (.d (.tuple (cY ds i j))) S
 | .d (.list ds)=>R (.d (.list (cY ds i j))) S
 | .l k=>∃ds,S[k]?=some ds/\R (.d (.list (cY ds i j))) S
 | .d (.str z)=>z.length<=be/\R (.d (.str (PySem.Txt.slice z i j))) S
 |_=>False
theorem Bl{K:bf}:RL (uY K) lX:=fun h o H S x v a b R Q hs hx q c=>by
 unfold lX at q;split at q
 ·exact .inr (.inl (Ej h o H S _ v a b R Q hs hx q c))
 ·exact .inl (AO h o H S _ v a b R Q hs hx ⟨_,rfl,q⟩ c)
 ·exact .inl (AO h o H S _ v a b R Q hs hx q c)
 ·exact .inr (.inr ⟨_,eF hx,q.1,c o H S _ _ Ex.refl hs (xS _) q.2⟩)
 ·exact q.elim
section
variable {S:Sto}{R:RX}{ds:List av}{i j:Option Int}{k:Nat}{z:Str}
theorem jV:lX (.d (.list ds)) i j S R=R (.d (.list (cY ds i j))) S:=rfl
end
def wU(K:bf):R2:=fun x y H Q=>∃a b ys,x=.ref a/\y=.ref b/\SqT K H a []/\SqT K H b ys/\Q (.ref b) H
theorem Fq{X:Cx}:OpR X (gf .Add) (wU X.K):=by
 intro zc s σ H x y v u Q I rx ry h;obtain⟨a,b,ys,rfl,rfl,ha,hb,q⟩:=h;cases rx;cases ry;obtain⟨z,r1,p1,_⟩:=I.tuple ha;obtain⟨p,r2,p2,_⟩:=I.tuple hb;cases r1;obtain⟨⟨c1,d1,e1,l1⟩,o1,w1,n1,k1⟩:=id p1;obtain⟨⟨c2,d2,e2,l2⟩,o2,w2,n2,k2⟩:=id p2;simp only at w1 k1 w2 k2;subst w1 k1 w2 k2;exact concat_meets ⟨_,o1,rfl⟩ ⟨_,o2,rfl⟩ noFill_tuple_add seq_tuple_add PySem.F.slot_tuple_add PySem.F.entry_tuple_add (PySem.F.args_tuple_add_2 _ _) (tuple_addW0 a b _ _ n1 n2 d1 d2 l1 l2 yv) ⟨o1,o2,⟨.ref b,H,I,rfl,q⟩⟩
def AH(K:bf):R2:=fun x y H Q=>rI0 (fun i j=>.int (i+j)) x y H Q\/(l7 x y H Q\/(qO K x y H Q\/(wU K x y H Q\/∃i j,x=.str i/\y=.str j/\i.length+j.length<=be/\Q (.str (i++j)) H)))
theorem zX{X:Cx}:OpR X (gf .Add) (AH X.K):=Ca.or (vI.or (Cr.or (Fq.or Cp)))
def aM:D2:=fun x y S R=>match x,y with
 | .d (.int i),.d (.int j)=>R (.d (.int (i+j))) S
 | .d (.tuple ds),.d (.tuple es)=>ds.length+es.length<=1000/\R (.d (.tuple (ds++es))) S
 | .d (.str a),.d (.str b)=>a.length+b.length<=be/\R (.d (.str (a++b))) S
 |x,y=>asL S x fun ds=>asL S y fun es=>ds.length+es.length<=1000/\R (.d (.list (ds++es))) S
theorem mJ{K:bf}:RO (AH K) aM:=fun h o H S x y v u R Q hs hx hy q c=>by
 unfold aM at q;split at q
 ·exact .inl (yM h o H S _ _ v u R Q hs hx hy q c)
 ·rename_i ds es;cases ds with
  |cons d ds=>exact .inr (.inr (.inl (CU h o H S _ _ v u R Q hs hx hy ⟨yv,q⟩ c)))
  |nil=>
   obtain⟨a,vs,rfl,ea,l⟩:=dU hx;obtain⟨b,us,rfl,eb,l'⟩:=dU hy;rw[zo.mp l]at ea;exact .inr (.inr (.inr (.inl ⟨a,b,us,rfl,rfl,.of ea,.of eb,c o H S (.d (.tuple es)) _ Ex.refl hs hy q.2⟩)))
 ·exact .inr (.inr (.inr (.inr ⟨_,_,eF hx,eF hy,q.1,c o H S _ _ Ex.refl hs (xS _) q.2⟩)))
 ·exact .inr (.inl (Bp h o H S _ _ v u R Q hs hx hy q c))
section
variable {S:Sto}{R:RX}{ds es:List av}{i j:Int}{k l:Nat}{a b:Str}
theorem iR:aM (.d (.int i)) (.d (.int j)) S R=R (.d (.int (i+j))) S:=rfl
theorem kG:aM (.d (.list ds)) (.d (.list es)) S R↔(ds.length+es.length<=1000/\R (.d (.list (ds++es))) S):=⟨fun⟨_,e,_,e',q⟩=>by cases e;cases e';exact q,fun q=>⟨_,rfl,_,rfl,q⟩⟩
theorem lS:aM (.d (.list ds)) (.l k) S R↔∃es,S[k]?=some es/\ds.length+es.length<=1000/\R (.d (.list (ds++es))) S:=⟨fun⟨_,e,_,e',q⟩=>by cases e;exact⟨_,e',q⟩,fun⟨_,e,q⟩=>⟨_,rfl,_,e,q⟩⟩
end
def xL:R2:=fun x y H Q=>rI IntMulOk (fun i j=>.int (i*j)) x y H Q\/(yC x y H Q\/t6 x y H Q)
theorem cF{X:Cx}:OpR X (gf .Mult) xL:=Co.or (FB.or Ec)
def bB:D2:=fun x y S R=>asI y fun j=>match x with
 | .d (.int i)=>IntMulOk i j/\R (.d (.int (i*j))) S
 | .d (.str z)=>z.length<=1000/\j<=1000/\-1000<=j/\R (.d (.str (PySem.Txt.mul z j))) S
 | .d (.list ds)=>j<=1000/\-1000<=j/\ds.length*j.toNat<=1000/\R (.d (.list (az j.toNat ds).flatten)) S
 |_=>False
theorem HasL.rep{H:Hp}{ds:List av}{vs:List V}(l:HasL H ds vs):∀n:Nat,HasL H (az n ds).flatten (az n vs).flatten
 | 0=>zo.mpr rfl
 |n+1=>by
  rw[gi,gi,jx,jx];exact l.append (HasL.rep l n)
theorem vE:RO xL bB:=fun h o H S x y v u R Q hs hx hy q c=>by
 replace q:=aQ q;obtain⟨j,rfl,q⟩:=q;split at q
 ·exact .inl (m8 h o H S _ _ v u R Q hs hx hy q c)
 ·exact .inr (.inl ⟨_,_,eF hx,aP hy,q.1,q.2.1,q.2.2.1,c o H S _ _ Ex.refl hs (xS _) q.2.2.2⟩)
 ·obtain⟨a,vs,rfl,ea,l⟩:=bL (x:=.d (.list _)) hs rfl hx;obtain⟨h1,h2,h3,q⟩:=q;exact .inr (.inr ⟨a,j,vs,rfl,aP hy,ea,yw,yw,by rw[l.length];exact gu (small1000 h3),m7 hs (l.rep j.toNat) c q⟩)
 ·exact q.elim
section
variable {S:Sto}{R:RX}{i j:Int}{z:Str}{ds:List av}
theorem lG:bB (.d (.int i)) (.d (.int j)) S R=(IntMulOk i j/\R (.d (.int (i*j))) S):=rfl
end
def tY:R2:=fun x y H Q=>rI CDivX (fun i j=>.int (i/j)) x y H Q\/rI CDivN (fun i j=>.int (i.fdiv j)) x y H Q
theorem wX{X:Cx}:OpR X (gf .FloorDiv) tY:=Eu.or Fb
def dFd:D2:=fun x y S R=>asI x fun i=>asI y fun j=>(CDivX i j/\R (.d (.int (i/j))) S)\/(CDivN i j/\R (.d (.int (i.fdiv j))) S)
theorem BZ:RO tY dFd:=fun h o H S x y v u R Q hs hx hy q c=>by
 replace q:=aQ q;obtain⟨i,rfl,q⟩:=q;replace q:=aQ q;obtain⟨j,rfl,q⟩:=q;rcases q with q|q
 ·exact .inl (m8 (C:=CDivX) (g:=fun i j=>i/j) h o H S _ _ v u R Q hs hx hy q c)
 ·exact .inr (m8 (C:=CDivN) (g:=fun i j=>i.fdiv j) h o H S _ _ v u R Q hs hx hy q c)
def qA(S:Sto):XV->Option Bool
 | .d .none=>some false
 | .d (.bool b)=>some b
 | .d (.int i)=>some (i != 0)
 | .d (.str z)=>if z.length<=be then some ((z.length:Int) != 0)else none
 | .d (.list ds)=>some (!ds.isEmpty)
 | .d (.tuple ds)=>some (!ds.isEmpty)
 | .l k=>(S[k]?).map fun ds=>!ds.isEmpty
 |_=>none
def aS(a:DE):DT:=fun δ S R=>a δ S fun x S1=>∃k,qA S1 x=some k/\R k S1
theorem oR{H:Hp}{ds:List av}{vs:List V}(l:HasL H ds vs):(!ds.isEmpty)=!vs.isEmpty:=by
 have:=l.length;cases ds<;>cases vs<;>simp_all
theorem eB{K:bf}{ta:TE}{da:DE}(ha:RE ta da):RT (fun σ H Q=>ta σ H fun x H'=>∃k,TruV K x H' k/\Q k H') (aS da):=fun h o H δ σ S R Q he hs q c=>
 ha h o H δ σ S _ _ he hs q fun o1 H1 S1 x v e1 s1 x1 ⟨k,ek,d1⟩=>by
  refine⟨k,?_,c o1 H1 S1 k e1 s1 d1⟩;unfold qA at ek;split at ek
  ·cases ek;rw[(fX (H:=vx h o1 H1)).mp x1];rfl
  ·cases ek;rw[d7 x1];rfl
  ·cases ek;rw[aP x1];rfl
  ·split at ek
   ·rename_i hz;cases ek;rw[eF x1];exact⟨hz,rfl⟩
   ·cases ek
  ·obtain⟨a,vs,rfl,ea,l⟩:=bL (x:=.d (.list _)) s1 rfl x1;cases ek;exact .inl ⟨vs,.of ea,oR l⟩
  ·obtain⟨a,vs,rfl,ea,l⟩:=dU x1;cases ek;exact .inr (.inl ⟨vs,.of ea,oR l⟩)
  ·rename_i j _;cases hj:S1[j]? with
   |none=>rw[hj]at ek;cases ek
   |some ds=>
    rw[hj]at ek;cases ek;obtain⟨a,vs,rfl,ea,l⟩:=bL (x:=.l j) s1 hj x1;exact .inl ⟨vs,.of ea,oR l⟩
  ·cases ek
section
variable {S:Sto}{b:Bool}{i:Int}{ds:List av}{k:Nat}
theorem i8:qA S (.d (.bool b))=some b:=rfl
end
def lZ:DS:=fun _ _ _=>False
def wE(K:bf)(tl:TE):TI:=fun σ H R=>tl σ H fun x H1=>∃a,x=.ref a/\(((∃xs,SqL K H1 a xs)/\R (Itl K a) H1)\/((∃xs,SqT K H1 a xs)/\R (Itt K a) H1))
theorem cB{X:Cx}{tg:Expr}{l:Expr}{tl:TE}(hl:PE X l tl):PI X tg l (wE X.K tl):=by
 intro zc s σ H R I h;refine thn (hl zc s σ H _ I h) fun v s1 ⟨x,H1,I1,r1,q1⟩=>?_;obtain⟨a,e,⟨⟨xs,hq⟩,q⟩|⟨⟨xs,hq⟩,q⟩⟩:=q1
 ·subst e;cases r1;obtain⟨y,rv,p,hz⟩:=I1.list hq;refine jk p.isList ?_;refine⟨s1.heap.objs.size,[s1.heap.objs.size],_,_,H1,rfl,I1.kept (t':=s1.toks) fun b o e=>bb _ e,uZ a _,⟨_,bw _ rfl,rfl,rfl⟩,fun b hb=>?_,q⟩;have e:b=s1.heap.objs.size:=by simpa using hb
  subst e;exact I1.fpOk (bp _) (I1.hok.fresh (bp _))
 ·subst e;cases r1;obtain⟨y,rv,p,hz⟩:=I1.tuple hq;refine wpAny_pyIter_tuple (show s1.heap.IsTuple a y.toArray from p) ?_;refine⟨s1.heap.objs.size,[s1.heap.objs.size],_,_,H1,rfl,I1.kept (t':=s1.toks) fun b o e=>bb _ e,Ah a _,⟨_,bw _ rfl,rfl,rfl⟩,fun b hb=>?_,q⟩;have e:b=s1.heap.objs.size:=by simpa using hb
  subst e;exact I1.fpOk (bp _) (I1.hok.fresh (bp _))
def bG:XV->Option (List av)
 | .d (.list ds)=>some ds
 | .d (.tuple ds)=>some ds
 |_=>none
theorem lP{ds:List av}:bG (.d (.list ds))=some ds:=rfl
theorem jD{ds:List av}:bG (.d (.tuple ds))=some ds:=rfl
def aR(e:DE):DI:=fun δ S R=>e δ S fun x S1=>∃ds,bG x=some ds/\R ds S1
theorem dA{K:bf}{te:TE}{de:DE}(p:RE te de):RI (wE K te) (aR de):=fun h o H δ σ S R Q he hs q c=>
 p h o H δ σ S _ _ he hs q fun o1 H1 S1 x v e1 s1 x1 ⟨ds,ex,d1⟩=>by
  unfold bG at ex;split at ex
  ·cases ex;obtain⟨a,vs,rfl,ea,l⟩:=zU.mp (show Has _ _ _ from x1);have hl:=l.length;refine⟨a,rfl,.inl ⟨⟨vs,.of (zA _ _ ea)⟩,c o1 H1 S1 ds _ e1 s1 ⟨fun i o2 H2 e2 hi=>⟨vs,.of (zA _ _ (e2.vx _ _ ea)),yw⟩,fun i d o2 H2 e2 hi=>?_,fun i d o2 H2 x H3 S2 e2 s2 hi y=>?_⟩ d1⟩⟩
   ·obtain⟨v,ev,_⟩:=l.get hi;exact⟨vs,v,.of (zA _ _ (e2.vx _ _ ea)),ev⟩
   ·obtain⟨v,ev,hv⟩:=l.get hi;have e3:H3=H2:=y.1;subst e3;have ex:=y.2 vs (.of (zA _ _ (e2.vx _ _ ea)));rw[ev]at ex;cases ex;exact⟨Same.refl _,hv.mono e2.vx⟩
  ·cases ex;obtain⟨a,vs,rfl,ea,l⟩:=zJ.mp (show Has _ _ _ from x1);have hl:=l.length;refine⟨a,rfl,.inr ⟨⟨vs,.of (zA _ _ ea)⟩,c o1 H1 S1 ds _ e1 s1 ⟨fun i o2 H2 e2 hi=>⟨vs,.of (zA _ _ (e2.vx _ _ ea)),yw⟩,fun i d o2 H2 e2 hi=>?_,fun i d o2 H2 x H3 S2 e2 s2 hi y=>?_⟩ d1⟩⟩
   ·obtain⟨v,ev,_⟩:=l.get hi;exact⟨vs,v,.of (zA _ _ (e2.vx _ _ ea)),ev⟩
   ·obtain⟨v,ev,hv⟩:=l.get hi;have e3:H3=H2:=y.1;subst e3;have ex:=y.2 vs (.of (zA _ _ (e2.vx _ _ ea)));rw[ev]at ex;cases ex;exact⟨Same.refl _,hv.mono e2.vx⟩
  ·cases ex
def jF(dt:DS):DS:=fun E δ S=>dt { E with nx:=fun δ' S'=>∃S0 ds,S'=S0++[ds]/\S.length<=S0.length/\E.nx (δ'.map (frz S0.length ds)) S0 } δ S
end
section
abbrev PN:=List XV->Sto->RX->Prop
def lfN(q:PN):List V->Hp->VK->Prop:=fun vs H Q=>∃h o S xs R,RepS h o H S/\HasXs h o H xs vs/\q xs S R/\Cn h o H R Q
def spN(ps:List Str)(q:PN):Sp:=fun vs H Q _=>vs.length=ps.length/\lfN q vs H Q
theorem HasXs.len{h o:List Addr}{H:Hp}:∀{xs:List XV}{vs:List V},HasXs h o H xs vs->vs.length=xs.length
 | [],vs,q=>by rw[show vs=[]from q];rfl
 |x::xs,vs,⟨v,r,e,_,l⟩=>by rw[e,br,br,HasXs.len l]
theorem HasXs.get{h o:List Addr}{H:Hp}:∀{xs:List XV}{vs:List V}{i:Nat}{x:XV},HasXs h o H xs vs->xs[i]?=some x->∃v,vs[i]?=some v/\HasX h o H x v
 | [],_,i,_,_,e=>by simp at e
 |y::xs,vs,0,x,⟨v,r,e1,q,l⟩,e=>by
  rw[iy]at e;cases e;subst e1;exact⟨v,rfl,q⟩
 |y::xs,vs,i+1,x,⟨v,r,e1,q,l⟩,e=>by
  subst e1;rw[ib]at e ⊢;exact HasXs.get l e
theorem sJ{h o:List Addr}{H:Hp}{xs:List XV}{vs:List V}{n:Nat}(q:HasXs h o H xs vs):RepE h o H (xs.map some++az n none) (vs.map some++az n none):=by
 have hl:=q.len;refine⟨by simp[hl],fun i x e=>?_⟩;by_cases hi:i<xs.length
 ·rw[cn (by rw[bo];exact hi),eg]at e;obtain⟨y,ey,e⟩:=map_eq_some_iff.mp e;cases e;obtain⟨v,ev,hv⟩:=q.get ey;exact⟨v,by rw[cn (by rw[bo,hl];exact hi),eg,ev];rfl,hv⟩
 ·rw[ic (by rw[bo];omega),List.getElem?_replicate]at e;split at e<;>cases e
section
variable {P:ca}{w:cy}{K:bf}{mg:Str->Option au}{base:Heap}{x:Str}{st:Stmt}{N ps:List Str}{k:Nat}
theorem Df.dN{q:PN}(D:Dd K mg x st ps)(S:FnScope N ps (zf st))(n:Nat)(hn:N.length=ps.length+n)
  (hbody:∀(f:Addr) (p:au) (A:ef) (outer:List Env) (s:ax) (H:Hp) (E:XK),Room k (A.deeper (ku x (zf st) s.heap.objs.size f p)) ->
   ∃t dt,PSs (cT CX0 P w K mg base N x (zf st) f p A outer s H E).nox (bX st) t/\RS t dt/\∀xs S R,q xs S R->dt (aI S.length R) (xs.map some++az n none) S):Df P w K mg base x ps (k+1) (spN ps q):=by
 refine Df.of D S (fun vs H Q E h=>h.1) fun f p A outer s H vs Q E hr ⟨hl,h,o,S',xs,R,y,hx,hq,c⟩=>?_;obtain⟨t,dt,h1,h2,h3⟩:=hbody f p A outer s H E hr;refine⟨t,h1,h2 h o H _ _ S' _ _ ?_ y (h3 xs S' R hq) (eok y c)⟩;have e:N.length-vs.length=n:=yw
 unfold start;rw[e];exact sJ hx
end
section
variable {X:Cx}{x:Str}{ps:List Str}{k j:Nat}{pos pos':Pos}{e:Expr}{es:List Expr}{t:TA}
theorem zw{q:PN}(D:Df X.prog X.w X.K X.mg X.base x ps k (spN ps q))(hr:Room j X.A)(hk:k<=j)(ha:PA X (e::es) t)(hg:Gl X x:=by rfl)(p:(x==("__debug__":Str))=false:=by decide)
  (q1:cq (e::es) X.env=(false,eval e X.env)::cq es X.env:=by rfl) (q2:((kr pos (cq es X.env)).any fun x=>x.fst)=false:=by rfl):PE X (.Call (.Name x pos') (e::es) [] pos) (fL (spN ps q) [] E0 t):=by
 obtain⟨f,fd,F,hm,kp,hb⟩:=D.ex;exact oV (dvs:=[]) (ds:=[]) (E:=E0) F (hr.mono hk) hg hm kp hb .nil pass0 ha p q1 q2
end
def aE(m:Nat)(q:PN)(da:DA):DE:=fun δ S R=>da δ S fun xs S1=>∃ds,datas xs=some ds/\ds.length=m/\q (ds.map XV.d) [] (ret0 S1 R)
theorem hxs0{h o:List Addr}{H:Hp}:∀{ds:List av}{vs:List V},HasXs h o H (ds.map XV.d) vs->HasXs (h++o) [] H (ds.map XV.d) vs
 | [],_,q=>q
 |d::ds,vs,⟨v,r,e,q,l⟩=>⟨v,r,e,hx0 q,hxs0 l⟩
theorem dX{ps:List Str}{q:PN}{m:Nat}{t:TA}{da:DA}(ha:RA t da)(hm:ps.length=m:=by rfl):RE (fL (spN ps q) [] E0 t) (aE m q da):=fun h o H δ σ S R Q he hs w c=>
 ha h o H δ σ S _ _ he hs w fun o1 H1 S1 xs vs e1 s1 x1 ⟨ds,e,hl,d1⟩=>by
  have ex:=gB e;subst ex;have hv:=x1.len;rw[fy];exact⟨by rw[hv,bo,hl,hm],h++o1,[],[],_,_,rep0 s1,hxs0 x1,d1,cn0 s1 (c.pre e1)⟩
def zW(i m:Nat)(q:PN)(da:DA):DE:=fun δ S R=>da δ S fun xs S1=>∃k,xs[i]?=some (.l k)/\∃p,S1[k]?=some p/\∃ds,datas (xs.set i (.d .none))=some ds/\ds.length=m/\q ((ds.map XV.d).set i (.l 0)) [p] (nW k S1 R)
theorem tS{h o:List Addr}{H:Hp}{k:Nat}{a:Addr}(ea:o[k]?=some a):∀{xs:List XV}{vs:List V}{ds:List av}{i:Nat},HasXs h o H xs vs->xs[i]?=some (.l k)->datas (xs.set i (.d .none))=some ds->HasXs (h++o.filter (fun b=>b≠a)) [a] H ((ds.map XV.d).set i (.l 0)) vs
 | [],_,_,i,_,e,_=>by simp at e
 |x::xs,vs,ds,0,⟨v,r,e1,q,l⟩,e,ed=>by
  rw[iy]at e;cases e;rw[set_cons_zero]at ed;obtain⟨z,rfl⟩:∃z,ds=.none::z:=by
   unfold datas at ed;cases hd:datas xs with
   |none=>rw[hd]at ed;cases ed
   |some y=>rw[hd]at ed;cases ed;exact⟨y,rfl⟩
  have aa:datas xs=some z:=by
   unfold datas at ed;cases hd:datas xs with
   |none=>rw[hd]at ed;cases ed
   |some y=>rw[hd]at ed;cases ed;rfl
  have ex:=gB aa;subst ex;obtain⟨b,eb,rfl⟩:=q;rw[ea]at eb;cases eb;exact⟨_,r,e1,⟨a,rfl,rfl⟩,go (ea:=ea) l⟩
 |x::xs,vs,ds,i+1,⟨v,r,e1,q,l⟩,e,ed=>by
  rw[ib]at e;rw[set_cons_succ]at ed
  match x,q,ed with
  | .d d,q,ed=>
   unfold datas at ed;cases hd:datas (xs.set i (.d .none))with
   |none=>rw[hd]at ed;cases ed
   |some z=>
    rw[hd]at ed;cases ed;exact⟨v,r,e1,hxP ea q,tS ea l e hd⟩
  | .l j,q,ed=>cases ed
  | .o w,q,ed=>cases ed
  | .x _ _,q,ed=>cases ed
  | .p _ _,q,ed=>cases ed
where
 go {h o:List Addr}{H:Hp}{k:Nat}{a:Addr}{ea:o[k]?=some a}:∀{ds:List av}{vs:List V},HasXs h o H (ds.map XV.d) vs->HasXs (h++o.filter (fun b=>b≠a)) [a] H (ds.map XV.d) vs
 | [],_,q=>q
 |d::ds,vs,⟨v,r,e,q,l⟩=>⟨v,r,e,hxP ea q,go (ea:=ea) l⟩
theorem Dq:∀{xs:List XV}{ds:List av},datas xs=some ds->xs.length=ds.length:=fun e=>by
 rw[gB e,bo]
theorem nF{ps:List Str}{q:PN}{i m:Nat}{t:TA}{da:DA}(ha:RA t da)(hm:ps.length=m:=by rfl):RE (fL (spN ps q) [] E0 t) (zW i m q da):=fun h o H δ σ S R Q he hs w c=>
 ha h o H δ σ S _ _ he hs w fun o1 H1 S1 xs vs e1 s1 x1 ⟨k,ek,p,ep,ds,e,hl,d1⟩=>by
  have hv:=x1.len;have hd:=Dq e;rw[length_set]at hd;obtain⟨v,_,a,ea,_⟩:=x1.get ek;rw[fy];exact⟨by rw[hv,hd,hl,hm],_,[a],[p],_,_,mP s1 ea ep,tS ea x1 ek e,d1,cnP s1 ea ep (c.pre e1)⟩
mutual
def f8:av->Bool
 | .list _=>false
 | .dict _=>false
 | .tuple ds=>iK ds
 |_=>true
def iK:List av->Bool
 | []=>true
 |d::ds=>f8 d&&iK ds
end
mutual
theorem x4{h o:List Addr}{H G:Hp}(sm:Same G H)(hh:∀b,b∈h\/b∈o->∃u:MO,H b=some u.ho):∀(d:av) (v:V),f8 d=true->Has G d v->Has (vx h o H) d v
 | .none,v,_,q=>fX.mpr (fX.mp q)
 | .bool b,v,_,q=>eV.mpr (eV.mp q)
 | .int i,v,_,q=>bV.mpr (bV.mp q)
 | .str z,v,_,q=>eJ.mpr (eJ.mp q)
 | .list ds,v,n,_=>by simp[f8]at n
 | .dict ds,v,n,_=>by simp[f8]at n
 | .tuple ds,v,n,q=>by
  obtain⟨a,vs,e,ea,l⟩:=zJ.mp q;have n':iK ds=true:=by simpa[f8]using n
  have p:=sm _ _ ea;refine zJ.mpr ⟨a,vs,e,zr.mpr ⟨fun m=>?_,fun m=>?_,p⟩,wC sm hh ds vs n' l⟩
  ·obtain⟨u,eu⟩:=hh a (.inl m);rw[p]at eu;cases u<;>cases eu
  ·obtain⟨u,eu⟩:=hh a (.inr m);rw[p]at eu;cases u<;>cases eu
theorem wC{h o:List Addr}{H G:Hp}(sm:Same G H)(hh:∀b,b∈h\/b∈o->∃u:MO,H b=some u.ho):∀(ds:List av) (vs:List V),iK ds=true->HasL G ds vs->HasL (vx h o H) ds vs
 | [],vs,_,q=>zo.mpr (zo.mp q)
 |d::ds,vs,n,q=>by
  obtain⟨v,r,e,hv,l⟩:=zn.mp q;simp only[iK,fu]at n;exact zn.mpr ⟨v,r,e,x4 sm hh d v n.1 hv,wC sm hh ds r n.2 l⟩
end
def mY(S:Sto)(R:RX):RX:=fun y S'=>match y,S' with
 | .d d,[]=>f8 d=true/\R (.d d) S
 |_,_=>False
theorem iW{S:Sto}{R:RX}{d:av}:mY S R (.d d) []=(f8 d=true/\R (.d d) S):=rfl
def views(S:Sto):List XV->Option (List av)
 | []=>some []
 |x::r=>(aV S x).bind fun d=>(views S r).map (d :: ·)
theorem lW{S:Sto}:views S []=some []:=rfl
theorem iG{S:Sto}{x:XV}{r:List XV}:views S (x::r)=(aV S x).bind fun d=>(views S r).map (d :: ·):=rfl
def eO(m:Nat)(q:PN)(da:DA):DE:=fun δ S R=>da δ S fun xs S1=>∃ds,views S1 xs=some ds/\ds.length=m/\q (ds.map XV.d) [] (mY S1 R)
theorem Cs{h o:List Addr}{H:Hp}{S:Sto}(hs:RepS h o H S):RepS h [] H []:=⟨rfl,gn,(fun _ h=>(nomatch h)),hs.hal,(fun _ _ _ e=>(by simp at e))⟩
theorem hxV{h o:List Addr}{H:Hp}{S:Sto}{x:XV}{v:V}{d:av}(hs:RepS h o H S)(e:aV S x=some d)(q:HasX h o H x v):HasX h [] H (.d d) v:=by
 have sub:Same (vx h o H) (vx h [] H):=fun b u eb=>by
  obtain⟨z1,z2,z3⟩:=zr.mp eb;exact zr.mpr ⟨z1,yv,z3⟩
 unfold aV at e;split at e
 ·cases e;exact Has.mono sub _ _ q
 ·rename_i k;obtain⟨a,ea,rfl⟩:=q;cases hk:S[k]? with
  |none=>rw[hk]at e;cases e
  |some ds=>
   rw[hk]at e;cases e;obtain⟨vs,ev,l⟩:=hs.cont k a ds ea hk;exact zU.mpr ⟨a,vs,rfl,zr.mpr ⟨hs.dis a (cf ea),yv,ev⟩,l.mono sub⟩
 ·cases e
 ·cases e
 ·rename_i k d';obtain⟨t,a,u,rfl,ea,et,hu⟩:=q;cases hk:S[k]? with
  |none=>rw[hk]at e;cases e
  |some ds=>
   rw[hk]at e;cases e;obtain⟨vs,ev,l⟩:=hs.cont k a ds ea hk;exact zJ.mpr ⟨t,_,rfl,sub _ _ et,zn.mpr ⟨_,_,rfl,zU.mpr ⟨a,vs,rfl,zr.mpr ⟨hs.dis a (cf ea),yv,ev⟩,l.mono sub⟩,zn.mpr ⟨u,_,rfl,Has.mono sub _ _ hu,zo.mpr rfl⟩⟩⟩
theorem vS{h o:List Addr}{H:Hp}{S:Sto}(hs:RepS h o H S):∀{xs:List XV}{vs:List V}{ds:List av},views S xs=some ds->HasXs h o H xs vs->HasXs h [] H (ds.map XV.d) vs/\vs.length=ds.length
 | [],vs,ds,e,q=>by cases e;exact⟨q,by rw[show vs=[]from q];rfl⟩
 |x::xs,vs,ds,e,⟨v,r,e1,q,l⟩=>by
  rw[iG]at e;cases hd:aV S x with
  |none=>rw[hd]at e;cases e
  |some d=>
   rw[hd,Option.bind_some]at e;cases hr:views S xs with
   |none=>rw[hr]at e;cases e
   |some es=>
    rw[hr]at e;cases e;obtain⟨z1,z2⟩:=vS hs hr l;exact⟨⟨v,r,e1,hxV hs hd q,z1⟩,by rw[e1,br,br,z2]⟩
theorem cnV{h o:List Addr}{H:Hp}{S:Sto}{R:RX}{Q:VK}(hs:RepS h o H S)(c:Cn h o H R Q):Cn h [] H (mY S R) Q:=fun o' H' S' y v e s' hy q=>by
 unfold mY at q;split at q
 ·rename_i d;have sH:Same H H':=fun b u eb=>(e.kp b u yv eb).2;have e0:o'=[]:=dq s'.len.symm;subst e0;have p:=hs.same sH;refine c o H' S (.d d) v (Ex.of_same sH) p (x4 (zA (h:=h) (o:=[])) (fun b m=>?_) d v q.1 hy) q.2;exact m.elim (p.hal b) (p.oam b)
 ·exact q.elim
theorem BG{ps:List Str}{q:PN}{m:Nat}{t:TA}{da:DA}(ha:RA t da)(hm:ps.length=m:=by rfl):RE (fL (spN ps q) [] E0 t) (eO m q da):=fun h o H δ σ S R Q he hs w c=>
 ha h o H δ σ S _ _ he hs w fun o1 H1 S1 xs vs e1 s1 x1 ⟨ds,e,hl,d1⟩=>by
  obtain⟨z1,z2⟩:=vS s1 e x1;rw[fy];exact⟨by rw[z2,hl,hm],h,[],[],_,_,Cs s1,z1,d1,cnV s1 (c.pre e1)⟩
end
section
def tX(K:bf):List V->Hp->VK->Prop:=fun xs H Q=>rX K xs H Q\/∃z,xs=[.str z]/\z.length<=be/\Q (.int z.length) H
theorem c7{X:Cx}:CallR X (.builtin "len") (tX X.K):=yA.or EB
def lK(S:Sto):XV->Option Nat
 | .d (.tuple ds)=>some ds.length
 | .d (.list ds)=>some ds.length
 | .l k=>(S[k]?).map List.length
 | .d (.str z)=>if z.length<=be then some z.length else none
 |_=>none
def aZ:List XV->Sto->RX->Prop:=fun xs S R=>arg1 xs fun x=>∃n,lK S x=some n/\R (.d (.int n)) S
theorem rN{K:bf}:RC (tX K) aZ:=fun h o H S xs vs R Q hs hx q c=>by
 obtain⟨x,rfl,n,hd,q1⟩:=b8 q;unfold lK at hd;split at hd
 ·cases hd;exact .inl (oH h o H S _ vs R Q hs hx ⟨_,rfl,q1⟩ c)
 ·cases hd;exact .inl (oH h o H S _ vs R Q hs hx ⟨_,rfl,q1⟩ c)
 ·rename_i k;cases hk:S[k]? with
  |none=>rw[hk]at hd;cases hd
  |some ds=>
   rw[hk]at hd;cases hd;exact .inl (oH h o H S _ vs R Q hs hx ⟨ds,hk,q1⟩ c)
 ·split at hd
  ·rename_i hz;cases hd;obtain⟨v,rfl,p⟩:=hxs1 hx;exact .inr ⟨_,by rw[eF p],hz,c o H S _ _ Ex.refl hs (xI _) q1⟩
  ·cases hd
 ·cases hd
section
variable {S:Sto}{ds:List av}{k:Nat}{z:Str}
theorem lH:lK S (.d (.tuple ds))=some ds.length:=rfl
theorem iY:lK S (.d (.list ds))=some ds.length:=rfl
theorem j6:lK S (.l k)=(S[k]?).map List.length:=rfl
end
def wY(p:Bool):R2:=fun x y H Q=>∃d e ds,Has H d x/\Has H e y/\cg d=true/\cg (.list ds)=true/\(e=.list ds\/e=.tuple ds)/\Q (.bl (if p then !ds.any (fun y=>iw y d)else ds.any (fun y=>iw y d))) H
theorem Dc{ds:List av}(h:cg (.list ds)=true):gp ds=true/\jf ds<=63:=by
 have h1:=dn h;have h2:=SeqAt.depth_of_shaped h;simp only[gz,PyData.depth]at h1 h2;exact⟨h1,yw⟩
theorem FA{X:Cx}(hu:X.A.units+64<jc):OpR X (fj .NotIn) (wY true):=by
 intro zc s σ H x y v u Q I rx ry h;obtain⟨d,e,ds,hd,he,sd,se,ee,q⟩:=h;obtain⟨s1,s2⟩:=Dc se;obtain⟨as,q1⟩:=Has.reads I d x v hd (dn sd) rx;have hm:X.A.units+1+min (jf ds) d.depth<jc:=by
  have:=Nat.min_le_left (jf ds) d.depth;omega
 rcases ee with rfl|rfl
 ·obtain⟨bs,q2⟩:=Has.reads I (.list ds) y u he (by simpa only[gz]using s1) ry;exact SeqAt.notIn_list_reads q2 q1 s1 (dn sd) hm ⟨.bl _,H,I,rfl,q⟩
 ·obtain⟨bs,q2⟩:=Has.reads I (.tuple ds) y u he (by simpa only[gz]using s1) ry;exact SeqAt.notIn_tuple_reads q2 q1 s1 (dn sd) hm ⟨.bl _,H,I,rfl,q⟩
def xA:R2:=fun x y H Q=>wY true x y H Q\/∃i j,x=.str i/\y=.str j/\Q (.bl (!(!(Builtin.Str.occurrences j i 0 j.length 1).isEmpty))) H
theorem BP{X:Cx}(hu:X.A.units+64<jc):OpR X (fj .NotIn) xA:=(FA hu).or DV
def dIn:D2:=fun x y S R=>match y with
 | .d (.str b)=>asS x fun a=>R (.d (.bool (!(Builtin.Str.occurrences b a 0 b.length 1).isEmpty))) S
 |y=>∃d,aV S x=some d/\∃ds,asQ S y=some ds/\cg d=true/\cg (.list ds)=true/\R (.d (.bool (ds.any fun y=>iw y d))) S
def oA:D2:=fun x y S R=>match y with
 | .d (.str b)=>asS x fun a=>R (.d (.bool (!(!(Builtin.Str.occurrences b a 0 b.length 1).isEmpty)))) S
 |y=>∃d,aV S x=some d/\∃ds,asQ S y=some ds/\cg d=true/\cg (.list ds)=true/\R (.d (.bool (!ds.any fun y=>iw y d))) S
theorem AR{h o:List Addr}{H:Hp}{S:Sto}{x:XV}{v:V}{ds:List av}(hs:RepS h o H S)(e:asQ S x=some ds)(q:HasX h o H x v):∃e,Has H e v/\(e=.list ds\/e=.tuple ds):=by
 unfold asQ at e;split at e
 ·cases e;exact⟨_,eC (x:=.d _) hs rfl q,.inr rfl⟩
 ·cases e;exact⟨_,eC (x:=.d _) hs rfl q,.inl rfl⟩
 ·rename_i k;exact⟨.list ds,eC (x:=.l k) hs (by show (S[k]?).map PyData.list=_;rw[e];rfl) q,.inl rfl⟩
 ·cases e
theorem FW:RO xA oA:=fun h o H S x y v u R Q hs hx hy q c=>by
 unfold oA at q;split at q
 ·replace q:=yS q;obtain⟨a,rfl,q⟩:=q;exact .inr ⟨_,_,eF hx,eF hy,c o H S _ _ Ex.refl hs (xB _) q⟩
 ·obtain⟨d,e1,ds,e2,s1,s2,q⟩:=q;obtain⟨e,he,ee⟩:=AR hs e2 hy;exact .inl ⟨d,e,ds,eC hs e1 hx,he,s1,s2,ee,c o H S _ _ Ex.refl hs (xB _) q⟩
section
variable {S:Sto}{ds:List av}{k:Nat}{a b:Str}{x:XV}{R:RX}
theorem kF:dIn x (.d (.tuple ds)) S R↔∃d,aV S x=some d/\cg d=true/\cg (.list ds)=true/\R (.d (.bool (ds.any fun y=>iw y d))) S:=⟨fun⟨d,e,_,e',q⟩=>by cases e';exact⟨d,e,q⟩,fun⟨d,e,q⟩=>⟨d,e,_,rfl,q⟩⟩
theorem kL:oA x (.d (.list ds)) S R↔∃d,aV S x=some d/\cg d=true/\cg (.list ds)=true/\R (.d (.bool (!ds.any fun y=>iw y d))) S:=⟨fun⟨d,e,_,e',q⟩=>by cases e';exact⟨d,e,q⟩,fun⟨d,e,q⟩=>⟨d,e,_,rfl,q⟩⟩
end
section
variable {X:Cx}{elts:List Expr}{n:Nat}{tpos:Pos}
def tF(K:bf)(ta:TA):TI:=fun σ H R=>ta σ H fun vs H1=>∃a,vs=[.ref a]/\(((∃xs,SqT K H1 a xs)/\R (Ite (SqT K) a) H1)\/((∃xs,SqL K H1 a xs)/\R (Ite (SqL K) a) H1))
theorem Bu{a:Expr}{ta:TA}{p pos:Pos}(hg:Gl X "enumerate")(hm:X.mg "enumerate" = none)(ha:PA X [a] ta)(hs:cq [a] X.env=[(false,eval a X.env)]:=by rfl):PI X (.Tuple elts n tpos) (.Call (.Name "enumerate" p) [a] [] pos) (tF X.K ta):=by
 intro zc s σ H R I h;refine Call_ (lR I hg hm A9 (PyProof.Rows.callWith_type1 (thn (ha pos zc s σ H _ I h) fun us s1 ⟨vs,H1,I1,r1,q1⟩=>?_) hs rfl));obtain⟨b,e,⟨⟨xs,hq⟩,q⟩|⟨⟨xs,hq⟩,q⟩⟩:=q1
 ·subst e;cases r1 with
  |cons r rr=>
   cases rr;cases r;obtain⟨y,rv,pl,hz⟩:=I1.tuple hq;refine Bg (show s1.heap.IsTuple b y.toArray from pl) fun g he hj k=>?_;refine wpAny_pyIter_enum (s:={ s1 with heap:=g }) he ?_
   have I2:Inv X zc σ H1 { s1 with heap:=g }:=I1.kept (t':=s1.toks) k;refine⟨s1.heap.objs.size+1,[s1.heap.objs.size+1,s1.heap.objs.size],_,_,H1,rfl,I2,CK b _ _ (Nat.succ_ne_self _),⟨⟨_,he⟩,hj⟩,fun c hc=>?_,q⟩;rcases mem_cons.mp hc with rfl|hc
   ·exact I1.fpOk (le_succ _) (I1.hok.fresh (le_succ _))
   ·rw[mem_singleton.mp hc];exact I1.fpOk (bp _) (I1.hok.fresh (bp _))
 ·subst e;cases r1 with
  |cons r rr=>
   cases rr;cases r;obtain⟨y,rv,pl,hz⟩:=I1.list hq;refine call_enumerate_list pl.isList fun g he hj _ k=>?_;refine wpAny_pyIter_enum (s:={ s1 with heap:=g }) he ?_
   have I2:Inv X zc σ H1 { s1 with heap:=g }:=I1.kept (t':=s1.toks) k;refine⟨s1.heap.objs.size+1,[s1.heap.objs.size+1,s1.heap.objs.size],_,_,H1,rfl,I2,E4 b _ _ (Nat.succ_ne_self _),⟨⟨_,he⟩,hj⟩,fun c hc=>?_,q⟩;rcases mem_cons.mp hc with rfl|hc
   ·exact I1.fpOk (le_succ _) (I1.hok.fresh (le_succ _))
   ·rw[mem_singleton.mp hc];exact I1.fpOk (bp _) (I1.hok.fresh (bp _))
end
def gI(a:DA):DI:=fun δ S R=>a δ S fun xs S1=>arg1 xs fun x=>∃ds,bG x=some ds/\R (c6 0 ds) S1
theorem Es{K:bf}{ta:TA}{da:DA}(ha:RA ta da):RI (tF K ta) (gI da):=fun h o H δ σ S R Q he hs q c=>
 ha h o H δ σ S _ _ he hs q fun o1 H1 S1 xs vs e1 s1 x1 d0=>by
  obtain⟨x,rfl,ds,hd,d1⟩:=b8 d0;obtain⟨v,rfl,hv⟩:=hxs1 x1;have z:∀{Sq:Hp->Addr->List V->Prop}{a:Addr}{ws:List V},(∀{o2 H2},ExH h o1 H1 o2 H2->Sq H2 a ws)->HasL (vx h o1 H1) ds ws->WalkX h o1 H1 (Ite Sq a) (c6 0 ds):=by
   intro Sq a ws aa l;have hl:=l.length;refine⟨fun i o2 H2 e2 hi=>⟨ws,aa e2,by rw[mB]at hi;omega⟩,fun i d o2 H2 e2 hi=>?_,fun i d o2 H2 x H3 S2 e2 s2 hi y=>?_⟩
   ·obtain⟨e,h1,rfl⟩:=nR ds 0 i d hi;obtain⟨u,eu,_⟩:=l.get h1;exact⟨ws,u,aa e2,eu⟩
   ·obtain⟨e,h1,rfl⟩:=nR ds 0 i d hi;obtain⟨u,eu,hu⟩:=l.get h1;obtain⟨p,v,hp,rfl,rfl,hy⟩:=y;have ev:=hy ws (aa e2);rw[eu]at ev;cases ev;refine⟨Same.laid hp,zJ.mpr ⟨p,_,rfl,s2.laid hp,zn.mpr ⟨_,_,rfl,?_,zn.mpr ⟨_,_,rfl,(hu.mono e2.vx).mono (m9 (Same.laid hp)),zo.mpr rfl⟩⟩⟩⟩;rw[zero_add];exact bV.mpr rfl
  unfold bG at hd;split at hd
  ·cases hd;obtain⟨a,ws,rfl,ea,l⟩:=zU.mp (show Has (vx h o1 H1) (.list ds) v from hv);exact⟨a,rfl,.inr ⟨⟨ws,.of (zA _ _ ea)⟩,c o1 H1 S1 _ _ e1 s1 (z (fun e2=>.of (zA _ _ (e2.vx _ _ ea))) l) d1⟩⟩
  ·cases hd;obtain⟨a,ws,rfl,ea,l⟩:=zJ.mp (show Has (vx h o1 H1) (.tuple ds) v from hv);exact⟨a,rfl,.inl ⟨⟨ws,.of (zA _ _ ea)⟩,c o1 H1 S1 _ _ e1 s1 (z (fun e2=>.of (zA _ _ (e2.vx _ _ ea))) l) d1⟩⟩
  ·cases hd
def kQ:XV->List XV->Sto->RX->Prop:=fun x xs S R=>∃k,x=.l k/\∃ds,S[k]?=some ds/\xs=[]/\∃d,ds[ds.length-1]?=some d/\R (.d d) (S.set k ds.dropLast)
abbrev AS (a:Addr) (m:Nat):DEnds:={ nx:=fun δ _=>δ[0]?=some (some (.o (.ref a)))/\δ.length=m+1,ct:=fun δ _=>δ[0]?=some (some (.o (.ref a)))/\δ.length=m+1,rt:=fun _ _=>False }
abbrev AD (a:Addr) (m:Nat):DEnds:={ nx:=fun δ _=>δ[0]?=some (some (.o (.ref a)))/\δ.length=m+1,rt:=fun _ _=>False }
section
variable {a:Addr}{m:Nat}{t1 t2 t3 t4 u:TS}{dt:DS}{D:Ends}{σ:St}{H:Hp}
theorem Fo(ht:RS (bN t1 t2) dt)(h0:σ[0]?=some (some (.ref a)))(hl:σ.length=m+1)(go:dt (AD a m) (some (.o (.ref a))::az m none) [])
  (next:∀(σ:St) (H1:Hp),σ[0]?=some (some (.ref a))->σ.length=m+1->Same H H1->u D σ H1):bN t1 (bN t2 u) D σ H:=CN (t:=bN t1 t2) ht h0 hl go next
end
end
section
open Sem (wp)
def o9:List av->List av->List av
 |d::ds,e::es=>.tuple [d,e]::o9 ds es
 |_,_=>[]
def i6(a:DA):DI:=fun δ S R=>a δ S fun xs S1=>arg2 xs fun x y=>∃ds,bG x=some ds/\∃es,bG y=some es/\R (o9 ds es) S1
end
section
open Sem (wp)
section
variable {prog:ca}{w:cy}{A:ef}{R:Result->ax->Prop}{I:Addr}{fp wr:List Addr}{n:Nat}{P:Nat->au->Prop}{St:Nat->Heap->Prop}
def CmpH(prog:ca)(w:cy)(A:ef)(g:Heap)(p:List Addr)(P:Nat->au->Prop)(bt:Nat->Nat->Bool):Prop:=
 ∀i j x y (s:ax) (Q:au->ax->Prop) (E:au->ax->Prop),(∀b o,b∉p->g.get? b=some o->s.heap.get? b=some o)->P i x->P j y->Q (.bool (bt i j)) s->bh (model prog w) A (richCompare .Lt x y) Q E s
theorem FN(W:Walks prog w A.in1 I fp wr n P St)(bt:Nat->Nat->Bool){g:Heap}(S:Addr)(cm:CmpH prog w A.in1 g (S::wr) P bt)(nS:S∉fp):∀(d j:Nat) (s:ax) (p:au) (c:Nat),n=j+1+d->(∀b o,b∉S::wr->g.get? b=some o->s.heap.get? b=some o)->St (j+1) s.heap->P (jp bt j) p ->
   s.heap.get? S=some { cls:=.type "list",dict:=none,data:=.seq #[p,p] c,slots:=#[] } ->
   (∀v h' tk,P (jp bt (n-1)) v->(∀b o,b∉S::wr->s.heap.get? b=some o->h'.get? b=some o)->R (.ok (.ret v)) { s with heap:=h',toks:=tk })->codeAny (model prog w) A (.builtin "min.loop" ⟨[.ref I,.none,.ref S],[]⟩) R s:=by
 have nw:S∉wr:=fun m=>nS (W.sub _ m);have nm:(toString "min" ++ toString ".loop":String) = "min.loop":=by decide
 intro d;induction d with
 |zero=>
  intro j s p c hd kg st hb hS fin;have hj:j+1=n:=yw
  refine ki F.entry_min_loop ?_;rw[ij gx _];show bh _ A.in1 (seqItems? (.ref S) >>= _) _ _ s;refine aw (wpAny_seqItems hS rfl ?_);show bh _ A.in1 (tryCatch (pyNext (.ref I)) _ >>= _) _ _ s;refine aw (wpAny_tryCatch (W.done s _ _ (by rw[<- hj];exact st) fun h1 t1 k1=>?_));have q:=k1 S _ nw hS;show bh _ A.in1 (updateSeq S (fun _=>#[]) >>= _) _ _ _;refine aw (wpAny_updateSeq q rfl (aw (wpAny_letGo (bj (fin p _ t1 (by rw[<- hj];exact hb) fun b o hn e=>?_)))));rw[jr,not_or]at hn;exact(gm _ _ (fw hn.1)).trans (k1 b o hn.2 e)
 |succ d ih=>
  intro j s p c hd kg st hb hS fin;refine ki F.entry_min_loop ?_;rw[ij gx _];show bh _ A.in1 (seqItems? (.ref S) >>= _) _ _ s;refine aw (wpAny_seqItems hS rfl ?_);show bh _ A.in1 (tryCatch (pyNext (.ref I)) _ >>= _) _ _ s;refine aw (wpAny_tryCatch (W.item (j+1) s _ _ yw st fun x h1 t1 hx aa k1=>?_));have q:=k1 S _ nw hS;have y:∀b o,b∉S::wr->g.get? b=some o->h1.get? b=some o:=fun b o hn e=>k1 b o (fun m=>hn (bc _ m)) (kg b o hn e);show bh _ A.in1 (tryCatch (holding [x,x] (richCompare .Lt x p >>= _)) _ >>= _) _ _ _;refine aw (wpAny_tryCatch (fv (aw (cm (j+1) (jp bt j) x p _ _ _ y hx hb (aw (fv (fx (aw (wpAny_letGo (bj ?_)))))))))) ;cases ht:bt (j+1) (jp bt j)with
  |true=>
   simp only[if_true];refine aw (wpAny_updateSeq q rfl (aw (wpAny_letGo ?_)));rw[nm];have keep:∀b o,b∉S::wr->s.heap.get? b=some o->(h1.update S (kw fun _=>#[x,x])).get? b=some o:=fun b o hn e=>by
    rw[jr,not_or]at hn;exact(gm _ _ (fw hn.1)).trans (k1 b o hn.2 e)
   refine bj ⟨kc gx _,ih (j+1) _ x _ yw (fun b o hn e=>keep b o hn (kg b o hn e)) (W.frame _ _ _ aa fun b m o e=>?_) (by simp only[jp,ht,if_true];exact hx) (get?_update_self _ q rfl) fun v h2 t2 hv k2=>fin v h2 t2 hv fun b o hn e=>k2 b o hn (keep b o hn e)⟩;exact(gm _ _ (fun z:S=b=>nS (by rw[z];exact m))).trans e
  |false=>
   simp only[ia,if_false];refine aw (wpAny_letGo ?_);rw[nm];exact bj ⟨kc gx _,ih (j+1) _ p c yw y aa (by simp only[jp,ht,ia,if_false];exact hb) q fun v h2 t2 hv k2=>fin v h2 t2 hv fun b o hn e=>k2 b o hn (k1 b o (fun m=>hn (bc _ m)) e)⟩
theorem EL(W:Walks prog w A.in1 I fp wr n P St)(bt:Nat->Nat->Bool)(S:Addr)(nS:S∉fp)(hn:0<n){s:ax}{c:Nat}(cm:CmpH prog w A.in1 s.heap (S::wr) P bt)(st:St 0 s.heap)(hS:s.heap.get? S=some { cls:=.type "list",dict:=none,data:=.seq #[] c,slots:=#[] })
  (fin:∀v h' tk,P (jp bt (n-1)) v->(∀b o,b∉S::wr->s.heap.get? b=some o->h'.get? b=some o)->R (.ok (.ret v)) { s with heap:=h',toks:=tk }):codeAny (model prog w) A (.builtin "min.loop" ⟨[.ref I,.none,.ref S],[]⟩) R s:=by
 have nw:S∉wr:=fun m=>nS (W.sub _ m);have nm:(toString "min" ++ toString ".loop":String) = "min.loop":=by decide
 refine ki F.entry_min_loop ?_;rw[ij gx _];show bh _ A.in1 (seqItems? (.ref S) >>= _) _ _ s;refine aw (wpAny_seqItems hS rfl ?_);show bh _ A.in1 (tryCatch (pyNext (.ref I)) _ >>= _) _ _ s;refine aw (wpAny_tryCatch (W.item 0 s _ _ hn st fun x h1 t1 hx q k1=>?_));have p:=k1 S _ nw hS;show bh _ A.in1 (updateSeq S (fun _=>#[x,x]) >>= _) _ _ _;refine aw (wpAny_updateSeq p rfl ?_);rw[nm];have keep:∀b o,b∉S::wr->s.heap.get? b=some o->(h1.update S (kw fun _=>#[x,x])).get? b=some o:=fun b o hn e=>by
  rw[jr,not_or]at hn;exact(gm _ _ (fw hn.1)).trans (k1 b o hn.2 e)
 refine bj ⟨kc gx _,FN W bt S cm nS (n-1) 0 _ x _ yw keep (W.frame _ _ _ q fun b m o e=>?_) hx (get?_update_self _ p rfl) fun v h2 t2 hv k2=>fin v h2 t2 hv fun b o hn e=>k2 b o hn (keep b o hn e)⟩;exact(gm _ _ (fun z:S=b=>nS (by rw[z];exact m))).trans e
end
section
variable {prog:ca}{w:cy}{A:ef}{E:au->ax->Prop}{s:ax}
theorem CG{l:Addr}{p:Array au}{Q:au->ax->Prop}(hh:A.handled=none)(hl:s.heap.IsList l p)(aa:0<p.size)(bt:Nat->Nat->Bool)
  (cm:∀i j x y (s':ax) (Q:au->ax->Prop) (E:au->ax->Prop),(∀b o,s.heap.get? b=some o->s'.heap.get? b=some o)->p[i]?=some x->p[j]?=some y->Q (.bool (bt i j)) s'->bh (model prog w) A.in1 (richCompare .Lt x y) Q E s')
  (fin:∀v h' tk,p[jp bt (p.size-1)]?=some v->(∀b o,s.heap.get? b=some o->h'.get? b=some o)->Q v { s with heap:=h',toks:=tk }):bh (model prog w) A (call (.builtin "min") [.ref l]) Q E s:=by
 have nm:(toString "min" ++ toString ".loop":String) = "min.loop":=by decide
 have lt:l<s.heap.objs.size:=by obtain⟨o,e,_⟩:=hl;exact cr e
 refine call_function_tree F.kind_min F.plain_min F.entry_min (F.args_min1 _) ?_;show bh _ A.in1 (Builtin.Builtins.bindParams "min" ["key","default"] 0 ⟨[],[]⟩ >>= _) _ _ s;refine aw (wpAny_of_eq (show Builtin.Builtins.bindParams "min" ["key","default"] 0 ⟨[],[]⟩=pure [none,none]from rfl) (aw (bj (aw (jk hl ?_)))));refine aw (ga ?_);rw[nm];have z1:(s.heap.push { cls:=.type "list_iterator",data:=.fields #[.ref l,.int 0 0] }).objs.size=s.heap.objs.size+1:=size_push ..;have nS:(s.heap.push { cls:=.type "list_iterator",data:=.fields #[.ref l,.int 0 0] }).objs.size∉[s.heap.objs.size,l]:=by
  rw[z1];simp only[jr,jt,or_false,not_or];exact⟨Nat.succ_ne_self _,ne_of_gt (Nat.lt_succ_of_lt lt)⟩
 have up:∀b o,s.heap.get? b=some o->((s.heap.push { cls:=.type "list_iterator",data:=.fields #[.ref l,.int 0 0] }).push { cls:=.type "list",data:=.seq #[] }).get? b=some o:=fun b o e=>bb _ (bb _ e);have z:∀b o,s.heap.get? b=some o->b∉(s.heap.push { cls:=.type "list_iterator",data:=.fields #[.ref l,.int 0 0] }).objs.size :: [s.heap.objs.size]:=fun b o e=>by
  rw[z1];simp only[jr,jt,or_false,not_or];have:=cr e;exact⟨ff (Nat.lt_succ_of_lt this),ff this⟩
 refine bj ⟨kc gx _,EL (Walks.list (A:=A.in1) hh _ l (ff lt) p) bt _ nS aa (fun i j x y s' Q' E' k hi hj q=>cm i j x y s' Q' E' (fun b o e=>k b o (z b o e) (up b o e)) hi hj q) ?_ (bw _ rfl) fun v h' tk hv k=>fin v h' tk hv fun b o e=>k b o (z b o e) (up b o e)⟩;exact⟨⟨_,bb _ (bw _ rfl),rfl,rfl⟩,(hl.push _).push _⟩
end
theorem v9{ns:Nat->List Int}(tr:∀a b c:List Int,HT.lexLt a b=false->HT.lexLt b c=false->HT.lexLt a c=false)(as:∀a b:List Int,HT.lexLt a b=true->HT.lexLt b a=false):∀k,jp (fun i j=>HT.lexLt (ns i) (ns j)) k<=k/\∀j,j<=k->HT.lexLt (ns j) (ns (jp (fun i j=>HT.lexLt (ns i) (ns j)) k))=false
 | 0=>⟨bp _,fun j hj=>by
   have:j=0:=yw
   subst this;show HT.lexLt (ns 0) (ns 0)=false;cases h:HT.lexLt (ns 0) (ns 0)with
   |false=>rfl
   |true=>have:=as _ _ h;rw[h]at this;cases this⟩
 |k+1=>by
  obtain⟨h1,h2⟩:=v9 tr as (ns:=ns) k;simp only[jp];by_cases hb:HT.lexLt (ns (k+1)) (ns (jp (fun i j=>HT.lexLt (ns i) (ns j)) k))=true
  ·rw[cb hb];refine⟨bp _,fun j hj=>?_⟩;by_cases e:j=k+1
   ·subst e;cases h:HT.lexLt (ns (k+1)) (ns (k+1))with
    |false=>rfl
    |true=>have:=as _ _ h;rw[h]at this;cases this
   ·exact tr _ _ _ (h2 j yw) (as _ _ hb)
  ·rw[bu hb];refine⟨yw,fun j hj=>?_⟩;by_cases e:j=k+1
   ·subst e;exact Bool.eq_false_iff.mpr hb
   ·exact h2 j yw
theorem u7:∀a b:List Int,HT.lexLt a b=true->HT.lexLt b a=false
 | [],[],h=>by cases h
 | [],y::ys,_=>rfl
 |x::xs,[],h=>by cases h
 |x::xs,y::ys,h=>by
  rw[HT.lexLt_cons]at h ⊢;by_cases e:x=y
  ·subst e;rw[cb rfl]at h ⊢;exact u7 xs ys h
  ·rw[bu e]at h;rw[bu (fw e)];simp only[decide_eq_true_eq]at h;simp only[decide_eq_false_iff_not];omega
theorem xV:∀a b c:List Int,HT.lexLt a b=false->HT.lexLt b c=false->HT.lexLt a c=false
 |_,_,[],_,_=>by rename_i a b _ _;cases a<;>rfl
 | [],[],z::zs,_,h=>by cases h
 | [],y::ys,z::zs,h,_=>by cases h
 |x::xs,[],z::zs,_,h=>by cases h
 |x::xs,y::ys,z::zs,h,k=>by
  rw[HT.lexLt_cons]at h k ⊢;by_cases e:x=y
  ·subst e;rw[cb rfl]at h;by_cases e2:x=z
   ·subst e2;rw[cb rfl]at k ⊢;exact xV xs ys zs h k
   ·rw[bu e2]at k ⊢;exact k
  ·rw[bu e]at h;by_cases e2:y=z
   ·subst e2;rw[bu e];exact h
   ·rw[bu e2]at k;simp only[decide_eq_false_iff_not]at h k;rw[bu yw];simp only[decide_eq_false_iff_not];omega
def v7(ns:List Int):av:=.tuple (ns.map bq)
section
variable {S:Sto}{P:Sto->List av->Prop}{a b c d:List av}{x:List av}
theorem fW{S0:Sto}:(∃T ds,S0++[x]=T++[ds]/\P T ds)↔P S0 x:=by
 constructor
 ·rintro⟨T,ds,e,q⟩;obtain⟨rfl,e2⟩:=List.append_inj' e rfl;cases e2;exact q
 ·exact fun q=>⟨S0,x,rfl,q⟩
theorem k9:(∃T ds,[a]=T++[ds]/\P T ds)↔P [] a:=fW (S0:=[])
theorem lQ:(∃T ds,[a,b]=T++[ds]/\P T ds)↔P [a] b:=fW (S0:=[a])
end
section
variable {α:Type}{n:Nat}{g:DG}{tt:DT}{te:DE}{fin:Sto->Prop}{S0:Sto}{caps:XE}
theorem uN{h:α->av}{f:α->av}(P:XE->Prop)(hn:S0.length=n)(l:List α)(τ:XE)(hP:P τ)(hl:l.length<=1000)
  (el:∀x∈l,∀ τ acc (R:XE->RX),P τ->(∀ τ',P τ'->R τ' (.d (f x)) (S0++[acc]))->g (.d (h x)) τ (S0++[acc]) fun τ1 S1=>te τ1 S1 (R τ1)) (hf:fin (S0++[l.map f])):aL n g aF te fin (l.map h) τ (S0++[[]]):=by
 have go:∀(l:List α) (acc:List av) (τ:XE),P τ->acc.length+l.length<=1000->(∀x∈l,∀ τ acc (R:XE->RX),P τ->(∀ τ',P τ'->R τ' (.d (f x)) (S0++[acc]))->g (.d (h x)) τ (S0++[acc]) fun τ1 S1=>te τ1 S1 (R τ1)) ->
   fin (S0++[acc++l.map f])->aL n g aF te fin (l.map h) τ (S0++[acc]):=by
  intro l;induction l with
  |nil=>intro acc τ _ _ _ h;rw[map_nil,fy]at h;exact h
  |cons x l ih=>
   intro acc τ hP hl el hh;show g (.d (h x)) τ (S0++[acc]) fun τ1 S1=>aF τ1 S1 fun b S2=>if b=true then te τ1 S2 fun x S3=>asD x fun e=>∃acc,S3[n]?=some acc/\acc.length<1000/\aL n g aF te fin (l.map h) τ1 (S3.set n (acc++[e]))else aL n g aF te fin (l.map h) τ1 S2
   simp only[aF,↓reduceIte];rw[br]at hl;refine el x bn τ acc (fun τ1 x S3=>asD x fun e=>∃acc,S3[n]?=some acc/\acc.length<1000/\aL n g aF te fin (l.map h) τ1 (S3.set n (acc++[e]))) hP fun τ' p=>?_;refine⟨acc,by rw[<- hn,bi],yw,?_⟩;rw[AL hn];refine ih (acc++[f x]) τ' p (by rw[bx,fe];omega) (fun e m=>el e (bc _ m)) ?_;rw[cu];exact hh
 exact go l [] τ hP (by simpa using hl) el (by simpa using hf)
theorem cmp1{h:α->av}(f:α->av)(hn:S0.length=n)(l:List α){u:Option XV}(hl:l.length<=1000)
  (el:∀x∈l,∀(u:Option XV) acc (R:XE->RX),(∀u',R (u'::caps) (.d (f x)) (S0++[acc]))->g (.d (h x)) (u::caps) (S0++[acc]) fun τ1 S1=>te τ1 S1 (R τ1)) (hf:fin (S0++[l.map f])):aL n g aF te fin (l.map h) (u::caps) (S0++[[]]):=
 uN (fun τ=>∃u,τ=u::caps) hn l _ ⟨u,rfl⟩ hl (fun x m τ acc R ⟨u,e⟩ k=>by subst e;exact el x m u acc R fun u'=>k _ ⟨u',rfl⟩) hf
theorem cmp2{h:α->av}(f:α->av)(hn:S0.length=n)(l:List α){u v:Option XV}(hl:l.length<=1000)
  (el:∀x∈l,∀(u v:Option XV) acc (R:XE->RX),(∀u' v',R (u'::v'::caps) (.d (f x)) (S0++[acc]))->g (.d (h x)) (u::v::caps) (S0++[acc]) fun τ1 S1=>te τ1 S1 (R τ1)) (hf:fin (S0++[l.map f])):aL n g aF te fin (l.map h) (u::v::caps) (S0++[[]]):=
 uN (fun τ=>∃u v,τ=u::v::caps) hn l _ ⟨u,v,rfl⟩ hl (fun x m τ acc R ⟨u,v,e⟩ k=>by subst e;exact el x m u v acc R fun u' v'=>k _ ⟨u',v',rfl⟩) hf
theorem AJ{h:α->av}{f:α->av}{p:α->Bool}(P:XE->Prop)(hn:S0.length=n)(l:List α)(τ:XE)(hP:P τ)(hl:l.length<=1000)
  (el:∀x∈l,∀ τ acc (R:XE->Bool->Sto->Prop),P τ->(∀ τ',P τ'->(p x=true->∀T:RX,T (.d (f x)) (S0++[acc])->te τ' (S0++[acc]) T)->R τ' (p x) (S0++[acc]))->g (.d (h x)) τ (S0++[acc]) fun τ1 S1=>tt τ1 S1 (R τ1))
  (hf:fin (S0++[(l.filter p).map f])):aL n g tt te fin (l.map h) τ (S0++[[]]):=by
 have go:∀(l:List α) (acc:List av) (τ:XE),P τ->acc.length+l.length<=1000->(∀x∈l,∀ τ acc (R:XE->Bool->Sto->Prop),P τ->(∀ τ',P τ'->(p x=true->∀T:RX,T (.d (f x)) (S0++[acc])->te τ' (S0++[acc]) T)->R τ' (p x) (S0++[acc]))->g (.d (h x)) τ (S0++[acc]) fun τ1 S1=>tt τ1 S1 (R τ1)) ->
   fin (S0++[acc++(l.filter p).map f])->aL n g tt te fin (l.map h) τ (S0++[acc]):=by
  intro l;induction l with
  |nil=>intro acc τ _ _ _ h;rw[List.filter_nil,map_nil,fy]at h;exact h
  |cons x l ih=>
   intro acc τ hP hl el hh;show g (.d (h x)) τ (S0++[acc]) fun τ1 S1=>tt τ1 S1 fun b S2=>if b=true then te τ1 S2 fun x S3=>asD x fun e=>∃acc,S3[n]?=some acc/\acc.length<1000/\aL n g tt te fin (l.map h) τ1 (S3.set n (acc++[e]))else aL n g tt te fin (l.map h) τ1 S2
   rw[br]at hl;refine el x bn τ acc (fun τ1 b S2=>if b=true then te τ1 S2 fun x S3=>asD x fun e=>∃acc,S3[n]?=some acc/\acc.length<1000/\aL n g tt te fin (l.map h) τ1 (S3.set n (acc++[e]))else aL n g tt te fin (l.map h) τ1 S2) hP fun τ' q ev=>?_;cases hp:p x with
   |false=>
    rw[List.filter_cons_of_neg (by rw[hp];exact fh)]at hh;exact dP (ih acc τ' q yw (fun e m=>el e (bc _ m)) hh)
   |true=>
    rw[List.filter_cons_of_pos hp,ck]at hh;refine dR (ev hp _ ⟨acc,by rw[<- hn,bi],yw,?_⟩);rw[AL hn];exact ih (acc++[f x]) τ' q (by rw[bx,fe];omega) (fun e m=>el e (bc _ m)) (by rw[cu];exact hh)
 exact go l [] τ hP (by simpa using hl) el (by simpa using hf)
theorem cmf1{h:α->av}(f:α->av)(p:α->Bool)(hn:S0.length=n)(l:List α){u:Option XV}(hl:l.length<=1000)
  (el:∀x∈l,∀(u:Option XV) acc (R:XE->Bool->Sto->Prop),(∀u',(p x=true->∀T:RX,T (.d (f x)) (S0++[acc])->te (u'::caps) (S0++[acc]) T)->R (u'::caps) (p x) (S0++[acc]))->g (.d (h x)) (u::caps) (S0++[acc]) fun τ1 S1=>tt τ1 S1 (R τ1)) (hf:fin (S0++[(l.filter p).map f])):aL n g tt te fin (l.map h) (u::caps) (S0++[[]]):=
 AJ (fun τ=>∃u,τ=u::caps) hn l _ ⟨u,rfl⟩ hl (fun x m τ acc R ⟨u,e⟩ k=>by subst e;exact el x m u acc R fun u' hh=>k _ ⟨u',rfl⟩ hh) hf
theorem cmf2{h:α->av}(f:α->av)(p:α->Bool)(hn:S0.length=n)(l:List α){u v:Option XV}(hl:l.length<=1000)
  (el:∀x∈l,∀(u v:Option XV) acc (R:XE->Bool->Sto->Prop),(∀u' v',(p x=true->∀T:RX,T (.d (f x)) (S0++[acc])->te (u'::v'::caps) (S0++[acc]) T)->R (u'::v'::caps) (p x) (S0++[acc]))->g (.d (h x)) (u::v::caps) (S0++[acc]) fun τ1 S1=>tt τ1 S1 (R τ1)) (hf:fin (S0++[(l.filter p).map f])):aL n g tt te fin (l.map h) (u::v::caps) (S0++[[]]):=
 AJ (fun τ=>∃u v,τ=u::v::caps) hn l _ ⟨u,v,rfl⟩ hl (fun x m τ acc R ⟨u,v,e⟩ k=>by subst e;exact el x m u v acc R fun u' v' hh=>k _ ⟨u',v',rfl⟩ hh) hf
end
end
section
@[irreducible] def QSs (X:Cx) (st:List Stmt) (t:TS):Prop:=PSs X st t
theorem QSs.out{X:Cx}{st:List Stmt}{t:TS}(h:QSs X st t):PSs X st t:=by unfold QSs at h;exact h
theorem QSs.mk{X:Cx}{st:List Stmt}{t:TS}(h:PSs X st t):QSs X st t:=by unfold QSs;exact h
theorem Ep{X:Cx}{b:List Stmt}{R:TS->Prop}(h:∃t,QSs X b t/\R t):∃t,PSs X b t/\R t:=let ⟨t,h1,h2⟩:=h;⟨t,h1.out,h2⟩
@[irreducible] def QA (X:Cx) (es:List Expr) (t:TA):Prop:=PA X es t
theorem QA.out{X:Cx}{es:List Expr}{t:TA}(h:QA X es t):PA X es t:=by unfold QA at h;exact h
theorem QA.mk{X:Cx}{es:List Expr}{t:TA}(h:PA X es t):QA X es t:=by unfold QA;exact h
theorem h9{X:Cx}:QA X [] gE:=QA.mk ze
theorem cD{X:Cx}{e:Expr}{es:List Expr}{te:TE}{t:TA}(ha:PE X e te)(hr:QA X es t)(hs:cq (e::es) X.env=(false,eval e X.env)::cq es X.env:=by rfl):QA X (e::es) (bU te t):=QA.mk (za ha hr.out hs)
theorem vR{X:Cx}{es:List Expr}{t:TA}{pos:Pos}(h:QA X es t):PE X (.List es pos) (hW t):=b0 h.out
@[irreducible] def QS (X:Cx) (st:Stmt) (t:TS):Prop:=PS X st t
theorem QS.out{X:Cx}{st:Stmt}{t:TS}(h:QS X st t):PS X st t:=by unfold QS at h;exact h
theorem QS.mk{X:Cx}{st:Stmt}{t:TS}(h:PS X st t):QS X st t:=by unfold QS;exact h
theorem DJ{X:Cx}{st:Stmt}{rest:List Stmt}{t u:TS}(h1:QS X st t)(h2:QSs X rest u):QSs X (st::rest) (bN t u):=QSs.mk (zh h1.out h2.out)
end
section
def jH(a:DA):DE:=fun δ S R=>a δ S fun xs S1=>arg2 xs fun x y=>asI x fun i=>asI y fun j=>(j-i).toNat<=1000/\R (.d (.list (cJ i (j-i).toNat))) S1
end
end L2
namespace L2
open PySem PySem.Spec PyProof.Rows
section
def kE:D3:=fun x i j S R=>asT x fun ds=>R (.d (.tuple (cY ds i j))) S
end
section
@[irreducible] def QE (X:Cx) (e:Expr) (t:TE):Prop:=PE X e t
theorem QE.out{X:Cx}{e:Expr}{t:TE}(h:QE X e t):PE X e t:=by unfold QE at h;exact h
theorem QE.mk{X:Cx}{e:Expr}{t:TE}(h:PE X e t):QE X e t:=by unfold QE;exact h
theorem nL{X:Cx}{es:List Expr}{t:TA}{k:Nat}{pos:Pos}(h:QA X es t):QE X (.Tuple es k pos) (rG t):=QE.mk (aX h.out)
section
variable {X:Cx}{es l l':List Expr}{te:TE}{t:TA}{k:Nat}{p:Pos}{c:Const}{x:Str}{ks:List (Option Expr)}
theorem pR(ha:QE X (.Tuple l k p) te)(hr:QA X es t):QA X (.Tuple l k p::es) (bU te t):=QA.mk (za ha.out hr.out rfl)
theorem hU(ha:QE X (.Constant c k p) te)(hr:QA X es t):QA X (.Constant c k p::es) (bU te t):=QA.mk (za ha.out hr.out rfl)
end
end
end L2
namespace L2
open PySem PySem.Spec PyProof.Rows
section
def j0:D2:=fun x y S R=>asT x fun ds=>asT y fun es=>∃ns,ds=ns.map bq/\∃ms,es=ms.map bq/\R (.d (.bool (HT.lexLt ns ms))) S
end
section
theorem Dv:fillsNumberSlot (.type "tuple") "mul" = pure false:=
 PySem.fillsNumberSlot_seq (id:="tuple.__mul__") (r:=some (.builtin "tuple.__rmul__")) F.slot_tuple_mul.lookup (by decide +kernel) F.slot_tuple_rmul.lookup (by decide +kernel)
theorem Dn:seqRepeat? (.type "tuple")=pure (some (.builtin "tuple.__mul__")):=by
 unfold seqRepeat?;rw[PySem.seqSlot_of (T:="tuple") (name:="__mul__") (id:="tuple.__mul__") F.slot_tuple_mul.lookup (by decide +kernel),PySem.seqSlot_of (T:="tuple") (name:="__rmul__") (id:="tuple.__rmul__") F.slot_tuple_rmul.lookup (by decide +kernel)];rfl
theorem Cb(a:Int)(t:Tok)(l:Addr)(p:Array au)(n:Nat)(d:Option Addr)(sl:Array (Option au)):
  Meets (Builtin.«int.__rmul__» ⟨[.int a t,.ref l],[]⟩) (fun _ R s=>s.heap.get? l=some { cls:=.type "tuple",dict:=d,data:=.seq p n,slots:=sl }/\R (.ok (.ret Value.notImplemented)) s):=
 .of_wp fun prog w A R s h=>by obtain⟨hp,g,d,tk,os⟩:=s;obtain⟨hl,h⟩:=h;wp_walk;exact⟨_,rfl,h⟩
theorem Ee(l:Addr)(p:Array au)(n:Nat)(d:Option Addr)(sl:Array (Option au))(u:Tok):
  Meets (Builtin.«tuple.__mul__» ⟨[.ref l,.int 1 u],[]⟩) (fun _ R s=>s.heap.get? l=some { cls:=.type "tuple",dict:=d,data:=.seq p n,slots:=sl }/\R (.ok (.ret (.ref l))) s):=
 .of_wp fun prog w A R s h=>by
  obtain⟨hp,g,d,tk,os⟩:=s;obtain⟨hl,h⟩:=h
  wp_walk
  exact⟨_,rfl,h⟩
theorem Ak(l:Addr)(p:Array au)(n:Nat)(d:Option Addr)(sl:Array (Option au))(u:Tok)(x:Int)(hx:x<=0)(q:-(2 ^ 63)<=x)(hi:p.isEmpty=false):
  Meets (Builtin.«tuple.__mul__» ⟨[.ref l,.int x u],[]⟩) (fun _ R s=>s.heap.get? l=some { cls:=.type "tuple",dict:=d,data:=.seq p n,slots:=sl }/\R (.ok (.ret (.ref s.heap.objs.size))) { s with heap:=s.heap.push { cls:=.type "tuple",data:=.seq #[] } }):=
 .of_wp fun prog w A R s h=>by
  obtain⟨hp,g,d,tk,os⟩:=s;obtain⟨hl,h⟩:=h;have c0:(decide (x < -2 ^ 63)||decide (x≥2 ^ 63))=false:=by simp;omega
  have c1:(p.isEmpty||x==1)=false:=by rw[hi];simp;omega
  have c2:(decide (x<=0)||p.isEmpty)=true:=by rw[fc hx];rfl
  wp_walk
  refine ie (by rw[c0];rfl) ?_
  wp_walk
  refine ie (by rw[c1];rfl) ?_;refine wpAny_ite_true (by rw[c2];rfl) ?_
  wp_walk
  exact⟨_,rfl,h⟩
theorem Ap(l:Addr)(p:Array au)(n:Nat)(d:Option Addr)(sl:Array (Option au))(u:Tok)(x:Int)(hx:2<=x)(q:x<2 ^ 63)(hi:p.isEmpty=false)(hz:p.size*x.toNat<=be):
  Meets (Builtin.«tuple.__mul__» ⟨[.ref l,.int x u],[]⟩) (fun _ R s=>s.heap.get? l=some { cls:=.type "tuple",dict:=d,data:=.seq p n,slots:=sl }/\R (.ok (.ret (.ref s.heap.objs.size))) { s with heap:=s.heap.push { cls:=.type "tuple",data:=.seq ((az x.toNat p).foldl (· ++ ·) #[]) } }):=
 .of_wp fun prog w A R s h=>by
  obtain⟨hp,g,d,tk,os⟩:=s;obtain⟨hl,h⟩:=h;have c0:(decide (x < -2 ^ 63)||decide (x≥2 ^ 63))=false:=by simp;omega
  have c1:(p.isEmpty||x==1)=false:=by rw[hi];simp;omega
  have c2:(decide (x<=0)||p.isEmpty)=false:=by rw[hi,ci yw];rfl
  have ez:(p.size:Int)*x=(p.size*x.toNat:Nat):=by rw[Int.natCast_mul,Int.toNat_of_nonneg yw]
  have c3:¬((p.size:Int)*x>(2 ^ 63-1)/8):=by
   rw[ez];have h1:(be:Int)<=(2 ^ 63-1)/8:=by decide
   have h2:((p.size*x.toNat:Nat):Int)<=(be:Int):=Int.ofNat_le.mpr hz;exact fun h3=>absurd (Int.le_trans h2 h1) (Int.not_le.mpr h3)
  have c4:Builtin.Tuple.tupleTooMany ((p.size:Int)*x)=false:=by
   unfold Builtin.Tuple.tupleTooMany;rw[ez];exact ci (Int.not_lt.mpr (Int.ofNat_le.mpr hz))
  have c5:((az x.toNat p).foldl (· ++ ·) #[]).size<=be:=by
   have:=nP p.toList x.toNat [];simp only[Array.toArray_toList]at this;rw[nil_append]at this;rw[this,bv,rH,jz,mul_comm];exact hz
  wp_walk
  refine ie (by rw[c0];rfl) ?_
  wp_walk
  refine ie (by rw[c1];rfl) ?_;refine ie (by rw[c2];rfl) ?_;refine ie (ci c3) ?_;refine ie (by rw[c4];rfl) ?_
  wp_walk
  exact⟨_,rfl,h⟩
def yL(K:bf):R2:=fun x y H Q=>∃a k xs,x=.ref a/\y=.int k/\SqT K H a xs/\xs≠[]/\-1000<=k/\k<=1000/\xs.length*k.toNat<=1000 /\
 (k=1->Q (.ref a) H)/\(k≠1->∀p,H p=none->Q (.ref p) (upd H p (.tup (az k.toNat xs).flatten)))
theorem A3{X:Cx}:OpR X (gf .Mult) (yL X.K):=by
 intro zc s σ H x y v u Q I rx ry h;obtain⟨a,k,xs,rfl,rfl,ha,hx,h1,h2,hz,q1,q2⟩:=h;cases rx;obtain⟨t,rfl⟩:=ry;obtain⟨p,r1,p1,_⟩:=I.tuple ha;have ac:p≠[]:=fun z=>hx (r1.nil_iff.mp z);have aa:p.toArray.isEmpty=false:=by
  cases p with
  |nil=>exact absurd rfl ac
  |cons _ _=>rfl
 have hl:p.length=xs.length:=r1.length.symm;obtain⟨⟨cls,dd,data,sl⟩,ho,hc,n,hd⟩:=id p1;simp only at hc hd;subst hc hd;have ab:p.toArray.size*k.toNat<=be:=by
  rw[bv,hl];exact gu (small1000 hz)
 refine wpAny_binaryOp_repeat_ref (T:="tuple") (U:="int") dz ⟨_,ho,rfl⟩ (fun s'=>typeIs_int s' k t) Dv F.fills_int_mul F.slot_int_rmul Dn F.slot_int_index.lookup
  (call_meets F.slot_int_rmul (typeIs_int s k t) F.entry_int_rmul (F.args_int_rmul_2 _ _) (Cb k t a p.toArray n dd sl) ⟨ho,rfl,⟨_,ho,rfl⟩,?_⟩)
 by_cases hk:k=1
 ·subst hk;exact call_meets F.slot_tuple_mul ⟨_,ho,rfl⟩ F.entry_tuple_mul (F.args_tuple_mul_2 _ _) (Ee a p.toArray n dd sl t) ⟨ho,.ref a,H,I,rfl,q1 rfl⟩
 ·have fin:∀us,us=(az k.toNat p).flatten->EP X zc σ Q (.ref s.heap.objs.size) { s with heap:=s.heap.push { cls:=.type "tuple",data:=.seq us.toArray } }:=fun us e=>by
   refine⟨.ref s.heap.objs.size,_,I.laid (t':=s.toks) (o:=.tup (az k.toNat xs).flatten) (fun b ob q=>bb _ q) (bp _) ?_,rfl,q2 hk _ (I.hok.fresh (bp _))⟩;refine⟨⟨by rw[rH,mul_comm];exact gu (small1000 hz),_,bw _ rfl,rfl⟩,us,?_,IsTup.new _ _⟩;rw[e];exact r1.rep k.toNat
  by_cases h0:k<=0
  ·refine call_meets F.slot_tuple_mul ⟨_,ho,rfl⟩ F.entry_tuple_mul (F.args_tuple_mul_2 _ _) (Ak a p.toArray n dd sl t k h0 yw aa) ⟨ho,?_⟩;have e0:k.toNat=0:=yw
   exact fin [] (by rw[e0];rfl)
  ·refine call_meets F.slot_tuple_mul ⟨_,ho,rfl⟩ F.entry_tuple_mul (F.args_tuple_mul_2 _ _) (Ap a p.toArray n dd sl t k yw yw aa ab) ⟨ho,?_⟩;have e1:=nP p k.toNat [];rw[nil_append]at e1;have:=fin _ rfl;rw[<- e1]at this;exact this
def gQ:D2:=fun x y S R=>asT x fun ds=>asI y fun j=>ds≠[]/\-1000<=j/\j<=1000/\ds.length*j.toNat<=1000/\R (.d (.tuple (az j.toNat ds).flatten)) S
theorem E1{K:bf}:RO (yL K) gQ:=fun h o H S x y v u R Q hs hx hy q c=>by
 obtain⟨ds,rfl,q⟩:=gW q;replace q:=aQ q;obtain⟨j,rfl,hn,h1,h2,hz,q⟩:=q;obtain⟨a,vs,rfl,ea,l⟩:=dU hx;refine⟨a,j,vs,rfl,aP hy,.of ea,?_,h1,h2,by rw[l.length];exact hz,fun e=>?_,fun _=>jN hs (l.rep j.toNat) c q⟩
 ·intro z;have:=l.length;rw[z]at this;exact hn (List.length_eq_zero_iff.mp this.symm)
 ·subst e;have e1:(az (1:Int).toNat ds).flatten=ds:=by simp
  rw[e1]at q;exact c o H S _ _ Ex.refl hs hx q
end
section
section
variable {prog:ca}{w:cy}{A:ef}{E:au->ax->Prop}{s:ax}
theorem qX{h h':Heap}{l:Addr}{p:Array au}(x:h.IsList l p)(k:∀o,h.get? l=some o->h'.get? l=some o):h'.IsList l p:=let ⟨o,ho,r⟩:=x;⟨o,k o ho,r⟩
theorem uK{it t:Addr}{p:Array au}(z:t≠it):∀(n i:Nat) (s:ax) (Q:List au->ax->Prop),s.heap.IsListIter it t i->s.heap.IsList t p->i+n<=p.size ->
  (∀h',h'.IsListIter it t (i+n)->fg it s.heap h'->Q ((p.toList.drop i).take n) { s with heap:=h' })->bh (model prog w) A (draw (.ref it) n) Q E s
 | 0,i,s,Q,hit,_,_,hQ=>by
  show bh _ _ (pure []) Q E s;exact bj (by simpa using hQ s.heap hit (Heap.SameBut.refl ..))
 |n+1,i,s,Q,hit,ht,hle,hQ=>by
  have q:i<p.size:=yw
  show bh _ _ (pyNext (.ref it) >>= _) Q E s;refine aw (wpAny_pyNext_list_item hit ht (x:=p[i]) (by simp[q]) fun h₁ ab aa=>?_);refine aw (fv (uK z n (i+1) _ _ ab (qX ht fun o e=>aa.extBut t o z e) yw fun h₂ y ac=>bj ?_));have hd:p.toList.drop i=p[i]::p.toList.drop (i+1):=by simp[gj,q]
  have:=hQ h₂ (by rw[show i+(n+1)=i+1+n by omega];exact y) (aa.trans ac);rw[hd,List.take_succ_cons]at this;exact this
theorem Ac{t:Addr}{p:Array au}{Q:List au->ax->Prop}(hh:A.handled=none)(ht:s.heap.IsList t p)
  (hQ:∀h',Heap.ExtBut s.heap.objs.size s.heap h'->Q p.toList { s with heap:=h' }):bh (model prog w) A (unpackItems (.ref t) p.size none) Q E s:=by
 have q:t≠s.heap.objs.size:=by obtain⟨o,ho,_⟩:=ht;exact ff (cr ho)
 unfold unpackItems;refine aw ?_
 ·unfold notIterableAtAll;refine aw (wpAny_specialOf ht.typeIs PySem.slot_list_iter.lookup ?_);refine bj ?_;simp only[ia,if_false];refine aw (fv (jk ht ?_));have hp:∀o,s.heap.get? t=some o->(s.heap.push { cls:=.type "list_iterator",data:=.fields #[.ref t,.int 0 0] }).get? t=some o:=fun o e=>bb _ e;refine aw (fv (uK q p.size 0 _ _ ⟨_,bw _ rfl,rfl,rfl⟩ (qX ht hp) yw fun h₁ z y=>?_));have aa:List.take p.size (List.drop 0 p.toList)=p.toList:=by
   rw[List.drop_zero];exact List.take_of_length_le yv
  rw[aa];rw[bu yv];have ab:h₁.IsList t p:=qX ht fun o e=>y.extBut t o q (hp o e);refine aw (fv (wpAny_pyNext_list_end hh z ab yv fun h₂ ac=>?_));simp only[Option.isSome_none,ia,if_false];refine bj (hQ h₂ fun b o hb e=>ac b o hb (y.extBut b o hb (bb _ e)))
theorem Bz{env:Env}{elts:List Expr}{x1}{pos:Pos}{t:Addr}{p:Array au}{Q:Unit->ax->Prop}(hh:A.handled=none)(ht:s.heap.IsList t p)
  (hn:(ik elts env).length=p.size) (hstar:(ik elts env).findIdx? (·.1)=none)
  (h:∀h',Heap.ExtBut s.heap.objs.size s.heap h'->bh (model prog w) A (assignInOrder ((ik elts env).map (·.2)) p.toList) Q E { s with heap:=h' }):
  bh (model prog w) A (assign (.Tuple elts x1 pos) env (.ref t)) Q E s:=by
 rw[assign_Tuple];refine aw (wpAny_standAt ?_);unfold unpack;rw[hn,hstar];exact aw (fv (Ac hh ht h))
end
def tE(K:bf)(n:Nat)(t:TGs):TG:=fun v σ H Q=>∃a xs,v=.ref a/\SqL K H a xs/\xs.length=n/\t xs σ H Q
theorem EG{X:Cx}{es:List Expr}{k:Nat}{t:TGs}{n:Nat}{pos:Pos}(hc:X.calm=true)(h:PGs X es t)
  (hn:(ik es X.env).length=n:=by rfl) (hst:(ik es X.env).findIdx? (·.1)=none:=by rfl):PG X (.Tuple es k pos) (tE X.K n t):=by
 intro zc s σ H v u Q I r hw;obtain⟨a,xs,e1,hq,hl,hw⟩:=hw;subst e1;cases r;obtain⟨p,rv,ht,hz⟩:=I.list hq;refine Bz (I.ok.hd hc) ht.isList (by simp[hn,<- hl,rv.length]) hst fun h' hx=>?_;have I1:Inv X zc σ H { s with heap:=h' }:=I.kept (t':=s.toks) fun b o e=>hx b o (ff (cr e)) e;exact h zc _ σ H xs _ Q I1 (by simpa using rv) hw
def gS(n:Nat)(r:DGs):DG:=fun x δ S N=>asL S x fun ds=>ds.length=n/\r ds δ S N
theorem Aj{K:bf}{n:Nat}{t:TGs}{r:DGs}(h1:RGs t r):RG (tE K n t) (gS n r):=fun h o H δ σ S x v N M he hs hx q c=>by
 obtain⟨ds,hd,hn,q⟩:=q;obtain⟨a,vs,rfl,ea,l⟩:=bL hs hd hx;exact⟨a,vs,rfl,.of ea,by rw[l.length];exact hn,h1 h o H δ σ S ds vs N M he hs l q c⟩
end
end L2
namespace L2
open PySem PySem.Spec PyProof.Rows
section
abbrev EXD:=Addr->List (Str×av)->Prop
abbrev PX:=List XV->Sto->RX->EXD->Prop
def CnX(h o:List Addr)(H:Hp)(EX:EXD)(E:XK):Prop:=∀o' H' S' C a fs,Ex o H o' H'->RepS h o' H' S'->HasE (vx h o' H') C fs (.ref a)->EX C fs->E (.ref C) (some a) H'
theorem CnX.pre{h o o':List Addr}{H H':Hp}{EX:EXD}{E:XK}(c:CnX h o H EX E)(e:Ex o H o' H'):CnX h o' H' EX E:=fun o2 H2 S2 C a fs e2=>c o2 H2 S2 C a fs (e.trans e2)
def RSx(E:XK)(EX:EXD)(t:TS)(dt:DS):Prop:=∀(h o:List Addr) (H:Hp) (δ:XE) (σ:St) (S:Sto) (En:DEnds) (D:Ends),RepE h o H δ σ->RepS h o H S->dt En δ S->EOk h o H En D->CnX h o H EX E->t D σ H
section
variable {E:XK}{EX:EXD}{t u:TS}{dt du:DS}
theorem B5(ht:RS t dt):RSx E EX t dt:=fun h o H δ σ S En D he hs q c _=>ht h o H δ σ S En D he hs q c
def lO(EX:EXD)(C:Addr):DS:=fun _ _ _=>EX C []
end
end
end L2
namespace L2
open PySem PySem.Spec PyProof.Rows
section
def lA(EX:EXD)(C:Addr)(ns:List Str)(da:DA):DS:=fun _ δ S=>da δ S fun xs _=>∃ds,datas xs=some ds/\ds.length=ns.length/\EX C (ns.zip ds)
end
end L2
namespace L2
open PySem PySem.Spec PyProof.Rows
section
abbrev Phi:=List Addr->List Addr->Hp->Prop
class Stb (Φ:Phi):Prop where
 st:∀{h o o':List Addr}{H H':Hp},Φ h o H->Ex o H o' H'->Φ h o' H'
def REp(Φ:Phi)(t:TE)(dt:DE):Prop:=∀(h o:List Addr) (H:Hp) (δ:XE) (σ:St) (S:Sto) (R:RX) (Q:VK),RepE h o H δ σ->RepS h o H S->dt δ S R->Cn h o H R Q->Φ h o H->t σ H Q
def RTp(Φ:Phi)(t:TT)(dt:DT):Prop:=∀(h o:List Addr) (H:Hp) (δ:XE) (σ:St) (S:Sto) (R:Bool->Sto->Prop) (Q:Bool->Hp->Prop),RepE h o H δ σ->RepS h o H S->dt δ S R ->
 (∀o' H' S' b,Ex o H o' H'->RepS h o' H' S'->R b S'->Q b H')->Φ h o H->t σ H Q
def RAp(Φ:Phi)(t:TA)(dt:DA):Prop:=∀(h o:List Addr) (H:Hp) (δ:XE) (σ:St) (S:Sto) (R:List XV->Sto->Prop) (Q:List V->Hp->Prop),RepE h o H δ σ->RepS h o H S->dt δ S R ->
 (∀o' H' S' xs vs,Ex o H o' H'->RepS h o' H' S'->HasXs h o' H' xs vs->R xs S'->Q vs H')->Φ h o H->t σ H Q
def RIp(Φ:Phi)(w:TI)(di:DI):Prop:=∀(h o:List Addr) (H:Hp) (δ:XE) (σ:St) (S:Sto) (R:List av->Sto->Prop) (Q:It->Hp->Prop),RepE h o H δ σ->RepS h o H S->di δ S R ->
 (∀o' H' S' ds J,Ex o H o' H'->RepS h o' H' S'->WalkX h o' H' J ds->R ds S'->Q J H')->Φ h o H->w σ H Q
section
variable {Φ:Phi} [Stb Φ] {ta tb te:TE}{da db de:DE}{tl:TA}{dl:DA}{tt tu:TT}{dt du:DT}
theorem zY(a:RE te de):REp Φ te de:=fun h o H δ σ S R Q he hs q c _=>a h o H δ σ S R Q he hs q c
theorem CH(a:RA tl dl):RAp Φ tl dl:=fun h o H δ σ S R Q he hs q c _=>a h o H δ σ S R Q he hs q c
theorem tZ{w:TI}{di:DI}(a:RI w di):RIp Φ w di:=fun h o H δ σ S R Q he hs q c _=>a h o H δ σ S R Q he hs q c
theorem m4(ha:REp Φ ta da)(hb:RAp Φ tl dl):RAp Φ (bU ta tl) (zd da dl):=fun h o H δ σ S R Q he hs q c x=>
 ha h o H δ σ S _ _ he hs q (fun o1 H1 S1 y v e1 s1 x1 d1=>hb h o1 H1 δ σ S1 _ _ (he.mono e1) s1 d1 (fun o2 H2 S2 xs vs e2 s2 x2 d2=>
  c o2 H2 S2 (y::xs) (v::vs) (e1.trans e2) s2 ⟨v,vs,rfl,x1.mono e2,x2⟩ d2) (Stb.st x e1)) x
theorem uW(ha:REp Φ ta da):RTp Φ (nI ta) (dB da):=fun h o H δ σ S R Q he hs q c w=>
 ha h o H δ σ S _ _ he hs q (fun o1 H1 S1 x v e1 s1 x1 d1=>by
  replace d1:=hG d1;obtain⟨b,rfl,d1⟩:=d1;exact⟨b,d7 x1,c o1 H1 S1 b e1 s1 d1⟩) w
end
section
variable {E:XK}{EX:EXD}{ta tb te:TE}{da db de:DE}{tl:TA}{dl:DA}{tt tu:TT}{dt du:DT}
def kJ(EX:EXD)(m:Nat)(q:PX)(da:DA):DE:=fun δ S R=>da δ S fun xs S1=>∃ds,datas xs=some ds/\ds.length=m/\q (ds.map XV.d) [] (ret0 S1 R) EX
end
def rA(N P:List Str)(sc:Scope):Bool:=decide (sc.kind=.function)&&!sc.isCoroutine&&!sc.isGenerator&&decide N.Nodup&&decide (N.take P.length=P)&&P.all (fun x=>decide (sc.names.lookup x=some .local)||decide (sc.names.lookup x=some .cell))&&sc.names.all fun y=>decide (y.2≠.free)
theorem fsc{N P:List Str}{sc:Scope}(h:rA N P sc=true):FnScope N P sc:=by
 simp only[rA,fu,decide_eq_true_eq,Bool.not_eq_true',all_eq_true,Bool.or_eq_true]at h;obtain⟨⟨⟨⟨⟨⟨h1,h2⟩,h3⟩,h4⟩,h5⟩,h6⟩,h7⟩:=h;exact⟨h1,h2,h3,h4,h5,h6,h7⟩
end
section
section
variable {κ α:Type} [DecidableEq κ]
def lkA(m:List (κ×α))(k:κ):Option α:=(m.find? fun p=>decide (p.1=k)).map (·.2)
def ptA(m:List (κ×α))(k:κ)(v:α):List (κ×α):=if (m.any fun p=>decide (p.1=k))=true then m.map (fun p=>if p.1=k then (p.1,v)else p)else m++[(k,v)]
def HasM(H:Hp):List (κ×av)->List (κ×V)->Prop
 | [],m=>m=[]
 |p::r,m=>∃v m',m=(p.1,v)::m'/\Has H p.2 v/\HasM H r m'
theorem HasM.mono{H H':Hp}(s:Same H H'):∀{m:List (κ×av)}{m':List (κ×V)},HasM H m m'->HasM H' m m'
 | [],_,q=>q
 |p::r,_,⟨v,t,e,q,l⟩=>⟨v,t,e,Has.mono s _ _ q,HasM.mono s l⟩
theorem HasM.length{H:Hp}:∀{m:List (κ×av)}{m':List (κ×V)},HasM H m m'->m'.length=m.length
 | [],_,q=>by rw[show _=[]from q];rfl
 |p::r,_,⟨v,t,e,q,l⟩=>by rw[e,br,br,HasM.length l]
theorem HasM.val{H:Hp}(k:κ):∀{m:List (κ×av)}{m':List (κ×V)},HasM H m m'->(lkA m k=none/\cH m' k=none)\/∃d v,lkA m k=some d/\cH m' k=some v/\Has H d v
 | [],m',q=>by rw[show m'=[]from q];exact .inl ⟨rfl,rfl⟩
 |p::r,m',⟨v,t,e,q,l⟩=>by
  subst e;by_cases hk:p.1=k
  ·exact .inr ⟨p.2,v,by simp[lkA,hk],mS hk,q⟩
  ·have e1:lkA (p::r) k=lkA r k:=by simp[lkA,hk]
   rw[e1,mH hk];exact HasM.val k l
theorem HasM.any{H:Hp}(k:κ):∀{m:List (κ×av)}{m':List (κ×V)},HasM H m m'->(m'.any fun p=>decide (p.1=k))=m.any fun p=>decide (p.1=k)
 | [],m',q=>by rw[show m'=[]from q];rfl
 |p::r,m',⟨v,t,e,q,l⟩=>by
  subst e;rw[any_cons,any_cons,HasM.any k l]
theorem HasM.sets{H:Hp}{k:κ}{d:av}{v:V}(hv:Has H d v):∀{m:List (κ×av)}{m':List (κ×V)},HasM H m m'->HasM H (m.map fun p=>if p.1=k then (p.1,d)else p) (m'.map fun p=>if p.1=k then (p.1,v)else p)
 | [],m',q=>by rw[show m'=[]from q];rfl
 |p::r,m',⟨u,t,e,q,l⟩=>by
  subst e;rw[ck,ck];by_cases hk:p.1=k
  ·exact⟨v,_,by simp[hk],by simpa[hk]using hv,HasM.sets hv l⟩
  ·exact⟨u,_,by simp[hk],by simpa[hk]using q,HasM.sets hv l⟩
theorem HasM.snoc{H:Hp}{k:κ}{d:av}{v:V}(hv:Has H d v):∀{m:List (κ×av)}{m':List (κ×V)},HasM H m m'->HasM H (m++[(k,d)]) (m'++[(k,v)])
 | [],m',q=>by rw[show m'=[]from q];exact⟨v,[],rfl,hv,rfl⟩
 |p::r,m',⟨u,t,e,q,l⟩=>by subst e;exact⟨u,_,rfl,q,HasM.snoc hv l⟩
theorem HasM.put{H:Hp}{k:κ}{d:av}{v:V}{m:List (κ×av)}{m':List (κ×V)}(l:HasM H m m')(hv:Has H d v):HasM H (ptA m k d) (bI m' k v):=by
 unfold ptA bI;rw[l.any k];split
 ·exact l.sets hv
 ·exact l.snoc hv
end
inductive KSg where
 |int|bool|many (s:KSg)|two (s t:KSg)
def KG:KSg->Type
 | .int=>Int
 | .bool=>Bool
 | .many s=>List (KG s)
 | .two s t=>KG s×KG t
instance decKG:(s:KSg)->DecidableEq (KG s)
 | .int=>inferInstanceAs (DecidableEq Int)
 | .bool=>inferInstanceAs (DecidableEq Bool)
 | .many s=>have:=decKG s;inferInstanceAs (DecidableEq (List (KG s)))
 | .two s t=>have:=decKG s;have:=decKG t;inferInstanceAs (DecidableEq (KG s×KG t))
def khash:(s:KSg)->KG s->Int
 | .int,i=>hashInt i
 | .bool,b=>reduceHash (match (show Bool from b)with|true=>1|false=>0)
 | .many s,ks=>reduceHash (Builtin.Tuple.tupleHashOf (ks.map (khash s)))
 | .two s t,k=>reduceHash (Builtin.Tuple.tupleHashOf [khash s k.1,khash t k.2])
def kdat:(g:KSg)->KG g->av
 | .int,i=>.int i
 | .bool,b=>.bool b
 | .many g,ks=>.tuple (List.map (kdat g) ks)
 | .two g g',k=>.tuple [kdat g k.1,kdat g' k.2]
def PDict(g:KSg)(ob:Obj)(xs:List (KG g×Addr×au)):Prop:=ob.ExactDict/\∃es ep,ob.data=.dict es ep/\es.toList=xs.map (fun x=>⟨khash g x.1,.ref x.2.1,x.2.2⟩)/\(xs.map (·.1)).Nodup
def PrG(G:Hp)(g:KSg):List (KG g×av)->List (KG g×Addr×au)->Prop
 | [],xs=>xs=[]
 |p::r,xs=>∃q t,xs=q::t/\q.1=p.1/\Has G (kdat g p.1) (.ref q.2.1)/\(∃v,Has G p.2 v/\RelV v q.2.2)/\PrG G g r t
theorem PrG.mono{G G':Hp}{g:KSg}(s:Same G G'):∀{m:List (KG g×av)}{xs:List (KG g×Addr×au)},PrG G g m xs->PrG G' g m xs
 | [],_,q=>q
 |p::r,_,⟨q,t,e,e1,h1,⟨v,h2,h3⟩,l⟩=>⟨q,t,e,e1,Has.mono s _ _ h1,⟨v,Has.mono s _ _ h2,h3⟩,PrG.mono s l⟩
inductive DD where
 |k (m:List (Key×av))
 |t (m:List (List Key×av))
 |g (g:KSg) (ob:Obj) (m:List (KG g×av))
def DD.pairs:DD->List (av×av)
 | .k m=>m.map fun p=>(kD p.1,p.2)
 | .t m=>m.map fun p=>(.tuple (p.1.map kD),p.2)
 | .g sg _ m=>m.map fun p=>(kdat sg p.1,p.2)
def DD.len:DD->Nat
 | .k m=>m.length
 | .t m=>m.length
 | .g _ _ m=>m.length
def dF:av->Option Key
 | .int i=>some (.inl i)
 | .str x=>some (.inr x)
 |_=>none
def gX:List av->Option (List Key)
 | []=>some []
 |d::ds=>(dF d).bind fun k=>(gX ds).map (k :: ·)
def fT:av->Option (List Key)
 | .tuple ds=>gX ds
 |_=>none
def DD.get:DD->av->Option (Option av)
 | .k m,y=>(dF y).map (lkA m)
 | .t m,y=>(fT y).map (lkA m)
 | .g _ _ _,_=>none
def DD.put:DD->av->av->Option DD
 | .k m,y,d=>(dF y).map fun k=>.k (ptA m k d)
 | .t m,y,d=>(fT y).map fun k=>.t (ptA m k d)
 | .g _ _ _,_,_=>none
def RAt(G H:Hp)(a:Addr):DD->Prop
 | .k m=>∃m',Rd H a (.dK m')/\HasM G m m'
 | .t m=>∃m',Rd H a (.dT m')/\HasM G m m'
 | .g g ob m=>H a=some (obO a ob)/\(a==gq)=false/\∃xs,PDict g ob xs/\PrG G g m xs
def DAt(G H:Hp)(a:Addr):DD->Prop
 | .k m=>∃m',H a=some (.dK m')/\HasM G m m'
 | .t m=>∃m',H a=some (.dT m')/\HasM G m m'
 | .g g ob m=>H a=some (obO a ob)/\(a==gq)=false/\∃xs,PDict g ob xs/\PrG G g m xs
theorem qV{H:Hp}{y:av}{v:V}{k:Key}(e:dF y=some k)(q:Has H y v):v=kV k:=by
 cases y with
 |int i=>cases e;exact bV.mp q
 |str x=>cases e;exact eJ.mp q
 |_=>cases e
theorem uM{H:Hp}:∀{ds:List av}{vs:List V}{ks:List Key},gX ds=some ks->HasL H ds vs->vs=ks.map kV
 | [],vs,ks,e,l=>by cases e;exact zo.mp l
 |d::ds,vs,ks,e,l=>by
  obtain⟨v,r,rfl,q,l⟩:=zn.mp l;unfold gX at e;cases hk:dF d with
  |none=>rw[hk]at e;cases e
  |some k=>
   rw[hk,Option.bind_some]at e;cases hs:gX ds with
   |none=>rw[hs]at e;cases e
   |some ks'=>
    rw[hs]at e;cases e;rw[qV hk q,uM hs l];rfl
theorem tG{H:Hp}{y:av}{v:V}{ks:List Key}(e:fT y=some ks)(q:Has H y v):∃b,v=.ref b/\H b=some (.tup (ks.map kV)):=by
 cases y with
 |tuple ds=>
  obtain⟨b,vs,rfl,eb,l⟩:=zJ.mp q;exact⟨b,rfl,by rw[<- uM (show gX ds=some ks from e) l];exact eb⟩
 |_=>cases e
theorem DAt.mono{G G' H H':Hp}{a:Addr}{D:DD}(s:Same G G')(e:∀u,H a=some u->H' a=some u)(q:DAt G H a D):DAt G' H' a D:=by
 cases D with
 |k m=>obtain⟨m',e1,l⟩:=q;exact⟨m',e _ e1,l.mono s⟩
 |t m=>obtain⟨m',e1,l⟩:=q;exact⟨m',e _ e1,l.mono s⟩
 |g g ob m=>obtain⟨e1,ha,xs,pd,l⟩:=q;exact⟨e _ e1,ha,xs,pd,l.mono s⟩
theorem DAt.rd{G H:Hp}{a:Addr}{D:DD}(q:DAt G H a D):RAt G H a D:=by
 cases D with
 |k m=>obtain⟨m',e1,l⟩:=q;exact⟨m',.inl e1,l⟩
 |t m=>obtain⟨m',e1,l⟩:=q;exact⟨m',.inl e1,l⟩
 |g g ob m=>exact q
theorem DAt.mo{G H:Hp}{a:Addr}{D:DD}(q:DAt G H a D):∃u:MO,H a=some u.ho:=by
 cases D with
 |k m=>obtain⟨m',e1,l⟩:=q;exact⟨.k m',e1⟩
 |t m=>obtain⟨m',e1,l⟩:=q;exact⟨.t m',e1⟩
 |g g ob m=>exact⟨.x a ob,q.1⟩
def RelD(G:Hp):Option av->Option V->Prop
 |none,r=>r=none
 |some d,r=>∃u,r=some u/\Has G d u
theorem RAt.get{G H:Hp}{a:Addr}{D:DD}{y:av}{v:V}{o:Option av}(sv:Same G H)(q:RAt G H a D)(hy:Has G y v)(e:D.get y=some o):∃r,DGet H a v r/\RelD G o r:=by
 cases D with
 |k m=>
  obtain⟨m',e1,l⟩:=q;replace e:(dF y).map (lkA m)=some o:=e;cases hk:dF y with
  |none=>rw[hk]at e;cases e
  |some k=>
   rw[hk]at e;cases e;rw[qV hk hy];refine⟨_,.inl ⟨m',k,e1,rfl,rfl⟩,?_⟩;rcases l.val k with ⟨z1,z2⟩|⟨d,u,z1,z2,z3⟩
   ·rw[z1];exact z2
   ·rw[z1];exact⟨u,z2,z3⟩
 |t m=>
  obtain⟨m',e1,l⟩:=q;replace e:(fT y).map (lkA m)=some o:=e;cases hk:fT y with
  |none=>rw[hk]at e;cases e
  |some k=>
   rw[hk]at e;cases e;obtain⟨b,rfl,eb⟩:=tG hk hy;refine⟨_,.inr ⟨m',k,b,e1,rfl,sv _ _ eb,rfl⟩,?_⟩;rcases l.val k with ⟨z1,z2⟩|⟨d,u,z1,z2,z3⟩
   ·rw[z1];exact z2
   ·rw[z1];exact⟨u,z2,z3⟩
 |g g ob m=>cases e
theorem DAt.put{G H:Hp}{a:Addr}{D D':DD}{y d:av}{v u:V}(sv:Same G H)(q:DAt G H a D)(hy:Has G y v)(hd:Has G d u)(e:D.put y d=some D')(hl:D.len<1000):
  ∃x:MO,DPut H a v u (upd H a x.ho)/\∀H',H' a=some x.ho->DAt G H' a D':=by
 cases D with
 |k m=>
  obtain⟨m',e1,l⟩:=q;replace e:((dF y).map fun k=>DD.k (ptA m k d))=some D':=e;cases hk:dF y with
  |none=>rw[hk]at e;cases e
  |some k=>
   rw[hk]at e;cases e;rw[qV hk hy];exact⟨.k (bI m' k u),DPut.k e1 (by rw[l.length];exact small1000 (gu hl)),fun H' z=>⟨_,z,l.put hd⟩⟩
 |t m=>
  obtain⟨m',e1,l⟩:=q;replace e:((fT y).map fun k=>DD.t (ptA m k d))=some D':=e;cases hk:fT y with
  |none=>rw[hk]at e;cases e
  |some k=>
   rw[hk]at e;cases e;obtain⟨b,rfl,eb⟩:=tG hk hy;exact⟨.t (bI m' k u),DPut.t e1 (sv _ _ eb) (by rw[l.length];exact small1000 (gu hl)),fun H' z=>⟨_,z,l.put hd⟩⟩
 |g g ob m=>cases e
theorem DP{a b:Key}(e:kD a=kD b):a=b:=by
 cases a<;>cases b<;>cases e<;>rfl
theorem vQ{H:Hp}:∀{m:List (Key×av)}{m':List (Key×V)},HasM H m m'->HasV H (m.map fun p=>(kD p.1,p.2)) (m'.map (·.2))/\m'.map (fun p=>kD p.1)=m.map fun p=>kD p.1
 | [],m',q=>by rw[show m'=[]from q];exact⟨FL.mpr rfl,rfl⟩
 |p::r,m',⟨v,t,e,q,l⟩=>by
  subst e;obtain⟨z1,z2⟩:=vQ l;exact⟨AG.mpr ⟨v,_,rfl,q,z1⟩,by rw[ck,ck,z2]⟩
theorem wV{H:Hp}:∀{m:List (Key×av)}{m':List (Key×V)},HasV H (m.map fun p=>(kD p.1,p.2)) (m'.map (·.2))->m.map (fun p=>kD p.1)=m'.map (fun p=>kD p.1)->HasM H m m'
 | [],[],_,_=>rfl
 | [],_::_,_,e=>by simp at e
 |_::_,[],_,e=>by simp at e
 |p::r,q::t,h,e=>by
  rw[ck,ck]at h;obtain⟨v,s,e1,e2,e3⟩:=AG.mp h;rw[List.cons.injEq]at e1;rw[ck,ck,List.cons.injEq]at e;have z:=DP e.1;obtain⟨q1,q2⟩:=q;refine⟨q2,t,by rw[z],?_,wV (by rw[e1.2];exact e3) e.2⟩;have z1:q2=v:=e1.1;rw[z1];exact e2
theorem rE{H:Hp}{m:List (Key×av)}{v:V}:Has H (.dict (DD.pairs (.k m))) v↔∃a ob m',v=.ref a/\H a=some (.frz ob (.dK m'))/\HasM H m m':=by
 rw[qK];constructor
 ·rintro⟨a,vs,rfl,⟨ob,m',e,e1,e2⟩|⟨ob,p,m',e,e1,e2⟩,l⟩
  rotate_left
  ·cases m with
   |nil=>cases e1
   |cons q r=>
    have z:=congrArg List.head? e1;simp only[DD.pairs,ck,List.head?_cons,Option.some.injEq]at z;cases h:q.1<;>rw[h]at z<;>cases z
  subst e2;refine⟨a,ob,m',rfl,e,wV l ?_⟩;rw[<- e1];simp[DD.pairs]
 ·rintro⟨a,ob,m',rfl,e,l⟩;obtain⟨z1,z2⟩:=vQ l;exact⟨a,_,rfl,.inl ⟨ob,m',e,by rw[z2];simp[DD.pairs],rfl⟩,z1⟩
abbrev DM:=List (Addr×DD)
def ad(M:DM):List Addr:=M.map (·.1)
structure RepM(h o:List Addr)(H:Hp)(M:DM):Prop where
 nd:(ad M).Nodup
 nh:∀a∈ad M,a∉h/\a∉o
 ct:∀a D,(a,D)∈M->DAt (vx (h++ad M) o H) H a D
section
variable {h o o':List Addr}{H H':Hp}{M:DM}{S:Sto}
theorem RepM.at(r:RepM h o H M){a:Addr}(m:a∈ad M):∃D,(a,D)∈M/\DAt (vx (h++ad M) o H) H a D:=by
 obtain⟨p,mp,e⟩:=mem_map.mp m;obtain⟨b,D⟩:=p;cases e;exact⟨D,mp,r.ct _ D mp⟩
theorem RepM.mono(r:RepM h o H M)(e:Ex o H o' H'):RepM h o' H' M:=by
 have k1:∀a∈ad M,∀u,H a=some u->a∉o'/\H' a=some u:=fun a m u z=>e.kp a u (r.nh a m).2 z;refine⟨r.nd,fun a m=>⟨(r.nh a m).1,?_⟩,fun a D m=>?_⟩
 ·obtain⟨D,_,q⟩:=r.at m;obtain⟨u,z⟩:=q.mo;exact(k1 a m _ z).1
 ·exact(r.ct a D m).mono e.vx fun u z=>(k1 a (mem_map.mpr ⟨_,m,rfl⟩) u z).2
theorem RepM.nil:RepM h o H []:=⟨gn,fun a m=>(by cases m),fun a D m=>(by cases m)⟩
def dS(M:DM)(a:Addr)(D:DD):DM:=M.map fun p=>if p.1=a then (a,D)else p
theorem fR{a:Addr}{D:DD}:∀{M:DM},ad (dS M a D)=ad M
 | []=>rfl
 |p::r=>by
  have z:=fR (a:=a) (D:=D) (M:=r);unfold ad dS at z ⊢;rw[ck,ck,ck,z];by_cases e:p.1=a<;>simp[e]
theorem oO{a:Addr}{u:HO}(m:a∈h):Same (vx h o H) (vx h o (upd H a u)):=fun b w e=>by
 obtain⟨z1,z2,z3⟩:=zr.mp e;exact zr.mpr ⟨z1,z2,by rw[zp (fun z=>z1 (by rw[z];exact m))];exact z3⟩
theorem HasX.view(s:Same (vx h o H) (vx h o H')):∀{x:XV}{v:V},HasX h o H x v->HasX h o H' x v
 | .d d,v,q=>Has.mono s d v q
 | .l k,v,q=>q
 | .o w,v,q=>q
 | .x C fs,v,q=>HasE.mono s q
 | .p k d,v,q=>HasLP.to s (fun _ z=>z) q
theorem RepE.view{δ:XE}{σ:St}(s:Same (vx h o H) (vx h o H'))(r:RepE h o H δ σ):RepE h o H' δ σ:=⟨r.len,fun i x e=>let ⟨v,e1,e2⟩:=r.get i x e;⟨v,e1,e2.view s⟩⟩
theorem RepS.hidden{a:Addr}{u:MO}(r:RepS h o H S)(m:a∈h):RepS h o (L2.upd H a u.ho) S where
 len:=r.len
 nd:=r.nd
 dis:=r.dis
 hal:=fun b mb=>by
  by_cases e:b=a
  ·subst e;exact⟨u,zH⟩
  ·obtain⟨w,z⟩:=r.hal b mb;exact⟨w,by rw[zp e];exact z⟩
 cont:=fun k b ds e1 e2=>by
  obtain⟨vs,e3,l⟩:=r.cont k b ds e1 e2;have ne:b≠a:=fun z=>r.dis b (cf e1) (z▸m);exact⟨vs,by rw[zp ne];exact e3,HasL.mono (oO m) _ _ l⟩
theorem RepM.put{a:Addr}{D D':DD}{u:MO}(r:RepM h o H M)(m:(a,D)∈M)(q:∀H',H' a=some u.ho->DAt (vx (h++ad M) o H) H' a D'):RepM h o (L2.upd H a u.ho) (dS M a D'):=by
 have ma:a∈ad M:=mem_map.mpr ⟨_,m,rfl⟩;refine⟨by rw[fR];exact r.nd,by rw[fR];exact r.nh,fun b D2 mb=>?_⟩;rw[fR];have sv:Same (vx (h++ad M) o H) (vx (h++ad M) o (L2.upd H a u.ho)):=oO (bd _ ma);obtain⟨p,mp,ep⟩:=mem_map.mp mb;by_cases e:p.1=a
 ·rw[cb e]at ep;cases ep;exact(q _ zH).mono sv fun _ z=>z
 ·rw[bu e]at ep;subst ep;exact(r.ct _ _ mp).mono sv fun w z=>by rw[zp e];exact z
theorem RepS.less{l:List Addr}(r:RepS (h++l) o H S):RepS h o H S where
 len:=r.len
 nd:=r.nd
 dis:=fun a ma z=>r.dis a ma (ba _ z)
 hal:=fun b mb=>r.hal b (ba _ mb)
 cont:=fun k b ds e1 e2=>by
  obtain⟨vs,e3,q⟩:=r.cont k b ds e1 e2;exact⟨vs,e3,HasL.mono (fun c u z=>let ⟨z1,z2,z3⟩:=zr.mp z;zr.mpr ⟨fun mm=>z1 (ba _ mm),z2,z3⟩) _ _ q⟩
theorem gU{l:List Addr}:Same (vx (h++l) o H) (vx h o H):=fun c u z=>let ⟨z1,z2,z3⟩:=zr.mp z;zr.mpr ⟨fun mm=>z1 (ba _ mm),z2,z3⟩
theorem HasX.less{l:List Addr}:∀{x:XV}{v:V},HasX (h++l) o H x v->HasX h o H x v
 | .d d,v,q=>Has.mono gU d v q
 | .l k,v,q=>q
 | .o w,v,q=>q
 | .x C fs,v,q=>HasE.mono gU q
 | .p k d,v,q=>HasLP.to gU (fun _ z=>z) q
end
end
section
structure DEndsM where
 nx:XE->Sto->DM->Prop
 rt:XV->Sto->DM->Prop
 bk:XE->Sto->DM->Prop:=fun _ _ _=>False
 ct:XE->Sto->DM->Prop:=fun _ _ _=>False
abbrev DSm:=DEndsM->XE->Sto->DM->Prop
def Fr(H:Hp)(M:DM):Prop:=∀a∈ad M,H a=none
def NxM(h o:List Addr)(H:Hp)(A:List Addr)(N:XE->Sto->DM->Prop)(Y:St->Hp->Prop):Prop:=∀o' H' δ' S' M' σ',Ex o H o' H'->ad M'=A->RepE (h++ad M') o' H' δ' σ'->RepS (h++ad M') o' H' S'->RepM h o' H' M'->N δ' S' M'->Y σ' H'
structure EOkM(h o:List Addr)(H:Hp)(A:List Addr)(E:DEndsM)(D:Ends):Prop where
 nx:NxM h o H A E.nx D.nx
 rt:∀o' H' S' M' x v,Ex o H o' H'->ad M'=A->RepS (h++ad M') o' H' S'->RepM h o' H' M'->HasX (h++ad M') o' H' x v->E.rt x S' M'->D.rt v H'
 bk:NxM h o H A E.bk D.bk
 ct:NxM h o H A E.ct D.ct
def RSm(E:XK)(EX:EXD)(t:TS)(dt:DSm):Prop:=∀(h o0:List Addr) (H0:Hp) (o:List Addr) (H:Hp) (δ:XE) (σ:St) (S:Sto) (M:DM) (En:DEndsM) (D:Ends),Ex o0 H0 o H->Fr H0 M->RepE (h++ad M) o H δ σ->RepS (h++ad M) o H S->RepM h o H M->dt En δ S M ->
 EOkM h o0 H0 (ad M) En D->CnX h o0 H0 EX E->t D σ H
theorem CnX.inn{E:XK}{EX:EXD}{h o0 o l:List Addr}{H0 H:Hp}(x:CnX h o0 H0 EX E)(e0:Ex o0 H0 o H):CnX (h++l) o H EX E:=fun o' H' S' C a fs e s' hE q=>x o' H' S' C a fs (e0.trans e) s'.less (HasE.mono gU hE) q
def bE(dt:DS):DSm:=fun En δ S M=>dt { nx:=fun δ' S'=>En.nx δ' S' M,rt:=fun x S'=>En.rt x S' M,bk:=fun δ' S'=>En.bk δ' S' M,ct:=fun δ' S'=>En.ct δ' S' M } δ S
def cM(t u:DSm):DSm:=fun En δ S M=>t { En with nx:=u En } δ S M
def eU(c:DM->DT)(t u:DSm):DSm:=fun En δ S M=>c M δ S fun b S1=>if b=true then t En δ S1 M else u En δ S1 M
def dJ(g:DG)(b:DSm):List av->DSm
 | [],E,δ,S,M=>E.nx δ S M
 |d::ds,E,δ,S,M=>g (.d d) δ S fun δ1 S1=>b { nx:=fun δ2 S2 M2=>dJ g b ds E δ2 S2 M2,ct:=fun δ2 S2 M2=>dJ g b ds E δ2 S2 M2,bk:=E.nx,rt:=E.rt } δ1 S1 M
def eL(i:DM->DI)(g:DG)(b:DSm):DSm:=fun En δ S M=>i M δ S fun ds S1=>dJ g b ds En δ S1 M
def PhM(M:DM):Phi:=fun h' o H=>∃h,h'=h++ad M/\RepM h o H M
instance {M:DM}:Stb (PhM M):=⟨fun⟨h,e,r⟩ x=>⟨h,e,r.mono x⟩⟩
section
variable {E:XK}{EX:EXD}{t u:TS}{dt du:DSm}
theorem Ea{ds:DS}(ht:RSx E EX t ds):RSm E EX t (bE ds):=fun h o0 H0 o H δ σ S M En D e0 fr he hs rm q c x=>
 ht (h++ad M) o H δ σ S _ D he hs q ⟨fun o' H' δ' S' σ' e z p n=>c.nx o' H' δ' S' M σ' (e0.trans e) rfl z p (rm.mono e) n,fun o' H' S' y v e p hy n=>c.rt o' H' S' M y v (e0.trans e) rfl p (rm.mono e) hy n,
  fun o' H' δ' S' σ' e z p n=>c.bk o' H' δ' S' M σ' (e0.trans e) rfl z p (rm.mono e) n,fun o' H' δ' S' σ' e z p n=>c.ct o' H' δ' S' M σ' (e0.trans e) rfl z p (rm.mono e) n⟩ (x.inn e0)
theorem i4{ds:DS}(ht:RS t ds):RSm E EX t (bE ds):=Ea (B5 ht)
theorem oD(ht:RSm E EX t dt)(hu:RSm E EX u du):RSm E EX (bN t u) (cM dt du):=fun h o0 H0 o H δ σ S M En D e0 fr he hs rm q c x=>
 ht h o0 H0 o H δ σ S M _ _ e0 fr he hs rm q ⟨fun o1 H1 δ1 S1 M1 σ1 e1 ea z y p q1=>hu h o0 H0 o1 H1 δ1 σ1 S1 M1 En D e1 (by unfold Fr;rw[ea];exact fr) z y p q1 (by rw[ea];exact c) x,c.rt,c.bk,c.ct⟩ x
theorem Ch{tc:TT}{dc:DM->DT}(hc:∀M,RTp (PhM M) tc (dc M))(ht:RSm E EX t dt)(hu:RSm E EX u du):RSm E EX (lD tc t u) (eU dc dt du):=fun h o0 H0 o H δ σ S M En D e0 fr he hs rm q c x=>
 hc M (h++ad M) o H δ σ S _ _ he hs q (fun o1 H1 S1 b e1 s1 d1=>by
  cases b with
  |true=>exact dR (ht h o0 H0 o1 H1 δ σ S1 M En D (e0.trans e1) fr (he.mono e1) s1 (rm.mono e1) (by simpa using d1) c x)
  |false=>exact dP (hu h o0 H0 o1 H1 δ σ S1 M En D (e0.trans e1) fr (he.mono e1) s1 (rm.mono e1) (by simpa using d1) c x)) ⟨h,rfl,rm⟩
theorem tV{wi:TI}{g:TG}{tb:TS}{di:DM->DI}{dg:DG}{db:DSm}(hi:∀M,RIp (PhM M) wi (di M))(hg:RG g dg)(hb:RSm E EX tb db):RSm E EX (lE wi g tb) (eL di dg db):=fun h o0 H0 o H δ σ S M En D e0 fr he hs rm q c x=>
 hi M (h++ad M) o H δ σ S _ _ he hs q (fun o1 H1 S1 ds J e1 s1 wk d1=>by
  refine⟨fun i m σ2 H2=>m=ds.length-i/\i<=ds.length/\∃o2 δ2 S2 M2,Ex o0 H0 o2 H2/\ExH (h++ad M) o1 H1 o2 H2/\ad M2=ad M/\RepE (h++ad M) o2 H2 δ2 σ2/\RepS (h++ad M) o2 H2 S2/\RepM h o2 H2 M2/\dJ dg db (ds.drop i) En δ2 S2 M2,
   ⟨ds.length,yv,kh _,o1,δ,S1,M,e0.trans e1,ExH.refl,rfl,he.mono e1,s1,rm.mono e1,d1⟩,?_⟩
  rintro i m σ2 H2 ⟨rfl,hi,o2,δ2,S2,M2,e2,x2,ea,aj,ag,ah,d2⟩;by_cases hlt:i<ds.length
  ·have ed:ds[i]?=some ds[i]:=bg hlt;rw[gj hlt]at d2;refine .inr ⟨wk.go i _ o2 H2 x2 ed,fun σ3 H3=>∃o3 δ3 S3 M3,Ex o0 H0 o3 H3/\ExH (h++ad M) o1 H1 o3 H3/\ad M3=ad M/\RepE (h++ad M) o3 H3 δ3 σ3/\RepS (h++ad M) o3 H3 S3/\RepM h o3 H3 M3/\dJ dg db (ds.drop (i+1)) En δ3 S3 M3,fun σ3 H3 n=>⟨ds.length-(i+1),yw,rfl,hlt,n⟩,fun y H3 yy=>?_⟩;obtain⟨s3,hx⟩:=wk.yld i _ o2 H2 y H3 S2 x2 ag ed yy;have ai:Ex o2 H2 o2 H3:=Ex.of_same s3;refine hg (h++ad M) o2 H3 δ2 σ2 S2 (.d ds[i]) y _ _ (aj.mono ai) (ag.same s3) hx d2 fun o4 H4 δ4 S4 σ4 e4 al ak d4=>?_;have ae:Ex o2 H2 o4 H4:=ai.trans e4;have nM:∀b u,H0 b=some u->b∉ad M:=fun b u z mb=>by
    rw[fr b mb]at z;cases z
   have ac:Ex o0 H0 o4 (fun b=>if b∈ad M then none else H4 b):=⟨(e2.trans ae).pre,fun b u nb z=>by
    obtain⟨z1,z2⟩:=(e2.trans ae).kp b u nb z;exact⟨z1,by show (if b∈ad M then none else H4 b)=some u;rw[bu (nM b u z)];exact z2⟩⟩
   have an:∀{o5 H5},Ex o4 (fun b=>if b∈ad M then none else H4 b) o5 H5->ExH (h++ad M) o4 H4 o5 H5:=fun e5=>⟨e5.pre,fun b u n1 n2 z=>e5.kp b u n2 (by show (if b∈ad M then none else H4 b)=some u;rw[bu (fun mb=>n1 (bd _ mb))];exact z)⟩;have ab:∀o5 H5 δ5 S5 M5 σ5,Ex o4 (fun b=>if b∈ad M then none else H4 b) o5 H5->ad M5=ad M2->RepE (h++ad M5) o5 H5 δ5 σ5->RepS (h++ad M5) o5 H5 S5->RepM h o5 H5 M5->dJ dg db (ds.drop (i+1)) En δ5 S5 M5 ->
     ∃o3 δ3 S3 M3,Ex o0 H0 o3 H5/\ExH (h++ad M) o1 H1 o3 H5/\ad M3=ad M/\RepE (h++ad M) o3 H5 δ3 σ5/\RepS (h++ad M) o3 H5 S3/\RepM h o3 H5 M3/\dJ dg db (ds.drop (i+1)) En δ3 S3 M3:=fun o5 H5 δ5 S5 M5 σ5 e5 a5 af aa p d5=>
    ⟨o5,δ5,S5,M5,ac.trans e5,(x2.trans ae.hid).trans (an e5),a5.trans ea,by rw[<- ea,<- a5];exact af,by rw[<- ea,<- a5];exact aa,p,d5⟩
   refine hb h o4 (fun b=>if b∈ad M then none else H4 b) o4 H4 δ4 σ4 S4 M2 _ _ ⟨⟨[],yv⟩,fun b u nb eb=>?_⟩ (fun a ma=>by show (if a∈ad M then none else H4 a)=none;rw[cb (by rw[<- ea];exact ma)]) (by rw[ea];exact al) (by rw[ea];exact ak) (ah.mono ae) d4
    ⟨ab,fun o5 H5 S5 M5 y5 v5 e5 a5 aa p am q5=>c.rt o5 H5 S5 M5 y5 v5 (ac.trans e5) (a5.trans ea) aa p am q5,fun o5 H5 δ5 S5 M5 σ5 e5 a5 af aa p q5=>c.nx o5 H5 δ5 S5 M5 σ5 (ac.trans e5) (a5.trans ea) af aa p q5,ab⟩ (x.pre ac)
   refine⟨nb,?_⟩;by_cases mb:b∈ad M
   ·simp[mb]at eb
   ·simpa[mb]using eb
  ·have ei:i=ds.length:=yw
   subst ei;rw[drop_length]at d2;exact .inl ⟨wk.stop _ o2 H2 x2 (bp _),c.nx o2 H2 δ2 S2 M2 σ2 e2 ea (by rw[ea];exact aj) (by rw[ea];exact ag) ah d2⟩) ⟨h,rfl,rm⟩
end
end
section
section
variable {h h' o:List Addr}{H H':Hp}
theorem HasX.to(s:Same (vx h o H) (vx h' o H')):∀{x:XV}{v:V},HasX h o H x v->HasX h' o H' x v
 | .d d,v,q=>Has.mono s d v q
 | .l k,v,q=>q
 | .o w,v,q=>q
 | .x C fs,v,q=>HasE.mono s q
 | .p k d,v,q=>HasLP.to s (fun _ z=>z) q
theorem RepE.to{δ:XE}{σ:St}(s:Same (vx h o H) (vx h' o H'))(r:RepE h o H δ σ):RepE h' o H' δ σ:=⟨r.len,fun i x e=>let ⟨v,e1,e2⟩:=r.get i x e;⟨v,e1,e2.to s⟩⟩
end
def hX(a:Addr)(m:List (Key×av)):XV->XV
 | .o (.ref b)=>if b=a then .d (.dict (DD.pairs (.k m)))else .o (.ref b)
 |x=>x
theorem An{h h' o:List Addr}{H H':Hp}{a:Addr}{m:List (Key×av)}{m':List (Key×V)}{ob:Obj}(s:Same (vx h o H) (vx h' o H'))(e:vx h' o H' a=some (.frz ob (.dK m')))(l:HasM (vx h o H) m m'):∀{x:XV}{v:V},HasX h o H x v->HasX h' o H' (hX a m x) v
 | .d d,v,z=>Has.mono s d v z
 | .l k,v,z=>z
 | .x C fs,v,z=>HasE.mono s z
 | .p k d,v,z=>HasLP.to s (fun _ z=>z) z
 | .o w,v,z=>by
  cases w with
  |ref b=>
   unfold hX;dsimp only;split
   ·rename_i eb;subst eb;rw[show v=.ref b from z];exact rE.mpr ⟨b,ob,m',rfl,e,l.mono s⟩
   ·exact z
  |_=>exact z
theorem EU{h h' o:List Addr}{H H':Hp}{a:Addr}{m:List (Key×av)}{m':List (Key×V)}{ob:Obj}{δ:XE}{σ:St}(s:Same (vx h o H) (vx h' o H'))(e:vx h' o H' a=some (.frz ob (.dK m')))(l:HasM (vx h o H) m m')(r:RepE h o H δ σ):RepE h' o H' (δ.map (Option.map (hX a m))) σ:=by
 refine⟨by rw[bo];exact r.len,fun i x ex=>?_⟩;rw[eg]at ex;cases hd:δ[i]? with
 |none=>rw[hd]at ex;cases ex
 |some y=>
  rw[hd]at ex;cases y with
  |none=>cases ex
  |some y=>
   cases ex;obtain⟨v,e1,e2⟩:=r.get i y hd;exact⟨v,e1,An s e l e2⟩
theorem zu{M:DM}{a:Addr}{D:DD}:ad (M++[(a,D)])=ad M++[a]:=by simp[ad]
theorem RepM.init{h o:List Addr}{H:Hp}{M:DM}{a:Addr}{D:DD}(r:RepM h o H (M++[(a,D)])):RepM h o H M:=by
 have nd:=r.nd;rw[zu]at nd;refine⟨(nodup_append.mp nd).1,fun b m=>r.nh b (by rw[zu];exact ba _ m),fun b D2 m=>?_⟩;have z:=r.ct b D2 (ba _ m);rw[zu,<- cu]at z;exact z.mono gU fun _ z=>z
def e9(f:Bool)(i:Nat)(D0:DD)(b:DSm):DSm:=fun En δ S M=>∀a,a∉ad M->b { nx:=(fun δ' S' M'=>if f=true then (∃M1 m,M'=M1++[(a,.k m)]/\δ'[i]?=some (some (.o (.ref a)))/\En.nx (δ'.map (Option.map (hX a m))) S' M1)else (∃M1 D,M'=M1++[(a,D)]/\En.nx δ' S' M1)),rt:=(fun x S' M'=>∃M1 D,M'=M1++[(a,D)]/\En.rt x S' M1),bk:=(fun δ' S' M'=>∃M1 D,M'=M1++[(a,D)]/\En.bk δ' S' M1),ct:=(fun δ' S' M'=>∃M1 D,M'=M1++[(a,D)]/\En.ct δ' S' M1) } (δ.set i (some (.o (.ref a)))) S (M++[(a,D0)])
section
variable {E:XK}{EX:EXD}{tb:TS}{db:DSm}{i:Nat}
theorem Ai{f:Bool}{p:Addr}{u:MO}{D0:DD}(hD:∀(G H:Hp),H p=some u.ho->DAt G H p D0)(hb:RSm E EX tb db){h o0:List Addr}{H0:Hp}{o:List Addr}{H:Hp}{δ:XE}{σ:St}{S:Sto}{M:DM}{En:DEndsM}{D:Ends}(e0:Ex o0 H0 o H)(fr:Fr H0 M)(he:RepE (h++ad M) o H δ σ)(hs:RepS (h++ad M) o H S)(rm:RepM h o H M)
  (q:e9 f i D0 db En δ S M) (c:EOkM h o0 H0 (ad M) En D) (x:CnX h o0 H0 EX E) (hp:H p=none):(if f=true then rT i tb else tb) D (σ.set i (some (.ref p))) (upd H p u.ho):=by
 have nM:p∉ad M:=fun m=>by
  obtain⟨D2,_,z⟩:=rm.at m;obtain⟨w,ew⟩:=z.mo;rw[hp]at ew;cases ew
 have f1:=hs.fresh hp;have nh:p∉h:=fun m=>f1.1 (ba _ m);have sH:Same H (upd H p u.ho):=Same.laid hp;have e1:Ex o0 H0 o (upd H p u.ho):=e0.trans (Ex.of_same sH);have H0p:H0 p=none:=by
  cases z:H0 p with
  |none=>rfl
  |some w=>
   by_cases m:p∈o0
   ·obtain⟨r,er⟩:=e0.pre;exact absurd (show p∈o by rw[er];exact ba _ m) f1.2
   ·have:=(e0.kp p w m z).2;rw[hp]at this;cases this
 have sv:Same (vx (h++ad M) o H) (vx (h++(ad M++[p])) o (upd H p u.ho)):=fun b w z=>by
  obtain⟨z1,z2,z3⟩:=zr.mp z;have ne:b≠p:=zx z3 hp;refine zr.mpr ⟨fun m=>?_,z2,by rw[zp ne];exact z3⟩;rw[<- cu]at m;rcases mem_append.mp m with m|m
  ·exact z1 m
  ·exact ne (mem_singleton.mp m)
 have sM:RepS (h++ad (M++[(p,D0)])) o (upd H p u.ho) S:=by
  rw[zu];refine⟨hs.len,hs.nd,fun a ma z=>?_,fun b mb=>?_,fun k b ds e1 e2=>?_⟩
  ·rw[<- cu]at z;rcases mem_append.mp z with z|z
   ·exact hs.dis a ma z
   ·rw[mem_singleton.mp z]at ma;exact f1.2 ma
  ·rw[<- cu]at mb;rcases mem_append.mp mb with m|m
   ·obtain⟨w,ew⟩:=hs.hal b m;exact⟨w,sH _ _ ew⟩
   ·rw[mem_singleton.mp m];exact⟨u,zH⟩
  ·obtain⟨vs,e3,l⟩:=hs.cont k b ds e1 e2;exact⟨vs,sH _ _ e3,HasL.mono sv _ _ l⟩
 have mM:RepM h o (upd H p u.ho) (M++[(p,D0)]):=by
  refine⟨by rw[zu];exact hZ rm.nd nM,fun a ma=>?_,fun a D2 m=>?_⟩
  ·rw[zu]at ma;rcases mem_append.mp ma with m|m
   ·exact rm.nh a m
   ·rw[mem_singleton.mp m];exact⟨nh,f1.2⟩
  ·rw[zu];rcases mem_append.mp m with m|m
   ·exact(rm.ct a D2 m).mono sv fun w z=>sH _ _ z
   ·have:=mem_singleton.mp m;cases this;exact hD _ _ zH
 have hE:RepE (h++ad (M++[(p,D0)])) o (upd H p u.ho) (δ.set i (some (.o (.ref p)))) (σ.set i (some (.ref p))):=by
  rw[zu];exact(he.to sv).set (show HasX _ _ _ (.o (.ref p)) (.ref p)from rfl)
 have af:Fr H0 (M++[(p,D0)]):=fun a ma=>by
  rw[zu]at ma;rcases mem_append.mp ma with m|m
  ·exact fr a m
  ·rw[mem_singleton.mp m];exact H0p
 have ac:∀{N:XE->Sto->DM->Prop}{Y:St->Hp->Prop},NxM h o0 H0 (ad M) N Y->NxM h o0 H0 (ad (M++[(p,D0)])) (fun δ' S' M'=>∃M1 D,M'=M1++[(p,D)]/\N δ' S' M1) Y:=fun {N Y} nx o' H' δ' S' M' σ' ex ea ae aa ab ⟨M1,D2,eM,n⟩=>by
  subst eM;rw[zu,zu]at ea;rw[zu,<- cu]at ae aa;exact nx o' H' _ S' M1 σ' ex (append_inj_left' ea rfl) (ae.to gU) aa.less ab.init n
 have ag:∀o' H' S' M' y v,Ex o0 H0 o' H'->ad M'=ad (M++[(p,D0)])->RepS (h++ad M') o' H' S'->RepM h o' H' M'->HasX (h++ad M') o' H' y v->(∃M1 D,M'=M1++[(p,D)]/\En.rt y S' M1)->D.rt v H':=by
  rintro o' H' S' M' y v ex ea aa ab ah ⟨M1,D2,eM,n⟩;subst eM;rw[zu,zu]at ea;rw[zu,<- cu]at ah aa;exact c.rt o' H' S' M1 _ v ex (append_inj_left' ea rfl) aa.less ab.init ah.less n
 have qq:=q p nM;cases f with
 |false=>
  refine hb h o0 H0 o _ _ _ S (M++[(p,D0)]) _ D e1 af hE sM mM qq ⟨?_,ag,ac c.bk,ac c.ct⟩ x;exact fun o' H' δ' S' M' σ' ex ea ae aa ab n=>ac c.nx o' H' δ' S' M' σ' ex ea ae aa ab (by simpa using n)
 |true=>
  refine hb h o0 H0 o _ _ _ S (M++[(p,D0)]) _ { D with nx:=fun σ' H'=>∃a m,σ'[i]?=some (some (.ref a))/\H' a=some (.dK m)/\∀ob,D.nx σ' (upd H' a (.frz ob (.dK m))) } e1 af hE sM mM qq ⟨?_,ag,ac c.bk,ac c.ct⟩ x;intro o' H' δ' S' M' σ' ex ea ae aa ab n;obtain⟨M1,m,eM,ei,n2⟩:∃M1 m,M'=M1++[(p,DD.k m)]/\δ'[i]?=some (some (.o (.ref p)))/\En.nx (δ'.map (Option.map (hX p m))) S' M1:=by simpa using n
  subst eM;obtain⟨v,ev,hv⟩:=ae.get i _ ei;have ai:v=.ref p:=hv;subst ai;have nn:=ab.nh p (by rw[zu];simp);have nd:=ab.nd;rw[zu,zu]at ea;rw[zu]at nd;have pn:p∉ad M1:=fun m=>(nodup_append.mp nd).2.2 p m p yv rfl;obtain⟨m',em,l⟩:=ab.ct p (.k m) yv;refine⟨p,m',ev,em,fun ob=>?_⟩;have np:p∉h++ad M1:=fun z=>(mem_append.mp z).elim nn.1 pn;have s2:Same (vx (h++ad (M1++[(p,DD.k m)])) o' H') (vx (h++ad M1) o' (upd H' p (.frz ob (.dK m')))):=fun b w z=>by
   obtain⟨z1,z2,z3⟩:=zr.mp z;rw[zu,<- cu]at z1;have ne:b≠p:=fun z=>z1 (by rw[z];simp);exact zr.mpr ⟨fun mm=>z1 (ba _ mm),z2,by rw[zp ne];exact z3⟩
  refine c.nx o' _ _ S' M1 σ' ⟨ex.pre,fun b w nb zb=>?_⟩ (append_inj_left' ea rfl) (EU s2 (zr.mpr ⟨np,nn.2,zH⟩) l ae) ?_ ?_ n2
  ·obtain⟨z1,z3⟩:=ex.kp b w nb zb;exact⟨z1,by rw[zp (fun z=>by rw[z,H0p]at zb;cases zb)];exact z3⟩
  ·refine⟨aa.len,aa.nd,fun a ma z=>aa.dis a ma (by rw[zu,<- cu];exact ba _ z),fun b mb=>?_,fun k b ds q1 q2=>?_⟩
   ·obtain⟨w,ew⟩:=aa.hal b (by rw[zu,<- cu];exact ba _ mb);exact⟨w,by rw[zp (fun z=>np (by rw[<- z];exact mb))];exact ew⟩
   ·obtain⟨vs,q3,l3⟩:=aa.cont k b ds q1 q2;exact⟨vs,by rw[zp (fun z=>nn.2 (by rw[<- z];exact cf q1))];exact q3,HasL.mono s2 _ _ l3⟩
  ·have r1:=ab.init;refine⟨r1.nd,r1.nh,fun b D3 mb=>?_⟩;have nb:b≠p:=fun z=>pn (by rw[<- z];exact mem_map.mpr ⟨_,mb,rfl⟩);exact(ab.ct b D3 (ba _ mb)).mono s2 fun w z=>by rw[zp nb];exact z
theorem Bf(hb:RSm E EX tb db):RSm E EX (bN (iB pY (fM i)) (rT i tb)) (e9 true i (.k []) db):=fun h o0 H0 o H δ σ S M En D e0 fr he hs rm q c x p hp=>
 Ai (f:=true) (D0:=.k []) (u:=.k []) (fun G H z=>⟨[],z,rfl⟩) hb e0 fr he hs rm q c x hp
def fD(dt:DSm):DS:=fun En δ S=>dt { nx:=fun δ' S' _=>En.nx δ' S',rt:=fun x S' _=>En.rt x S',bk:=fun δ' S' _=>En.bk δ' S',ct:=fun δ' S' _=>En.ct δ' S' } δ S []
theorem FI{t:TS}{dt:DSm}(ht:RSm E EX t dt):RSx E EX t (fD dt):=fun h o H δ σ S En D he hs q c x=>by
 have z:h++ad []=h:=fy _;have nx:∀{N:XE->Sto->Prop}{Y:St->Hp->Prop},Nx h o H N Y->NxM h o H (ad []) (fun δ' S' _=>N δ' S') Y:=fun {N Y} n o' H' δ' S' M' σ' ex ea ab p _ q'=>by
  rw[ea,z]at ab p;exact n o' H' δ' S' σ' ex ab p q'
 refine ht h o H o H δ σ S [] _ D Ex.refl (fun a m=>by cases m) (by rw[z];exact he) (by rw[z];exact hs) RepM.nil q ⟨nx c.nx,?_,nx c.bk,nx c.ct⟩ x;rintro o' H' S' M' y v ex ea p _ aa q';rw[ea,z]at p aa;exact c.rt o' H' S' y v ex p aa q'
theorem F8{t:TS}{dt:DSm}(ht:RSm E0 (fun _ _=>False) t dt):RS t (fD dt):=fun h o H δ σ S En D he hs q c=>FI ht h o H δ σ S En D he hs q c fun _ _ _ _ _ _ _ _ _ z=>z.elim
end
end
section
def ROp(Φ:Phi)(r:R2)(rd:D2):Prop:=∀(h o:List Addr) (H:Hp) (S:Sto) (x y:XV) (v u:V) (R:RX) (Q:VK),Φ h o H->RepS h o H S->HasX h o H x v->HasX h o H y u->rd x y S R->Cn h o H R Q->r v u H Q
section
variable {Φ:Phi} [Stb Φ] {ta tb:TE}{da db:DE}
theorem xO{r:R2}{rd:D2}(hr:ROp Φ r rd)(ha:REp Φ ta da)(hb:REp Φ tb db):REp Φ (tOp r ta tb) (dOp rd da db):=fun h o H δ σ S R Q he hs q c w=>
 ha h o H δ σ S _ _ he hs q (fun o1 H1 S1 x v e1 s1 x1 d1=>hb h o1 H1 δ σ S1 _ _ (he.mono e1) s1 d1 (fun o2 H2 S2 y u e2 s2 y2 d2=>
  hr h o2 H2 S2 x y v u R Q (Stb.st w (e1.trans e2)) s2 (x1.mono e2) y2 d2 (c.pre (e1.trans e2))) (Stb.st w e1)) w
end
def IsDD(M:DM)(x:XV)(D:DD):Prop:=(∃a,x=.o (.ref a)/\(a,D)∈M)\/∃m,D=.k m/\x=.d (.dict (DD.pairs (.k m)))
theorem yR{M:DM}{h o:List Addr}{H:Hp}{x:XV}{D:DD}{v:V}(φ:PhM M h o H)(q:IsDD M x D)(hx:HasX h o H x v):∃a,v=.ref a/\RAt (vx h o H) H a D:=by
 rcases q with ⟨a,rfl,m⟩|⟨m,rfl,rfl⟩
 ·obtain⟨h0,rfl,rm⟩:=φ;exact⟨a,hx,(rm.ct a D m).rd⟩
 ·obtain⟨a,ob,m',rfl,e,l⟩:=rE.mp (show Has _ _ v from hx);exact⟨a,rfl,m',.inr ⟨ob,zA _ _ e⟩,l⟩
def rC(n:Bool):R2:=fun y x H Q=>∃a o,x=.ref a/\DGet H a y o/\Q (.bl (if n=true then !o.isSome else o.isSome)) H
theorem FX{X:Cx}(hu:X.A.units+64<jc):OpR X (fj .In) (rC false):=fun zc s σ H y x v u Q I ry rx ⟨a,o,e,g,q⟩=>by
 subst e;obtain rfl:u=cw a:=rx;exact Ef yw I g ry fun s3 I3=>⟨.bl o.isSome,H,I3,rfl,q⟩
theorem Fm{X:Cx}(hu:X.A.units+64<jc):OpR X (fj .NotIn) (rC true):=fun zc s σ H y x v u Q I ry rx ⟨a,o,e,g,q⟩=>by
 subst e;obtain rfl:u=cw a:=rx;exact Dm yw I g ry fun s3 I3=>⟨.bl (!o.isSome),H,I3,rfl,q⟩
def dL(M:DM)(n:Bool):D2:=fun y x S R=>asD y fun k=>∃D o,IsDD M x D/\D.get k=some o/\R (.d (.bool (if n=true then !o.isSome else o.isSome))) S
theorem Dh{G:Hp}{o:Option av}{r:Option V}(q:RelD G o r):r.isSome=o.isSome:=by
 cases o with
 |none=>rw[show r=none from q];rfl
 |some d=>obtain⟨u,rfl,_⟩:=q;rfl
theorem qY{M:DM}{n:Bool}:ROp (PhM M) (rC n) (dL M n):=fun h o H S y x v u R Q φ hs hy hx q c=>by
 obtain⟨k,rfl,D,r,hD,e,q⟩:=eW q;obtain⟨a,rfl,da⟩:=yR φ hD hx;obtain⟨r',g,rr⟩:=da.get zA hy e;refine⟨a,r',rfl,g,?_⟩;rw[Dh rr];exact c o H S _ _ Ex.refl hs (xB _) q
def fJ(M:DM)(dd dy:DE):DE:=fun δ S R=>dd δ S fun x S1=>dy δ S1 fun y S2=>asD y fun k=>∃D d,IsDD M x D/\D.get k=some (some d)/\R (.d d) S2
theorem CZ{M:DM}{td ty:TE}{dd dy:DE}(hd:REp (PhM M) td dd)(hy:REp (PhM M) ty dy):REp (PhM M) (vG td ty) (fJ M dd dy):=fun h o H δ σ S R Q he hs q c w=>
 hd h o H δ σ S _ _ he hs q (fun o1 H1 S1 x v e1 s1 x1 d1=>hy h o1 H1 δ σ S1 _ _ (he.mono e1) s1 d1 (fun o2 H2 S2 y u e2 s2 y2 d2=>by
  obtain⟨k,rfl,D,d,hD,e,q⟩:=eW d2;obtain⟨a,rfl,da⟩:=yR (Stb.st w (e1.trans e2)) hD (x1.mono e2);obtain⟨r',g,r2,rfl,h2⟩:=da.get zA y2 e;exact⟨a,r2,rfl,g,c o2 H2 S2 (.d d) r2 (e1.trans e2) s2 h2 q⟩) (Stb.st w e1)) w
def dQ(j:Nat)(dk dv:DM->DE):DSm:=fun En δ S M=>dv M δ S fun x S1=>asD x fun d=>zj j δ S1 fun y S2=>∃a,y=.o (.ref a)/\dk M δ S2 fun z S3=>asD z fun k=>∃D D',(a,D)∈M/\D.put k d=some D'/\D.len<1000/\En.nx δ S3 (dS M a D')
theorem yU{E:XK}{EX:EXD}{j:Nat}{ty tv:TE}{dk dv:DM->DE}(hk:∀M,REp (PhM M) ty (dk M))(hv:∀M,REp (PhM M) tv (dv M)):RSm E EX (tH (dG j) ty tv) (dQ j dk dv):=fun h o0 H0 o H δ σ S M En D e0 fr he hs rm q c x=>
 hv M (h++ad M) o H δ σ S _ _ he hs q (fun o1 H1 S1 y v e1 s1 x1 d1=>by
  obtain⟨d,rfl,y1,ey,a,rfl,d2⟩:=eW d1;have p:=he.mono e1;obtain⟨v1,ev,ac⟩:=p.get j _ ey;have ae:v1=.ref a:=ac;subst ae;refine⟨_,ev,hk M (h++ad M) o1 H1 δ σ S1 _ _ p s1 d2 (fun o2 H2 S2 z u e2 s2 z2 d3=>?_) ⟨h,rfl,rm.mono e1⟩⟩;obtain⟨k,rfl,D1,D2,mD,eD,hl,n⟩:=eW d3;have aa:=e1.trans e2;have ab:=rm.mono aa;have ma:a∈ad M:=mem_map.mpr ⟨_,mD,rfl⟩;obtain⟨w,pt,fin⟩:=(ab.ct a D1 mD).put zA z2 (x1.mono e2) eD hl;have mh:a∈h++ad M:=bd _ ma;refine⟨a,_,rfl,pt,c.nx o2 _ δ S2 (dS M a D2) σ ⟨(e0.trans aa).pre,fun b w' nb zb=>?_⟩ fR ?_ ?_ (ab.put mD fin) n⟩
  ·obtain⟨z1,z3⟩:=(e0.trans aa).kp b w' nb zb;exact⟨z1,by rw[zp (fun z=>by rw[z,fr a ma]at zb;cases zb)];exact z3⟩
  ·rw[fR];exact(p.mono e2).view (oO mh)
  ·rw[fR];exact s2.hidden mh) ⟨h,rfl,rm⟩
theorem Au{t t':TS}{d:DS}(h:RS t d)(e:t'=t:=by rfl):RS t' d:=e▸h
end
end L2
namespace L2
open PySem PySem.Spec PySem.Calls PyProof.Rows
theorem C8{P:ca}{w:cy}{H:Hp}{h:Heap}{a:Addr}{ob:Obj}{m:List (Key×V)}(ok:HOk P w H h)(e:H a=some (.frz ob (.dK m))):(a==gq)=false/\m.length<=be/\∃es ep vs,ob.data=.dict es ep/\KV m vs/\h.DictAt (zZ P w) a vs ep:=by
 obtain⟨e1,hz,p,vs,kv,o,es,ep,ho,r1,r2,r3⟩:=(show ObjOk P w H h a (.frz ob (.dK m))from ok a _ e);rw[e1]at ho;cases ho;exact⟨p,hz,es,ep,vs,r2,kv,_,es,e1,r1,r2,r3⟩
def DD.itemsD(m:List (Key×av)):List av:=m.map fun p=>.tuple [kD p.1,p.2]
def j7(e:DE):DI:=fun δ S R=>e δ S fun x S1=>∃m,x=.d (.dict (DD.pairs (.k m)))/\R (DD.itemsD m) S1
end L2
namespace L2
open PySem PySem.Spec PyProof.Rows
section
section
variable {E:XK}{EX:EXD}{a b c d e f u:TS}{dt du:DS}{i:Nat}
theorem wF(h:RS (bN a b) dt)(hu:RS u du):RS (bN a (bN b u)) (aA dt du):=Au (aT h hu)
end
end
section
def XV.flat:XV->Bool
 | .d _=>true
 | .o _=>true
 |_=>false
end
end L2
namespace HT
open PySem PyProof.Rows
section
open PySem.SeqAt
open PySem.AutoSeq1 (wpAny_loadPart')
open PySem.MeetsSeq PySem.MeetsSeq2 PySem.MeetsSeq3
theorem xT:∀{vs:List au}{ns:List Int},gg vs ns->∀i,i<vs.length->∃a t,vs[i]?=some (.int a t)/\ns.drop i=a::ns.drop (i+1)
 |_,_,.nil,i,h=>by simp at h
 |_,_,.cons a t h,0,_=>⟨a,t,rfl,rfl⟩
 |_,_,.cons a t h,i+1,hi=>by
  obtain⟨b,u,e1,e2⟩:=xT h i (by simpa using hi);exact⟨b,u,by simpa using e1,by simpa using e2⟩
theorem Ay(ms:List Int):lexLt [] ms=decide (0<ms.length):=by cases ms<;>simp[lexLt]
def RcLtAt(A:ef)(s:ax)(y x:au)(b:Bool):Prop:=
 ∀(prog:ca) (w:cy) (E:au->ax->Prop) (Q:au->ax->Prop),Q (.bool b) s->bh (model prog w) A (richCompare .Lt y x) Q E s
theorem wS{vs:Array au}{ns:List Int}(h:gg vs.toList ns){i:Nat}(hi:i<vs.size):∃a t,vs[i]=.int a t/\ns[i]?=some a:=by
 obtain⟨a,t,e,d⟩:=xT h i (by simpa using hi);have e2:ns[i]?=some a:=by
  have:=congrArg (fun l=>l[0]?) d;simpa using this
 rw[Array.getElem?_toList,Array.getElem?_eq_getElem hi]at e;exact⟨a,t,eo e,e2⟩
theorem vM:∀{vs:List au}{ns ms:List Int},gg vs ns->gg vs ms->ns=ms
 |_,_,_,.nil,.nil=>rfl
 |_,_,_,.cons a t h,.cons _ _ h'=>by rw[vM h h']
end
end HT
namespace L2
open PySem PyProof.Rows
section
variable {prog:ca}{w:cy}{A:ef}{E:au->ax->Prop}{s:ax}{kd:SortKind}{D:Keyed->Prop}{lt:Keyed->Keyed->Bool}
def flt(lt:Keyed->Keyed->Bool):Keyed->Keyed->Bool:=fun x y=>lt y x
def G(xs:Array Keyed)(i:Nat):Keyed:=(xs[i]?).getD (.none,.none)
end
end L2
namespace L2
open PySem PySem.Spec PySem.Calls PyProof.Rows PySem.W
def l0:List XV->Sto->RX->Prop:=fun xs S R=>arg1 xs fun x=>∃m:List (Key×av),x=.d (.dict (DD.pairs (.k m)))/\∃ns:List Int,m.map (·.1)=ns.map Sum.inl/\ns.length<=10000000/\∀ms:List Int,ms.Perm ns->ms.Pairwise (· <= ·)->R (.d (.list (ms.map bq))) S
def lB:List XV->Sto->RX->Prop:=fun xs S R=>arg1 xs fun x=>∃ds,cV S x=some ds/\∃nss:List (List Int),ds=nss.map v7/\nss.length<=10000000/\(∀ns∈nss,ns≠[])/\∀mss:List (List Int),mss.Perm nss->mss.Pairwise (fun x y=>HT.lexLt y x=false)->R (.d (.list (mss.map v7))) S
end L2
namespace L2
open PySem PySem.Spec PySem.Calls PyProof.Rows
def j3(j:Nat)(dk dv:DM->DE):DSm:=fun En δ S M=>zj j δ S fun y S1=>∃a m,y=.o (.ref a)/\(a,DD.k m)∈M/\dk M δ S1 fun z S2=>dv M δ S2 fun x S3=>asD z fun k=>asD x fun d=>∃kk,dF k=some kk/\m.length<1000/\if (lkA m kk).isSome=true then En.nx δ S3 M else En.nx δ S3 (dS M a (.k (ptA m kk d)))
def jW(k:Int)(e:DE):DE:=fun δ S R=>e δ S fun x S1=>asD x fun d=>R (.d (.dict [(.int k,d)])) S1
end L2
namespace L2
theorem len0{α:Type}{l:List α}(h:l.length=0):l=[]:=dq h
theorem len1{α:Type}{l:List α}(h:l.length=1):∃a0,l=[a0]:=by
 cases l with
 |nil=>cases h
 |cons x r=>
  obtain rfl:=len0 (Nat.succ.inj h);exact⟨x,rfl⟩
theorem len2{α:Type}{l:List α}(h:l.length=2):∃a0 a1,l=[a0,a1]:=by
 cases l with
 |nil=>cases h
 |cons x r=>
  obtain⟨a1,rfl⟩:=len1 (Nat.succ.inj h);exact⟨x,a1,rfl⟩
theorem len3{α:Type}{l:List α}(h:l.length=3):∃a0 a1 a2,l=[a0,a1,a2]:=by
 cases l with
 |nil=>cases h
 |cons x r=>
  obtain⟨a1,a2,rfl⟩:=len2 (Nat.succ.inj h);exact⟨x,a1,a2,rfl⟩
theorem len4{α:Type}{l:List α}(h:l.length=4):∃a0 a1 a2 a3,l=[a0,a1,a2,a3]:=by
 cases l with
 |nil=>cases h
 |cons x r=>
  obtain⟨a1,a2,a3,rfl⟩:=len3 (Nat.succ.inj h);exact⟨x,a1,a2,a3,rfl⟩
end L2
namespace L2
open PySem PySem.Spec PyProof.Rows
section
def jK:List XV->Sto->RX->Prop:=fun xs S R=>arg1 xs fun x=>∃ns:List Int,x=.d (.tuple (ns.map bq))/\ns.length<=10000000/\∀ms:List Int,ms.Perm ns->ms.Pairwise (· <= ·)->R (.d (.list (ms.map bq))) S
end
end L2
namespace L2
open PySem PySem.Spec PySem.Calls PyProof.Rows
open Sem (wp)
def lM(a:DA):DE:=fun δ S R=>a δ S fun xs S1=>arg2 xs fun x y=>∃ds,bG x=some ds/\∃es,bG y=some es/\min ds.length es.length<=1000/\R (.d (.list (o9 ds es))) S1
end L2
namespace HT
open PySem PyProof.Rows
section
open PySem.SeqAt
open PySem.AutoSeq1 (wpAny_loadPart')
open PySem.MeetsSeq PySem.MeetsSeq2 PySem.MeetsSeq3
theorem Du{A:ef}{s:ax}{x y:Addr}{q p:Array au}{ns ms:List Int}(hx:IsTup s.heap x q)(hy:IsTup s.heap y p)(hi:gg q.toList ns)(hj:gg p.toList ms)(hu:A.units<jc):
  EqAt A s (.ref x) (.ref y) (decide (ns=ms)):=by
 have z1:q.size=ns.length:=by rw[<- hi.length];simp
 have z2:p.size=ms.length:=by rw[<- hj.length];simp
 by_cases hne:x=y
 ·subst hne;obtain⟨o1,b1,c1,n1,d1⟩:=id hx;obtain⟨o2,b2,c2,n2,d2⟩:=id hy;rw[b1]at b2;cases b2;rw[d1]at d2;cases d2;rw[fc (vM hi hj)];exact EqAt.same _
 ·have:=EqAt.of_refs hne (RcAt.tuples (A:=A) (e:=fun j=>decide (ns[j]?=ms[j]?)) hx hy hu fun j h1 h2=>by
   obtain⟨a,t,e1,e2⟩:=wS hi h1;obtain⟨c,u,e3,e4⟩:=wS hj h2;rw[e1,e3,e2,e4];have:=EqAt.int_int (A:=A.in1) (s:=s) a t c u;rw[show decide (some a=some c)=(a==c)from by rw[jg];simp];exact this)
  rw[show decide (ns=ms)=((cp (min q.size p.size)).all (fun j=>decide (ns[j]?=ms[j]?))&&q.size==p.size)from ?_]
  ·exact this
  ·rw[jg,fu,all_eq_true];simp only[mem_range,decide_eq_true_eq,beq_iff_eq];constructor
   ·rintro rfl;exact⟨fun j _=>rfl,yw⟩
   ·rintro⟨h,hs⟩;refine List.ext_getElem? fun j=>?_;by_cases hj':j<q.size
    ·exact h j yw
    ·rw[getElem?_eq_none yw,getElem?_eq_none yw]
theorem FS{A:ef}{s:ax}{x y:Addr}{q p:Array au}{ns ms:List Int}(hx:IsTup s.heap x q)(hy:IsTup s.heap y p)(hi:gg q.toList ns)(hj:gg p.toList ms)(hu:A.units<jc):
  RcLtAt A s (.ref x) (.ref y) (lexLt ns ms):=fun prog w E Q hq=>Fc hx hy hi hj hu hq
end
end HT
namespace L2
open PySem PySem.Spec PyProof.Rows
section
section
variable {X:Cx}
theorem wB{α β:Type}{r:α->β->Prop}:∀{a:List α}{b:List β}{i:Nat}{v:α}{w:β},Paired r a b->a[i]?=some v->b[i]?=some w->r v w:=by
 intro a b i v w pq;induction pq generalizing i with
 |nil=>intro h;simp at h
 |cons r0 _ ih=>
  cases i with
  |zero=>
   intro h1 h2;rw[iy]at h1 h2;cases h1;cases h2;exact r0
  |succ i=>
   intro h1 h2;rw[ib]at h1 h2;exact ih h1 h2
end
theorem lo{sc:Scope}{x:Str}(h:sc.names.lookup x=some .local:=by rfl):Loc sc x:=fk h
theorem fsd{N P:List Str}{sc:Scope}(h:rA N P sc=true:=by decide +kernel):FnScope N P sc:=fsc h
theorem Eh{X:Cx}{i:Nat}{x:Str}{e:Expr}{t:TE}{pos pos':Pos}(hN:X.N.Nodup)(hi:X.N[i]?=some x)(hx:Loc X.env.scope x)(he:QE X e t)(hs:swapsWith e (some (.Name x pos')) pos.line X.env=pure false:=by rfl)(hf:X.fn x=true\/X.env.scope.names.lookup x=some .local:=by first|exact .inl rfl|exact .inr rfl|assumption):
  QS X (.Assign [.Name x pos'] e pos) (iB t (fM i)):=QS.mk (zN hN hi hx he.out hs hf)
end
end L2
namespace L2
open PySem PySem.Spec PySem.Calls PyProof.Rows
inductive AllK {α:Type} (F:α->au->Prop):List α->List au->Prop
 |nil:AllK F [] []
 |cons {k v ks vs}:F k v->AllK F ks vs->AllK F (k::ks) (v::vs)
end L2
namespace L2
open PySem PySem.Spec PyProof.Rows
section
def hB(b:Bool):Int:=reduceHash (match b with|true=>1|false=>0)
end
section
def kM(z:Str)(e:DE):DE:=fun δ S R=>e δ S fun x S1=>(∃d,aV S1 x=some d/\cg d=true/\R (.d (.bool (!PyData.eqv d (.tuple [.str z])))) S1)\/(x=.d (.dict [])/\R (.d (.bool true)) S1)
end
section
def fO(H:Hp)(A:List Addr):Hp:=fun b=>if b∈A then none else H b
theorem vP{H:Hp}{A:List Addr}{b:Addr}{u:HO}:fO H A b=some u↔b∉A/\H b=some u:=by
 unfold fO;split
 ·rename_i m;exact⟨fun z=>(by cases z),fun z=>absurd m z.1⟩
 ·rename_i m;exact⟨fun z=>⟨m,z⟩,fun z=>z.2⟩
theorem AV{o:List Addr}{H:Hp}{A:List Addr}:Ex o (fO H A) o H:=⟨⟨[],yv⟩,fun b u nb e=>⟨nb,(vP.mp e).2⟩⟩
abbrev PNm:=List XV->Sto->DM->(av->Sto->DM->Prop)->Prop
def CnM(h o:List Addr)(H:Hp)(A:List Addr)(R:av->Sto->DM->Prop)(Q:VK):Prop:=∀o' H' S' M' d v,Ex o (fO H A) o' H'->ad M'=A->RepS (h++ad M') o' H' S'->RepM h o' H' M'->HasX (h++ad M') o' H' (.d d) v->R d S' M'->Q v H'
def lfM(q:PNm):List V->Hp->VK->Prop:=fun vs H Q=>∃h o S M xs R,RepS (h++ad M) o H S/\RepM h o H M/\HasXs (h++ad M) o H xs vs/\q xs S M R/\CnM h o H (ad M) R Q
def spM(ps:List Str)(q:PNm):Sp:=fun vs H Q _=>vs.length=ps.length/\lfM q vs H Q
def nH(R:av->Sto->DM->Prop):DEndsM:={ nx:=fun _ S M=>R .none S M,rt:=fun x S M=>∃d,x=.d d/\R d S M }
theorem Ck{h o:List Addr}{H:Hp}(r:RepS h o H []):o=[]:=dq (by rw[<- r.len];rfl)
theorem B8{h o:List Addr}{H:Hp}{A:List Addr}{R:av->Sto->DM->Prop}{Q:VK}(c:CnM h o H A R Q):EOkM h o (fO H A) A (nH R) { nx:=fun _ H'=>Q .non H',rt:=Q } :=
 ⟨fun o' H' δ' S' M' σ' e ea he hs rm q=>c o' H' S' M' .none .non e ea hs rm xN q,fun o' H' S' M' x v e ea hs rm hx ⟨d,ed,q⟩=>by
  subst ed;exact c o' H' S' M' d v e ea hs rm hx q,fun _ _ _ _ _ _ _ _ _ _ _ q=>q.elim,fun _ _ _ _ _ _ _ _ _ _ _ q=>q.elim⟩
section
variable {P:ca}{w:cy}{K:bf}{mg:Str->Option au}{base:Heap}{x:Str}{st:Stmt}{N ps:List Str}{k:Nat}
theorem Df.dM{q:PNm}(D:Dd K mg x st ps)(S:FnScope N ps (zf st))(n:Nat)(hn:N.length=ps.length+n)
  (hbody:∀(f:Addr) (p:au) (A:ef) (outer:List Env) (s:ax) (H:Hp) (E:XK),Room k (A.deeper (ku x (zf st) s.heap.objs.size f p)) ->
   ∃t dt,PSs (cT CX0 P w K mg base N x (zf st) f p A outer s H E).nox (bX st) t/\RSm E0 (fun _ _=>False) t dt/\∀xs S M R,q xs S M R->dt (nH R) (xs.map some++az n Option.none) S M):Df P w K mg base x ps (k+1) (spM ps q):=by
 refine Df.of D S (fun vs H Q E h=>h.1) fun f p A outer s H vs Q E hr ⟨hl,h,o,S',M,xs,R,y,rm,hx,hq,c⟩=>?_;obtain⟨t,dt,h1,h2,h3⟩:=hbody f p A outer s H E hr;refine⟨t,h1,h2 h o (fO H (ad M)) o H _ _ S' M _ _ AV (fun a m=>?_) ?_ y rm (h3 xs S' M R hq) (B8 c) fun _ _ _ _ _ _ _ _ _ z=>z.elim⟩
 ·unfold fO;rw[cb m]
 ·have e:N.length-vs.length=n:=yw
  unfold start;rw[e];exact sJ hx
end
section
variable {h o o':List Addr}{H H':Hp}{M M':DM}{S:Sto}
theorem nK{A:List Addr}:Same (vx (h++A) o H) (vx (h++o++A) [] H)/\Same (vx (h++o++A) [] H) (vx (h++A) o H):=by
 refine⟨fun b u e=>?_,fun b u e=>?_⟩
 ·obtain⟨z1,z2,z3⟩:=zr.mp e;refine zr.mpr ⟨fun z=>?_,fun z=>(by cases z),z3⟩;rcases mem_append.mp z with z|z
  ·rcases mem_append.mp z with z|z
   ·exact z1 (ba _ z)
   ·exact z2 z
  ·exact z1 (bd _ z)
 ·obtain⟨z1,_,z3⟩:=zr.mp e;refine zr.mpr ⟨fun z=>?_,fun z=>z1 (ba _ (bd _ z)),z3⟩;rcases mem_append.mp z with z|z
  ·exact z1 (ba _ (ba _ z))
  ·exact z1 (bd _ z)
def gF:XV->Bool
 | .d _=>true
 | .o _=>true
 |_=>false
theorem kZ{h':List Addr}(s:Same (vx h o H) (vx h' o' H')):∀{x:XV}{v:V},gF x=true->HasX h o H x v->HasX h' o' H' x v
 | .d d,v,_,q=>Has.mono s d v q
 | .o w,v,_,q=>q
theorem yQ{h':List Addr}(s:Same (vx h o H) (vx h' o' H')):∀{xs:List XV}{vs:List V},xs.all gF=true->HasXs h o H xs vs->HasXs h' o' H' xs vs
 | [],_,_,q=>q
 |x::xs,vs,n,⟨v,r,e,q,l⟩=>by
  rw[all_cons,fu]at n;exact⟨v,r,e,kZ s n.1 q,yQ s n.2 l⟩
theorem BM{A:List Addr}{b:Addr}(m:b∈h++o++A):b∈(h++A)++o:=by
 rcases mem_append.mp m with z|z
 ·rcases mem_append.mp z with z|z
  ·exact ba _ (ba _ z)
  ·exact bd _ z
 ·exact ba _ (bd _ z)
theorem uU{q:PNm}{xs:List XV}{vs:List V}{o0:List Addr}{H0:Hp}{δ:XE}{σ:St}{R:av->DM->Prop}{Q:VK}(e0:Ex o0 H0 o H)(fr:Fr H0 M)(he:RepE (h++ad M) o H δ σ)(hs:RepS (h++ad M) o H S)(rm:RepM h o H M)
  (hn:xs.all gF=true) (hx:HasXs (h++ad M) o H xs vs) (hq:q xs [] M fun d S' M'=>S'=[]/\R d M')
  (c:∀H' M' d v,Ex o0 H0 o H'->ad M'=ad M->RepE (h++ad M') o H' δ σ->RepS (h++ad M') o H' S->RepM h o H' M'->HasX (h++ad M') o H' (.d d) v->R d M'->Q v H'):lfM q vs H Q:=by
 have r0:=rep0 hs;refine⟨h++o,[],[],M,xs,_,⟨rfl,gn,fun a m=>(by cases m),fun b mb=>r0.hal b (BM mb),fun k a ds e=>(by cases e)⟩,⟨rm.nd,fun a m=>⟨fun z=>?_,fun z=>(by cases z)⟩,fun a D m=>(rm.ct a D m).mono nK.1 fun u z=>z⟩,yQ nK.1 hn hx,hq,fun o' H' S' M' d v e ea y p aa ⟨z,qq⟩=>?_⟩
 ·rcases mem_append.mp z with z|z
  ·exact(rm.nh a m).1 z
  ·exact(rm.nh a m).2 z
 ·subst z;have z:=Ck y;subst z;have kp:∀b u,b∉ad M->H b=some u->H' b=some u:=fun b u nb z=>(e.kp b u (fun w=>(by cases w)) (vP.mpr ⟨nb,z⟩)).2;have sm:Same (vx (h++ad M) o H) (vx (h++ad M) o H'):=fun b u z=>by
   obtain⟨z1,z2,z3⟩:=zr.mp z;exact zr.mpr ⟨z1,z2,kp b u (fun w=>z1 (bd _ w)) z3⟩
  refine c H' M' d v ⟨e0.pre,fun b u nb z=>?_⟩ ea ?_ ?_ ?_ ?_ qq
  ·obtain⟨w1,w2⟩:=e0.kp b u nb z;exact⟨w1,kp b u (fun m=>by have:=fr b m;rw[this]at z;cases z) w2⟩
  ·rw[ea];exact he.view sm
  ·rw[ea]at y ⊢;refine⟨hs.len,hs.nd,hs.dis,fun b mb=>y.hal b ?_,fun k a ds e1 e2=>?_⟩
   ·rcases mem_append.mp mb with z|z
    ·exact ba _ (ba _ z)
    ·exact bd _ z
   ·obtain⟨ws,e3,l⟩:=hs.cont k a ds e1 e2;exact⟨ws,kp a _ (fun m=>(rm.nh a m).2 (cf e1)) e3,HasL.mono sm _ _ l⟩
  ·refine⟨p.nd,fun a m=>⟨fun z=>(p.nh a m).1 (ba _ z),fun z=>(p.nh a m).1 (bd _ z)⟩,fun a D m=>(p.ct a D m).mono nK.2 fun u z=>z⟩
  ·exact kZ nK.2 rfl aa
end
abbrev DTm:=XE->Sto->DM->(Bool->Sto->DM->Prop)->Prop
def RTm(t:TT)(dt:DTm):Prop:=∀(h o0:List Addr) (H0:Hp) (o:List Addr) (H:Hp) (δ:XE) (σ:St) (S:Sto) (M:DM) (R:Bool->Sto->DM->Prop) (Q:Bool->Hp->Prop),Ex o0 H0 o H->Fr H0 M->RepE (h++ad M) o H δ σ->RepS (h++ad M) o H S->RepM h o H M->dt δ S M R ->
 (∀o' H' S' M' b,Ex o0 H0 o' H'->ad M'=ad M->RepE (h++ad M') o' H' δ σ->RepS (h++ad M') o' H' S'->RepM h o' H' M'->R b S' M'->Q b H')->t σ H Q
def dmT(d:DM->DT):DTm:=fun δ S M R=>d M δ S fun b S'=>R b S' M
def fB(a b:DTm):DTm:=fun δ S M R=>a δ S M fun x S1 M1=>if x=true then R true S1 M1 else b δ S1 M1 R
def fG(c:DTm)(t u:DSm):DSm:=fun En δ S M=>c δ S M fun b S1 M1=>if b=true then t En δ S1 M1 else u En δ S1 M1
def eQ(m:Nat)(q:PNm)(da:DM->DA):DTm:=fun δ S M R=>da M δ S fun xs S1=>xs.length=m/\xs.all gF=true/\q xs [] M fun d S' M'=>S'=[]/\∃b,d=.bool b/\R b S1 M'
section
variable {E:XK}{EX:EXD}{t u:TS}{dt du:DSm}{tc td:TT}{dc dd:DTm}
theorem Cw{d:DM->DT}(hc:∀M,RTp (PhM M) tc (d M)):RTm tc (dmT d):=fun h o0 H0 o H δ σ S M R Q e0 fr he hs rm q c=>
 hc M (h++ad M) o H δ σ S _ _ he hs q (fun o1 H1 S1 b e1 s1 d1=>c o1 H1 S1 M b (e0.trans e1) rfl (he.mono e1) s1 (rm.mono e1) d1) ⟨h,rfl,rm⟩
theorem FP(ha:RTm tc dc)(hb:RTm td dd):RTm (tOr tc td) (fB dc dd):=fun h o0 H0 o H δ σ S M R Q e0 fr he hs rm q c=>
 ha h o0 H0 o H δ σ S M _ _ e0 fr he hs rm q fun o1 H1 S1 M1 b e1 ea z y p d1=>by
  cases b with
  |false=>exact dP (hb h o0 H0 o1 H1 δ σ S1 M1 R Q e1 (by unfold Fr;rw[ea];exact fr) z y p (by simpa using d1) fun o2 H2 S2 M2 b e2 aa=>c o2 H2 S2 M2 b e2 (aa.trans ea))
  |true=>exact dR (c o1 H1 S1 M1 true e1 ea z y p (by simpa using d1))
theorem xW(hc:RTm tc dc)(ht:RSm E EX t dt)(hu:RSm E EX u du):RSm E EX (lD tc t u) (fG dc dt du):=fun h o0 H0 o H δ σ S M En D e0 fr he hs rm q c x=>
 hc h o0 H0 o H δ σ S M _ _ e0 fr he hs rm q fun o1 H1 S1 M1 b e1 ea aa z y d1=>by
  have p:Fr H0 M1:=by unfold Fr;rw[ea];exact fr
  cases b with
  |true=>exact dR (ht h o0 H0 o1 H1 δ σ S1 M1 En D e1 p aa z y (by simpa using d1) (by rw[ea];exact c) x)
  |false=>exact dP (hu h o0 H0 o1 H1 δ σ S1 M1 En D e1 p aa z y (by simpa using d1) (by rw[ea];exact c) x)
theorem Dp{K:bf}{ps:List Str}{q:PNm}{m:Nat}{ta:TA}{da:DM->DA}(ha:∀M,RAp (PhM M) ta (da M))(hm:ps.length=m:=by rfl):
  RTm (fun σ H Q=>fL (spM ps q) [] E0 ta σ H fun x H'=>∃k,TruV K x H' k/\Q k H') (eQ m q da):=fun h o0 H0 o H δ σ S M R Q e0 fr he hs rm w c=>
 ha M (h++ad M) o H δ σ S _ _ he hs w (fun o1 H1 S1 xs vs e1 s1 x1 ⟨hl,hn,d1⟩=>by
  have hv:=x1.len;rw[fy];refine⟨by rw[hv,hl,hm],uU (e0.trans e1) fr (he.mono e1) s1 (rm.mono e1) hn x1 d1 fun H' M' d v e2 ea aa p z y ⟨b,ed,r⟩=>?_⟩;subst ed;have:=d7 y;subst this;exact⟨b,rfl,c o1 H' S1 M' b e2 ea aa p z r⟩) ⟨h,rfl,rm⟩
end
section
variable {X:Cx}{x:Str}{ps:List Str}{k j:Nat}{pos pos':Pos}{e:Expr}{es:List Expr}{t:TA}
theorem vD{q:PNm}(D:Df X.prog X.w X.K X.mg X.base x ps k (spM ps q))(hr:Room j X.A)(hk:k<=j)(ha:PA X (e::es) t)(hg:Gl X x:=by rfl)(p:(x==("__debug__":Str))=false:=by decide)
  (q1:cq (e::es) X.env=(false,eval e X.env)::cq es X.env:=by rfl) (q2:((kr pos (cq es X.env)).any fun x=>x.fst)=false:=by rfl):PE X (.Call (.Name x pos') (e::es) [] pos) (fL (spM ps q) [] E0 t):=by
 obtain⟨f,fd,F,hm,kp,hb⟩:=D.ex;exact oV (dvs:=[]) (ds:=[]) (E:=E0) F (hr.mono hk) hg hm kp hb .nil pass0 ha p q1 q2
end
theorem Df.noneM{P:ca}{w:cy}{K:bf}{mg:Str->Option au}{base:Heap}{x:Str}{st:Stmt}{ps:List Str}{k:Nat}(D:Dd K mg x st ps):Df P w K mg base x ps k (spM ps fun _ _ _ _=>False):=by
 obtain⟨f,fd,F,hm,hb⟩:=D.ex;have no:∀{vs H Q E},spM ps (fun _ _ _ _=>False) vs H Q E->False:=fun {vs H Q E} h=>by
  obtain⟨_,h,o,S,M,xs,R,_,_,_,q,_⟩:=h;exact q
 exact⟨f,fd,⟨fun _ _ _ _ h=>(no h).elim,fun _ _ _ _ _ _ _ _ _ _ _ _ _ h=>(no h).elim⟩,hm,F.kp,hb⟩
theorem EO{p:Addr}{u:MO}{D0:DD}(hD:∀(G H:Hp),H p=some u.ho->DAt G H p D0){h o0:List Addr}{H0:Hp}{o:List Addr}{H:Hp}{δ:XE}{σ:St}{S:Sto}{M:DM}(e0:Ex o0 H0 o H)(fr:Fr H0 M)(he:RepE (h++ad M) o H δ σ)(hs:RepS (h++ad M) o H S)(rm:RepM h o H M)(hp:H p=none):
  p∉ad M/\Ex o0 H0 o (upd H p u.ho)/\Fr H0 (M++[(p,D0)])/\RepE (h++ad (M++[(p,D0)])) o (upd H p u.ho) δ σ/\RepS (h++ad (M++[(p,D0)])) o (upd H p u.ho) S/\RepM h o (upd H p u.ho) (M++[(p,D0)])/\Same (vx (h++ad M) o H) (vx (h++ad (M++[(p,D0)])) o (upd H p u.ho)):=by
 have nM:p∉ad M:=fun m=>by
  obtain⟨D2,_,z⟩:=rm.at m;obtain⟨w,ew⟩:=z.mo;rw[hp]at ew;cases ew
 have f1:=hs.fresh hp;have nh:p∉h:=fun m=>f1.1 (ba _ m);have sH:Same H (upd H p u.ho):=Same.laid hp;have H0p:H0 p=none:=by
  cases z:H0 p with
  |none=>rfl
  |some w=>
   by_cases m:p∈o0
   ·obtain⟨r,er⟩:=e0.pre;exact absurd (show p∈o by rw[er];exact ba _ m) f1.2
   ·have:=(e0.kp p w m z).2;rw[hp]at this;cases this
 have sv:Same (vx (h++ad M) o H) (vx (h++(ad M++[p])) o (upd H p u.ho)):=fun b w z=>by
  obtain⟨z1,z2,z3⟩:=zr.mp z;have ne:b≠p:=zx z3 hp;refine zr.mpr ⟨fun m=>?_,z2,by rw[zp ne];exact z3⟩;rw[<- cu]at m;rcases mem_append.mp m with m|m
  ·exact z1 m
  ·exact ne (mem_singleton.mp m)
 refine⟨nM,e0.trans (Ex.of_same sH),fun a ma=>?_,?_,?_,?_,?_⟩
 ·rw[zu]at ma;rcases mem_append.mp ma with m|m
  ·exact fr a m
  ·rw[mem_singleton.mp m];exact H0p
 ·rw[zu];exact he.to sv
 ·rw[zu];refine⟨hs.len,hs.nd,fun a ma z=>?_,fun b mb=>?_,fun k b ds e1 e2=>?_⟩
  ·rw[<- cu]at z;rcases mem_append.mp z with z|z
   ·exact hs.dis a ma z
   ·rw[mem_singleton.mp z]at ma;exact f1.2 ma
  ·rw[<- cu]at mb;rcases mem_append.mp mb with m|m
   ·obtain⟨w,ew⟩:=hs.hal b m;exact⟨w,sH _ _ ew⟩
   ·rw[mem_singleton.mp m];exact⟨u,zH⟩
  ·obtain⟨vs,e3,l⟩:=hs.cont k b ds e1 e2;exact⟨vs,sH _ _ e3,HasL.mono sv _ _ l⟩
 ·refine⟨by rw[zu];exact hZ rm.nd nM,fun a ma=>?_,fun a D2 m=>?_⟩
  ·rw[zu]at ma;rcases mem_append.mp ma with m|m
   ·exact rm.nh a m
   ·rw[mem_singleton.mp m];exact⟨nh,f1.2⟩
  ·rw[zu];rcases mem_append.mp m with m|m
   ·exact(rm.ct a D2 m).mono sv fun w z=>sH _ _ z
   ·have:=mem_singleton.mp m;cases this;exact hD _ _ zH
 ·rw[zu];exact sv
def fZ(q:PNm)(da db dc:DM->DE):DSm:=fun En δ S M=>da M δ S fun x S1=>db M δ S1 fun y S2=>dc M δ S2 fun z S3=>[x,y,z].all gF=true/\∀p,p∉ad M->q [x,y,z,.o (.ref p)] [] (M++[(p,.k [])]) fun _ S' M'=>S'=[]/\∃M1 D,M'=M1++[(p,D)]/\En.nx δ S3 M1
theorem yV{E:XK}{EX:EXD}{ps:List Str}{q:PNm}{ta tb tc:TE}{da db dc:DM->DE}(ha:∀M,REp (PhM M) ta (da M))(hb:∀M,REp (PhM M) tb (db M))(hc:∀M,REp (PhM M) tc (dc M))(hm:ps.length=4:=by rfl):RSm E EX (pT (fL (spM ps q) [] E0 (bU ta (bU tb (bU tc (bU pY gE)))))) (fZ q da db dc):=fun h o0 H0 o H δ σ S M En D e0 fr he hs rm w c x=>
 ha M (h++ad M) o H δ σ S _ _ he hs w (fun o1 H1 S1 x1 v1 e1 s1 ah d1=>
  hb M (h++ad M) o1 H1 δ σ S1 _ _ (he.mono e1) s1 d1 (fun o2 H2 S2 x2 v2 e2 s2 ai d2=>
   hc M (h++ad M) o2 H2 δ σ S2 _ _ (he.mono (e1.trans e2)) s2 d2 (fun o3 H3 S3 x3 v3 e3 s3 af ⟨hn,d3⟩ p hp=>by
    obtain⟨nM,n1,n2,n3,n4,n5,n6⟩:=EO (u:=.k []) (D0:=.k []) (fun G H z=>⟨[],z,rfl⟩) (e0.trans (e1.trans (e2.trans e3))) fr (he.mono (e1.trans (e2.trans e3))) s3 (rm.mono (e1.trans (e2.trans e3))) hp;simp only[all_cons,List.all_nil,Bool.and_true,fu]at hn;obtain⟨y,ac,ae⟩:=hn;refine⟨by rw[hm];rfl,uU n1 n2 n3 n4 n5 (xs:=[x1,x2,x3,.o (.ref p)]) (by simp only[all_cons,List.all_nil,y,ac,ae];rfl) ?_ (d3 p nM) fun H' M' d v e4 ea ab aa ag aj ⟨M1,D1,eM,r⟩=>?_⟩
    ·exact⟨v1,_,rfl,kZ n6 y (ah.mono (e2.trans e3)),v2,_,rfl,kZ n6 ac (ai.mono e3),v3,_,rfl,kZ n6 ae af,.ref p,[],rfl,rfl,rfl⟩
    ·subst eM;rw[zu,zu]at ea;rw[zu,<- cu]at ab aa;exact c.nx o3 H' δ S3 M1 σ e4 (append_inj_left' ea rfl) (ab.to gU) aa.less ag.init r) ⟨h,rfl,rm.mono (e1.trans e2)⟩) ⟨h,rfl,rm.mono e1⟩) ⟨h,rfl,rm⟩
end
end L2
namespace HT
open PySem PyProof.Rows
section
open PySem.SeqAt
open PySem.AutoSeq1 (wpAny_loadPart')
open PySem.MeetsSeq PySem.MeetsSeq2 PySem.MeetsSeq3
structure PrsAt(h:Heap)(vs:Array au)(ps:List (Int×Int)):Prop where
 sz:vs.size=ps.length
 at_:∀(i:Nat) (p:Int×Int),ps[i]?=some p->∃x t u,vs[i]?=some (cw x)/\IsTup h x #[jv p.1 t,jv p.2 u]
def flat:List (Int×Int)->List Int
 | []=>[]
 |p::ps=>p.1::p.2::flat ps
theorem EF{ps:List (Int×Int)}:(0<(flat ps).length)↔0<ps.length:=by cases ps<;>simp[flat]
theorem wL{h:Heap}{vs:Array au}{ps:List (Int×Int)}(q:PrsAt h vs ps){i:Nat}(hi:i<vs.size):∃(p:Int×Int) (x:Addr) (t u:Tok),vs[i]?=some (cw x)/\IsTup h x #[jv p.1 t,jv p.2 u]/\ps.drop i=p::ps.drop (i+1):=by
 have hl:i<ps.length:=by rw[<- q.sz];exact hi
 obtain⟨x,t,u,e1,e2⟩:=q.at_ i ps[i] (bg hl);exact⟨ps[i],x,t,u,e1,e2,gj hl⟩
theorem ints2{a c:Int}{t u:Tok}:gg (#[jv a t,.int c u]:Array au).toList [a,c]:=.cons a t (.cons c u .nil)
theorem Di(l b:Addr)(q p:Array au)(n n2:Nat)(dd ae:Option Addr)(sl ac:Array (Option au))(ps qs:List (Int×Int))(k:Nat):
  ∀i:Nat,q.size-i=k->i<=q.size->i<=p.size->Meets (Builtin.«list.__eq__.loop» ⟨[.ref l,.ref b,rawInt i,rawInt 0],[]⟩)
   (fun A R s=>s.heap.get? l=some { cls:=.type "list",dict:=dd,data:=.seq q n,slots:=sl }/\s.heap.get? b=some { cls:=.type "list",dict:=ae,data:=.seq p n2,slots:=ac } /\
    PrsAt s.heap q ps/\PrsAt s.heap p qs/\A.units+1<jc/\R (.ok (.ret (.bool (lexLt (flat (ps.drop i)) (flat (qs.drop i)))))) s):=by
 induction k with
 |zero=>
  intro i hk i1 i2 prog w A R s h;obtain⟨hp,g,d,tk,os⟩:=s;obtain⟨hl,hb,hi,hj,hu,h⟩:=h;have z1:=hi.sz;have z2:=hj.sz
  wp_walk using wpAny_loadPart' hl,wpAny_loadPart' hb
  have ab:q[((i:Nat):Int).toNat]?=none:=by simp;omega
  have hd:ps.drop i=[]:=by simp;omega
  rw[hd,show flat []=[]from rfl,Ay]at h;have fin:R (.ok (.ret (.bool (decide (q.size<p.size))))) ⟨hp,g,d,tk,os⟩:=by
   rw[show decide (q.size<p.size)=decide (0<(flat (qs.drop i)).length)from by rw[jg];simp only[decide_eq_true_eq,EF,length_drop];omega];exact h
  rw[ab];cases aa:p[((i:Nat):Int).toNat]? with
  |none=>
   wp_walk using wpAny_loadPart' hl,wpAny_loadPart' hb
   exact fin
  |some v=>
   wp_walk using wpAny_loadPart' hl,wpAny_loadPart' hb
   exact fin
 |succ k ih=>
  intro i hk i1 i2 prog w A R s h;obtain⟨hp,g,d,tk,os⟩:=s;obtain⟨hl,hb,hi,hj,hu,h⟩:=h;have z1:=hi.sz;have z2:=hj.sz
  wp_walk using wpAny_loadPart' hl,wpAny_loadPart' hb
  have af:i<q.size:=yw
  obtain⟨⟨a,c⟩,x,t,u,ea,ta,da⟩:=wL hi af;have ab:q[((i:Nat):Int).toNat]?=some (.ref x):=by simpa using ea
  have hc:((i:Int)+1)=((i+1:Nat):Int):=by push_cast;rfl
  rw[ab];by_cases hlt2:i<p.size
  ·obtain⟨⟨a',c'⟩,y,t',u',ec,tc,dc⟩:=wL hj hlt2;have aa:p[((i:Nat):Int).toNat]?=some (.ref y):=by simpa using ec
   rw[aa];rw[da,dc]at h;have he:=Du (A:=A.in1) ta tc ints2 ints2 (by show A.units+1<jc;exact hu);have hr:=FS (A:=A.in1) ta tc ints2 ints2 (by show A.units+1<jc;exact hu);refine aw (he prog w _ _ ?_);by_cases e:[a,c]=[a',c']
   ·rw[fc e];have e1:a=a':=(List.cons.inj e).1;have e2:c=c':=(List.cons.inj (List.cons.inj e).2).1;subst e1 e2;have h':R (.ok (.ret (.bool (lexLt (flat (ps.drop (i+1))) (flat (qs.drop (i+1))))))) ⟨hp,g,d,tk,os⟩:=by
     rw[show flat ((a,c)::ps.drop (i+1))=a::c::flat (ps.drop (i+1))from rfl,show flat ((a,c)::qs.drop (i+1))=a::c::flat (qs.drop (i+1))from rfl,lexLt_cons,cb rfl,lexLt_cons,cb rfl]at h;exact h
    wp_walk
    rw[hc];exact⟨kc plain_eq_loop _,ki entry_eq_loop (by
     rw[ij plain_eq_loop _];exact ih (i+1) yw yw yw prog w A R _ ⟨hl,hb,hi,hj,hu,h'⟩)⟩
   ·rw[ci e];have h':R (.ok (.ret (.bool (lexLt [a,c] [a',c'])))) ⟨hp,g,d,tk,os⟩:=by
     rw[show lexLt [a,c] [a',c']=lexLt (flat ((a,c)::ps.drop (i+1))) (flat ((a',c')::qs.drop (i+1)))from ?_]
     ·exact h
     ·show _=lexLt (a::c::flat (ps.drop (i+1))) (a'::c'::flat (qs.drop (i+1)));rw[lexLt_cons,lexLt_cons,lexLt_cons,lexLt_cons];by_cases e1:a=a'
      ·rw[cb e1,cb e1];have e2:c≠c':=fun z=>e (by rw[e1,z]);rw[bu e2,bu e2]
      ·rw[bu e1,bu e1]
    have ag:=hr prog w
    wp_walk using wpAny_loadPart' hl,wpAny_loadPart' hb
    rw[ab,aa]
    wp_walk using ag
    simpa using h'
  ·have aa:p[((i:Nat):Int).toNat]?=none:=by simp;omega
   have hd:qs.drop i=[]:=by simp;omega
   rw[da,hd,show flat ((a,c)::ps.drop (i+1))=a::c::flat (ps.drop (i+1))from rfl,show flat []=[]from rfl,t8]at h;rw[aa]
   wp_walk using wpAny_loadPart' hl,wpAny_loadPart' hb
   show R (.ok (.ret (.bool (decide (q.size<p.size))))) _;rw[ci yw];exact h
theorem Eb(l b:Addr)(q p:Array au)(n n2:Nat)(dd z:Option Addr)(sl y:Array (Option au))(ps qs:List (Int×Int)):
  Meets (Builtin.«list.__lt__» ⟨[.ref l,.ref b],[]⟩)
   (fun A R s=>s.heap.get? l=some { cls:=.type "list",dict:=dd,data:=.seq q n,slots:=sl }/\s.heap.get? b=some { cls:=.type "list",dict:=z,data:=.seq p n2,slots:=y } /\
    PrsAt s.heap q ps/\PrsAt s.heap p qs/\A.units+1<jc/\R (.ok (.ret (.bool (lexLt (flat ps) (flat qs))))) s):=by
 intro prog w A R s h;obtain⟨hp,g,d,tk,os⟩:=s;obtain⟨hl,hb,hi,hj,hu,h⟩:=h;have f3:=AutoSeq1.sub_list_list
 wp_walk using wpAny_loadPart' hl,wpAny_loadPart' hb
 exact⟨kc plain_eq_loop _,ki entry_eq_loop (by
  rw[ij plain_eq_loop _];exact Di l b q p n n2 dd z sl y ps qs _ 0 rfl (kh _) (kh _) prog w A R _ ⟨hl,hb,hi,hj,hu,h⟩)⟩
theorem rcLt_prs{A:ef}{s:ax}{x y:Addr}{q p:Array au}{ps qs:List (Int×Int)}(hx:PlainL s.heap x q)(hy:PlainL s.heap y p)(hi:PrsAt s.heap q ps)(hj:PrsAt s.heap p qs)(hu:A.units+2<jc):
  RcLtAt A s (.ref x) (.ref y) (lexLt (flat ps) (flat qs)):=by
 obtain⟨⟨cls,dd,data,sl⟩,n,ho,hc,hd,he⟩:=hx;obtain⟨⟨ag,ah,af,ae⟩,n2,aa,ab,ac,z⟩:=hy;simp only at hc hd he ab ac z;subst hc hd he ab ac z;intro prog w E Q hq;exact richCompare_meets_room (op:=.Lt) ⟨_,ho,rfl⟩ ⟨_,aa,rfl⟩ PySem.F.slot_list_lt PySem.F.entry_list_lt (PySem.F.args_list_lt_2 _ _) (Eb x y q p n n2 none none sl ae ps qs)
  ⟨ho,aa,hi,hj,yw,show Value.bool _≠Value.notImplemented/\Q (.bool _) s from⟨(fun x=>nomatch x),hq⟩⟩ yw
end
end HT
namespace L2
open PySem PySem.Spec PyProof.Rows
section
def o8(p:Int×Int):av:=.tuple [.int p.1,.int p.2]
def lsP(ps:List (Int×Int)):av:=.list (ps.map o8)
section
variable {X:Cx}
def IsP2(H:Hp)(v:V)(p:Int×Int):Prop:=∃b,v=.ref b/\H b=some (.tup [.int p.1,.int p.2])
def IsLp(H:Hp)(v:V)(ps:List (Int×Int)):Prop:=∃a vs,v=.ref a/\H a=some (.lst vs)/\Paired (IsP2 H) vs ps
theorem EM{G H:Hp}{p:Int×Int}{v:V}(s:Same G H)(hv:Has G (o8 p) v):IsP2 H v p:=by
 obtain⟨a,vs,rfl,ea,l1⟩:=zJ.mp hv;obtain⟨v1,r1,e1,h1,k1⟩:=zn.mp l1;obtain⟨v2,r2,e2,h2,k2⟩:=zn.mp k1;have e3:=zo.mp k2;subst e3 e2 e1;have e4:=bV.mp h1;have e5:=bV.mp h2;subst e4 e5;exact⟨a,rfl,s _ _ ea⟩
theorem C6{h o:List Addr}{H:Hp}{ps:List (Int×Int)}{v:V}(hv:Has (vx h o H) (lsP ps) v):IsLp H v ps:=by
 obtain⟨a,vs,rfl,ea,l⟩:=zU.mp hv;refine⟨a,vs,rfl,zA _ _ ea,?_⟩;have go:∀{ps:List (Int×Int)}{ws:List V},HasL (vx h o H) (ps.map o8) ws->Paired (IsP2 H) ws ps:=by
  intro ps;induction ps with
  |nil=>intro ws l;rw[zo.mp l];exact .nil
  |cons n nss ih=>
   intro ws l;obtain⟨v,r,rfl,h1,l2⟩:=zn.mp l;exact .cons (EM (fun _ _ z=>zA _ _ z) h1) (ih l2)
 exact go l
theorem sX{H:Hp}{s:ax}{vs:List V}{ps:List (Int×Int)}{js:List au}(ok:∀a u,H a=some u->ObjOk X.prog X.w H s.heap a u){h':Heap}(k:∀b o,s.heap.get? b=some o->h'.get? b=some o)(pr:Paired (IsP2 H) vs ps)(rv:Vals vs js):HT.PrsAt h' js.toArray ps:=by
 have l1:=rv.length;have l2:=Paired.length pr;refine⟨by rw[bv];omega,fun i p ep=>?_⟩;have hi:=(List.getElem?_eq_some_iff.mp ep).1;have ev:vs[i]?=some vs[i]:=bg yw;obtain⟨x,ex,rx⟩:=rv.get ev;obtain⟨b,e1,e2⟩:=wB pr ev ep;rw[e1]at rx;cases rx;obtain⟨_,q,w1,o1,c1,d1⟩:=(show ObjOk X.prog X.w H s.heap b (.tup _)from ok b _ e2);cases w1 with
 |cons ra w1=>cases w1 with
  |cons rb w1=>
   cases w1;obtain⟨t,rfl⟩:=ra;obtain⟨t',rfl⟩:=rb;exact⟨b,t,t',by simpa using ex,o1,k _ _ c1,d1⟩
def mI(K:bf)(Rl:Hp->V->List Int->Prop):List V->Hp->VK->Prop:=fun xs H Q=>∃(p:Addr) (vs:List V) (nss:List (List Int)),xs=[.ref p]/\SqL K H p vs/\vs≠[]/\Paired (Rl H) vs nss /\
 ∀(i:Nat) v ns,vs[i]?=some v->nss[i]?=some ns->(∀ms∈nss,HT.lexLt ms ns=false)->Q v H
theorem CD{Rl:Hp->V->List Int->Prop}(ab:∀(s:ax) (H:Hp),HOk X.prog X.w H s.heap->∀(s':ax),(∀b o,s.heap.get? b=some o->s'.heap.get? b=some o)->∀v1 n1 v2 n2 x y,Rl H v1 n1->Rl H v2 n2->RelV v1 x->RelV v2 y->HT.RcLtAt X.A.in1 s' x y (HT.lexLt n1 n2))(hc:X.calm=true):CallR X (.builtin "min") (mI X.K Rl):=by
 intro zc s σ H xs us Q I r h;obtain⟨p,vs,z,rfl,hq,ae,pr,q⟩:=h;obtain⟨u,rfl,rx⟩:=vals1 r;cases (show u=cw p from rx);obtain⟨aa,rv,pl,_⟩:=I.list hq;have hl:=rv.length;have ag:=Paired.length pr;have hsz:0<aa.toArray.size:=by
  rw[bv,<- hl];exact List.length_pos_iff.mpr ae
 have at_:∀(i:Nat) x,aa.toArray[i]?=some x->∃(v:V) (ns:List Int),vs[i]?=some v/\z[i]?=some ns/\RelV v x/\Rl H v ns:=fun i x hx=>by
  have hi:i<aa.length:=by
   have:=(Array.getElem?_eq_some_iff.mp hx).1;simpa using this
  have e1:vs[i]?=some vs[i]:=bg yw;have e2:z[i]?=some z[i]:=bg yw;obtain⟨x',ac,rr⟩:=rv.get e1;have:x=x':=by
   have h2:aa[i]?=some x:=by simpa using hx
   rw[ac]at h2;exact(eo h2).symm
  subst this;exact⟨_,_,e1,e2,rr,wB pr e1 e2⟩
 refine CG (I.ok.hd hc) pl.isList hsz (fun i j=>HT.lexLt (z.getD i []) (z.getD j [])) (fun i j x y s' Q' E' k hx hy q'=>?_) fun v h' tk hv k=>?_
 ·obtain⟨v1,n1,_,f1,r1,a1⟩:=at_ i x hx;obtain⟨v2,n2,_,f2,r2,a2⟩:=at_ j y hy;have g1:z.getD i []=n1:=by rw[bz,f1];rfl
  have g2:z.getD j []=n2:=by rw[bz,f2];rfl
  rw[g1,g2]at q';exact ab s H I.hok s' k v1 n1 v2 n2 x y a1 a2 r1 r2 _ _ _ _ q'
 ·obtain⟨v1,n1,e1,f1,r1,_⟩:=at_ _ v hv;obtain⟨_,h2⟩:=v9 (ns:=fun i=>z.getD i []) xV u7 (aa.toArray.size-1);refine⟨v1,H,I.kept (t':=tk) k,r1,q _ v1 n1 e1 f1 fun ms hm=>?_⟩;obtain⟨j,hj⟩:=mem_iff_getElem?.mp hm;have af:=(List.getElem?_eq_some_iff.mp hj).1;have:=h2 j (by rw[bv];omega);rw[show z.getD j []=ms by rw[bz,hj];rfl]at this;rw[show z.getD (jp (fun i j=>HT.lexLt (z.getD i []) (z.getD j [])) (aa.toArray.size-1)) []=n1 by rw[bz,f1];rfl]at this;exact this
def RlP(H:Hp)(v:V)(ns:List Int):Prop:=∃ps,IsLp H v ps/\ns=HT.flat ps
theorem Ad(hc:X.calm=true)(hu:X.A.units+64<jc):CallR X (.builtin "min") (mI X.K RlP):=CD (fun s H ok s' k v1 n1 v2 n2 x y a1 a2 r1 r2=>by
 obtain⟨ps,⟨a,vs,rfl,ea,pr⟩,rfl⟩:=a1;obtain⟨qs,⟨b,ws,rfl,eb,p⟩,rfl⟩:=a2;cases r1;cases r2;obtain⟨_,q,m1,w1,c1⟩:=(show ObjOk X.prog X.w H s.heap a (.lst _)from ok a _ ea);obtain⟨_,z,m2,w2,c2⟩:=(show ObjOk X.prog X.w H s.heap b (.lst _)from ok b _ eb);exact HT.rcLt_prs ⟨_,m1,k _ _ c1,rfl,rfl,rfl⟩ ⟨_,m2,k _ _ c2,rfl,rfl,rfl⟩ (sX (X:=X) ok k pr w1) (sX (X:=X) ok k p w2) (by show X.A.units+1+2<jc;omega)) hc
def f7:List XV->Sto->RX->Prop:=fun xs S R=>arg1 xs fun x=>∃ds,cV S x=some ds/\∃nss:List (List (Int×Int)),ds=nss.map lsP/\nss≠[]/\∀m,m∈nss->(∀a,a∈nss->HT.lexLt (HT.flat a) (HT.flat m)=false)->R (.d (lsP m)) S
theorem Bv{K:bf}{α:Type}{Rl:Hp->V->List Int->Prop}{dt:α->av}{ky:α->List Int}(hr:∀{h o:List Addr}{H:Hp}{a:α}{v:V},Has (vx h o H) (dt a) v->Rl H v (ky a)):
  RC (mI K Rl) fun xs S R=>arg1 xs fun x=>∃ds,cV S x=some ds/\∃p:List α,ds=p.map dt/\p≠[]/\∀m,m∈p->(∀a,a∈p->HT.lexLt (ky a) (ky m)=false)->R (.d (dt m)) S:=fun h o H S xs vs R Q hs hx q c=>by
 obtain⟨x,rfl,ds,hd,p,rfl,hn,q1⟩:=b8 q;obtain⟨v,rfl,y⟩:=hxs1 hx;obtain⟨a,ws,rfl,ea,l⟩:=bL hs hd y;have hl:=l.length;refine⟨a,ws,p.map ky,rfl,.of ea,fun z=>hn ?_,?_,fun i v ns e1 e2 hm=>?_⟩
 ·subst z;rw[bo]at hl;exact dq hl.symm
 ·have go:∀{p:List α}{ws:List V},HasL (vx h o H) (p.map dt) ws->Paired (Rl H) ws (p.map ky):=by
   intro p;induction p with
   |nil=>intro ws l;rw[zo.mp l];exact .nil
   |cons n p ih=>
    intro ws l;obtain⟨v,r,rfl,h1,l2⟩:=zn.mp l;exact .cons (hr h1) (ih l2)
  exact go l
 ·rw[eg]at e2;obtain⟨n,e3,rfl⟩:=map_eq_some_iff.mp e2;obtain⟨v',ev,hv⟩:=l.get (show (p.map dt)[i]?=some (dt n) by rw[eg,e3];rfl);rw[e1]at ev;cases ev;exact c o H S (.d (dt n)) v Ex.refl hs hv (q1 n (cf e3) fun a ma=>hm _ (io ma))
theorem vL{K:bf}:RC (mI K RlP) f7:=Bv (dt:=lsP) (ky:=HT.flat) fun hv=>⟨_,C6 hv,rfl⟩
def sR:List V->Hp->VK->Prop:=fun xs H Q=>∃a ob m,xs=[.ref a]/\H a=some (.frz ob (.dK m))/\Q (.int m.length) H
theorem yH:CallR X (.builtin "len") sR:=by
 intro zc s σ H xs us Q I r h;obtain⟨a,ob,m,rfl,ea,q⟩:=h;obtain⟨u,rfl,rx⟩:=vals1 r;cases (show u=cw a from rx);obtain⟨na,z,es,ep,vs,_,kv,⟨o,y,ho,r1⟩⟩:=C8 I.hok ea;have p:m.length=vs.length:=kv.length;have aa:be=16777216:=sizeLine_eq;exact call_len_dict (knd:=zZ X.prog X.w) (kvs:=vs) na ⟨o,y,ep,ho,r1⟩ yw ⟨.int _,H,I.tok _,⟨_,by rw[p]⟩,q⟩
def d9:List XV->Sto->RX->Prop:=fun xs S R=>arg1 xs fun x=>∃m:List (Key×av),x=.d (.dict (DD.pairs (.k m)))/\R (.d (.int m.length)) S
theorem yK{H:Hp}:∀{m:List (Key×av)}{m':List (Key×V)},HasM H m m'->m'.length=m.length
 | [],_,q=>by rw[show _=[]from q];rfl
 |p::r,_,⟨v,t,e,_,l⟩=>by rw[e,br,br,yK l]
theorem CL:RC sR d9:=fun h o H S xs vs R Q hs hx q c=>by
 obtain⟨x,rfl,m,rfl,q1⟩:=b8 q;obtain⟨v,rfl,p⟩:=hxs1 hx;obtain⟨a,ob,m',rfl,ea,l⟩:=rE.mp (show Has (vx h o H) _ _ from p);exact⟨a,ob,m',rfl,zA _ _ ea,by rw[yK l];exact c o H S _ _ Ex.refl hs (xI _) q1⟩
end
end
section
theorem jO{R:av->Sto->DM->Prop}{d:av}{S:Sto}{M:DM}:(nH R).rt (.d d) S M=R d S M:=propext ⟨fun⟨e,z,q⟩=>by cases z;exact q,fun q=>⟨d,rfl,q⟩⟩
theorem kH{d:av}:gF (.d d)=true:=rfl
theorem j5{v:V}:gF (.o v)=true:=rfl
end
end L2
namespace L2
open PySem PySem.Spec PySem.Calls PyProof.Rows PySem.W
section
variable {X:Cx}
def kO:List XV->Sto->RX->Prop:=fun xs S R=>arg1 xs fun x=>∃ns:List Int,x=.d (.tuple (ns.map bq))/\ns.length<60/\∀ms:List Int,ms.Perm ns->ms.Pairwise (· ≥ ·)->R (.d (.list (ms.map bq))) S
end
end L2
namespace My
open PySem L2
def jM:PN:=fun xs S R=>(aA (aD (dOp (dI (fun _ j=>0<j) fun i j=>i % j) (dOp aM (zj 0) (dC (.int 7919))) (dC (.int 2147483647))) (zm 0)) (aC (dOp (dI (fun _ j=>0<j) fun i j=>i % j) (dOp aM (dOp aM (dOp bB (zj 0) (zj 0)) (dOp bB (dC (.int 48271)) (zj 0))) (dC (.int 12345))) (dC (.int 2147483629))))) (aI S.length R) (xs.map some++az 0 none) S
def AK:PN:=fun xs S R=>(aA (aD (dCB (dI2 fun i j=>if j>i then j else i) (zd (zj 0) (zd (dOp (dI0 fun i j=>i-j) (dC (.int 0)) (zj 0)) zv))) (zm 1)) (aC (cK (zd (zj 1) (zd (dCB fI (zd (dOp (dIb fun i j=>decide (j<=i)) (zj 1) (dOp (dI CPow fun i j=>i ^ j.toNat) (dC (.int 10)) (dC (.int 18)))) zv)) (zd (dOp (dI (fun _ j=>0<j) fun i j=>i % j) (zj 1) (dC (.int 1000003))) zv)))))) (aI S.length R) (xs.map some++az 1 none) S
def lL:PN:=fun xs S R=>(aC (fV (dCB dW (zd (zj 0) (zd (dO (.ty "int")) zv))) (gR (dCB dW (zd (zj 0) (zd (dO (.ty "bool")) zv)))))) (aI S.length R) (xs.map some++az 0 none) S
def zt:PN:=fun xs S R=>(aA (aN (dB (dOp bP (dOp dIx (zj 0) (dC (.int 1))) (dC (.int 1)))) (aA (aD (dOp (dI (fun _ j=>0<j) fun i j=>i % j) (dOp dIx (zj 0) (dC (.int 0))) (zj 1)) (zm 2)) (aA (aD (dOp dFd (dOp dIx (zj 0) (dC (.int 0))) (zj 1)) (e8 (zj 0) (dC (.int 0)))) (aC (zj 2)))) aJ) (aA (aD (aE 1 jM (zd (dOp aM (aE 1 jM (zd (dOp dIx (zj 0) (dC (.int 2))) zv)) (dC (.int 7))) zv)) (e8 (zj 0) (dC (.int 2)))) (aC (dOp (dI (fun _ j=>0<j) fun i j=>i % j) (dOp dFd (dOp dIx (zj 0) (dC (.int 2))) (dC (.int 64))) (zj 1))))) (aI S.length R) (xs.map some++az 1 none) S
def nB:PN:=fun xs S R=>(aA (aD (zW 0 2 zt (zd (zj 0) (zd (dC (.int 8)) zv))) (zm 1)) (aA (aN (dB (dOp (dIb fun i j=>decide (i<j)) (zj 1) (dC (.int 5)))) (aC (dOp (dI0 fun i j=>i-j) (zW 0 2 zt (zd (zj 0) (zd (dC (.int 13)) zv))) (dC (.int 6)))) aJ) (aA (aN (dB (dOp (dIb fun i j=>decide (i<j)) (zj 1) (dC (.int 7)))) (aC (dOp (dI0 fun i j=>i-j) (zW 0 2 zt (zd (zj 0) (zd (dC (.int 2001)) zv))) (dC (.int 1000)))) aJ) (aC (dOp bB (dOp (dI0 fun i j=>i-j) (zW 0 2 zt (zd (zj 0) (zd (dOp bB (dC (.int 2)) (dOp (dI CPow fun i j=>i ^ j.toNat) (dC (.int 10)) (dC (.int 30)))) zv))) (dOp (dI CPow fun i j=>i ^ j.toNat) (dC (.int 10)) (dC (.int 30)))) (dOp (dI CPow fun i j=>i ^ j.toNat) (dC (.int 10)) (dC (.int 28)))))))) (aI S.length R) (xs.map some++az 1 none) S
def vJ:PN:=fun xs S R=>(aA (aD (zW 0 2 zt (zd (zj 0) (zd (dC (.int 8)) zv))) (zm 1)) (aA (aN (dB (dOp (dIb fun i j=>decide (i<j)) (zj 1) (dC (.int 5)))) (aC (dOp (dI0 fun i j=>i-j) (zW 0 2 zt (zd (zj 0) (zd (dC (.int 13)) zv))) (dC (.int 6)))) aJ) (aA (aN (dB (dOp (dIb fun i j=>decide (i<j)) (zj 1) (dC (.int 7)))) (aC (dOp (dI0 fun i j=>i-j) (zW 0 2 zt (zd (zj 0) (zd (dC (.int 2001)) zv))) (dC (.int 1000)))) aJ) (aC (dOp bB (dOp (dI0 fun i j=>i-j) (zW 0 2 zt (zd (zj 0) (zd (dOp bB (dC (.int 2)) (dOp (dI CPow fun i j=>i ^ j.toNat) (dC (.int 10)) (dC (.int 30)))) zv))) (dOp (dI CPow fun i j=>i ^ j.toNat) (dC (.int 10)) (dC (.int 30)))) (dOp (dI CPow fun i j=>i ^ j.toNat) (dC (.int 10)) (dC (.int 28)))))))) (aI S.length R) (xs.map some++az 1 none) S
def oJ:PN:=fun xs S R=>(aA (aD (dCB (dI2 fun i j=>if j>i then j else i) (zd (zj 0) (zd (dOp (dI0 fun i j=>i-j) (dC (.int 0)) (zj 0)) zv))) (zm 1)) (aC (cK (zd (zj 1) (zd (dCB fI (zd (dOp (dIb fun i j=>decide (j<=i)) (zj 1) (dOp (dI CPow fun i j=>i ^ j.toNat) (dC (.int 10)) (dC (.int 18)))) zv)) (zd (dOp (dI (fun _ j=>0<j) fun i j=>i % j) (zj 1) (dC (.int 1000003))) zv)))))) (aI S.length R) (xs.map some++az 1 none) S
def n8:PN:=fun xs S R=>(aC (dCB gM (zd (bR [none,none,some 1] (aR (dOp dIx (zj 0) (dC (.int 0)))) (cI 2 (aO (zm 0) (aO (zm 1) bT))) aF (dOp bB (zj 1) (dOp dIx (zj 2) (zj 0)))) zv))) (aI S.length R) (xs.map some++az 0 none) S
def nJ:PN:=fun xs S R=>(aC (fF (dIb fun i j=>decide (i<=j)) (dIb fun i j=>decide (i<=j)) (dOp dIx (zj 0) (dC (.int 1))) (aE 2 n8 (zd (zj 0) (zd (zj 1) zv))) (dOp dIx (zj 0) (dC (.int 2))))) (aI S.length R) (xs.map some++az 0 none) S
def nE:PN:=fun xs S R=>(aA (aD (zj 0) (cI 3 (aO (zm 3) (aO (zm 4) (aO (zm 5) bT))))) (aC (fF (dIb fun i j=>decide (i<=j)) (dIb fun i j=>decide (i<=j)) (zj 4) (dOp aM (dOp bB (dOp dIx (dOp dIx (zj 3) (dC (.int 0))) (dC (.int 1))) (zj 1)) (dOp bB (dOp dIx (dOp dIx (zj 3) (dC (.int 1))) (dC (.int 1))) (zj 2))) (zj 5)))) (aI S.length R) (xs.map some++az 3 none) S
def mL:PN:=fun xs S R=>(aA (aD (cK zv) (zm 3)) (aA (bO (bZ (zd (dCB aZ (zd (zj 1) zv)) zv)) (zm 4) (bO (bZ (zd (dCB aZ (zd (zj 2) zv)) zv)) (zm 5) (aN (aS (aE 3 nE (zd (zj 0) (zd (dOp dIx (zj 1) (zj 4)) (zd (dOp dIx (zj 2) (zj 5)) zv))))) (cL (dBM cP (zj 3) (zd (aK (zd (zj 4) (zd (zj 5) zv))) zv))) aJ))) (aC (zj 3)))) (aI S.length R) (xs.map some++az 3 none) S
def m5:PN:=fun xs S R=>(aA (aN (dOr (aY (aS (dCB dW (zd (zj 0) (zd (dO (.ty "list")) zv))))) (dB (dOp eZ (dCB aZ (zd (zj 0) zv)) (dCB aZ (zd (zj 1) zv))))) (aC (dC (.bool false))) aJ) (aA (bO (aR (zj 0)) (zm 2) (aN (dOr (aY (aS (dCB dW (zd (zj 2) (zd (dO (.ty "tuple")) zv))))) (dOr (dB (dOp eZ (dCB aZ (zd (zj 2) zv)) (dC (.int 2)))) (dOr (aY (aS (aE 1 lL (zd (dOp dIx (zj 2) (dC (.int 0))) zv)))) (aY (aS (aE 1 lL (zd (dOp dIx (zj 2) (dC (.int 1))) zv))))))) (aC (dC (.bool false))) aJ)) (aC (dOp bP (zj 0) (zj 1))))) (aI S.length R) (xs.map some++az 1 none) S
def mV:PN:=fun xs S R=>(aC (eG [none,none,some 0,some 1] (gI (zd (zj 2) zv)) (cI 2 (aO (zm 0) (aO (zm 1) bT))) (aS (aE 2 nJ (zd (zj 2) (zd (aK (zd (zj 3) (zd (zj 1) zv))) zv)))) (zj 0))) (aI S.length R) (xs.map some++az 0 none) S
def l5:PN:=fun xs S R=>(aA (aD (zW 0 2 zt (zd (zj 0) (zd (dOp aM (zj 1) (dC (.int 1))) zv))) (zm 4)) (aA (aN (dB (dOp bP (zW 0 2 zt (zd (zj 0) (zd (dC (.int 8)) zv))) (dC (.int 0)))) (aC (dOp gQ (aK (zd (zj 2) zv)) (zj 4))) aJ) (aC (dCB f9 (zd (bR [none,some 2,some 0,some 3] (bZ (zd (zj 4) zv)) (zm 0) aF (dOp aM (zj 1) (zW 0 2 zt (zd (zj 2) (zd (zj 3) zv))))) zv))))) (aI S.length R) (xs.map some++az 1 none) S
def oC:PN:=fun xs S R=>(aC (eG [none,some 0,some 2] (aR (zj 1)) (zm 0) aF (aE 3 mV (zd (zj 1) (zd (zj 0) (zd (zj 2) zv)))))) (aI S.length R) (xs.map some++az 0 none) S
def nA:PN:=fun xs S R=>(aA (aD (bM (zd (zW 0 1 nB (zd (zj 0) zv)) (zd (zW 0 1 nB (zd (zj 0) zv)) zv))) (zm 2)) (aA (aD (dOp dIx (bM (zd (dC (.int 1)) (zd (dC (.int 3)) (zd (dC (.int 8)) (zd (dC (.int 40)) zv))))) (zW 0 2 zt (zd (zj 0) (zd (dC (.int 4)) zv)))) (zm 3)) (aA (aD (bR [none,some 0] (bZ (zd (dC (.int 2)) zv)) (zm 0) aF (dOp dIx (bM (zd (dC (.int 1)) (zd (dUn (dUI fun i=>-i) (dC (.int 1))) (zd (dC (.int 2)) (zd (dUn (dUI fun i=>-i) (dC (.int 2))) (zd (dC (.int 3)) (zd (dUn (dUI fun i=>-i) (dC (.int 3))) zv))))))) (zW 0 2 zt (zd (zj 1) (zd (dC (.int 6)) zv))))) (gS 2 (aO (zm 4) (aO (zm 5) bT)))) (aA (aD (dOp bB (zj 3) (dOp aM (dCB fH (zd (zj 4) zv)) (dCB fH (zd (zj 5) zv)))) (zm 6)) (aA (aD (dOp (dI0 fun i j=>i-j) (dOp aM (dOp aM (dOp bB (zj 4) (dOp dIx (zj 2) (dC (.int 0)))) (dOp bB (zj 5) (dOp dIx (zj 2) (dC (.int 1))))) (zW 0 2 zt (zd (zj 0) (zd (dOp aM (dOp bB (dC (.int 2)) (zj 6)) (dC (.int 1))) zv)))) (zj 6)) (zm 7)) (aA (aD (dOp aM (zj 7) (dOp dIx (bM (zd (dC (.int 0)) (zd (dC (.int 1)) (zd (dC (.int 2)) (zd (zj 3) (zd (zj 6) (zd (dOp bB (dC (.int 3)) (zj 3)) zv))))))) (zW 0 2 zt (zd (zj 0) (zd (dC (.int 6)) zv))))) (zm 8)) (aA (aD (zW 0 4 l5 (zd (zj 0) (zd (zj 1) (zd (dOp dIx (zj 2) (dC (.int 0))) (zd (zj 3) zv))))) (zm 9)) (aC (aK (zd (aK (zd (aK (zd (aK (zd (dC (.int 0)) (zd (zj 4) zv))) (zd (aK (zd (dC (.int 1)) (zd (zj 5) zv))) zv))) (zd (zj 7) (zd (zj 8) zv)))) (zd (zj 9) (zd (zW 0 4 l5 (zd (zj 0) (zd (zj 1) (zd (dOp dIx (zj 2) (dC (.int 1))) (zd (zj 3) zv))))) zv)))))))))))) (aI S.length R) (xs.map some++az 8 none) S
def zO:PN:=fun xs S R=>(aC (eG [none,some 1] (aR (zj 0)) (zm 0) (dB (dOp oA (zj 0) (zj 1))) (zj 0))) (aI S.length R) (xs.map some++az 0 none) S
def l9:PN:=fun xs S R=>(aA (aD (bM (zd (bM zv) zv)) (zm 1)) (aA (bO (aR (zj 0)) (cI 2 (aO (zm 2) (aO (zm 3) bT))) (aA (aD (cK zv) (zm 4)) (aA (bO (aR (zj 1)) (zm 5) (aN (aY (aS (dCB gV (zd (bR [none,none,some 2,some 3] (aR (zj 5)) (cI 2 (aO (zm 0) (aO (zm 1) bT))) aF (gT (dOp bP (zj 2) (zj 0)) (dOp bP (zj 3) (zj 1)))) zv)))) (cL (dBM cP (zj 4) (zd (dOp aM (zj 5) (bM (zd (aK (zd (zj 2) (zd (zj 3) zv))) zv))) zv))) aJ)) (aD (dOp aM (zj 1) (zj 4)) (zm 1))))) (aC (zj 1)))) (aI S.length R) (xs.map some++az 5 none) S
def nV:PN:=fun xs S R=>(aA (aD (aE 1 l9 (zd (zj 0) zv)) (zm 1)) (aA (aD (dCB rF (zd (bR [none] (aR (zj 1)) (zm 0) aF (dCB aZ (zd (zj 0) zv))) zv)) (zm 2)) (aC (dCB f7 (zd (bR [none,some 2] (aR (zj 1)) (zm 0) (dB (dOp bP (dCB aZ (zd (zj 0) zv)) (zj 1))) (zj 0)) zv))))) (aI S.length R) (xs.map some++az 2 none) S
def zK:Nat->PNm
 | 0=>fun _ _ _ _=>False
 |n+1=>fun xs S M R=>(cM (eL (fun M=>(aR (dOp dIx (zj 0) (zj 1)))) (zm 4) (cM (eU (fun M=>(dB (dOp (dL M false) (zj 4) (zj 3)))) (bE eX) (bE aJ)) (cM (dQ 3 (fun M=>(zj 4)) (fun M=>(dC (.bool true)))) (fG (fB (dmT (fun M=>(dB (dOp (dL M true) (zj 4) (zj 2))))) (eQ 4 (zK n) (fun M=>(zd (zj 0) (zd (fJ M (zj 2) (zj 4)) (zd (zj 2) (zd (zj 3) zv))))))) (cM (dQ 2 (fun M=>(zj 4)) (fun M=>(zj 1))) (bE (aC (dC (.bool true))))) (bE aJ))))) (bE (aC (dC (.bool false))))) (nH R) (xs.map some++az 1 none) S M
def oE:PNm:=zK 12
def zT:PN:=fun xs S R=>(aA (fD (e9 true 1 (.k []) (eL (fun M=>(bZ (zd (dCB aZ (zd (zj 0) zv)) zv))) (zm 2) (fZ oE (fun M=>(zj 0)) (fun M=>(zj 2)) (fun M=>(zj 1)))))) (aC (zj 1))) (aI S.length R) (xs.map some++az 2 none) S
def nQ:PN:=fun xs S R=>(aA (bO (aR (aE 2 zO (zd (dOp dIx (zj 0) (zj 1)) (zd (zj 2) zv)))) (zm 4) (aA (aD (bR [none,some 2,some 4] (aR (dSl lX (zj 0) (eY (dOp aM (zj 1) (dC (.int 1)))) fA)) (zm 0) aF (aE 2 zO (zd (zj 0) (zd (dOp aM (zj 1) (bM (zd (zj 2) zv))) zv)))) (zm 5)) (aN (dB (dOp bP (dCB d9 (zd (aE 1 zT (zd (zj 5) zv)) zv)) (zj 3))) (aC (zj 4)) aJ))) (aC (dC .none))) (aI S.length R) (xs.map some++az 2 none) S
def mR:PN:=fun xs S R=>(aA (aD (aE 3 oC (zd (zj 0) (zd (zj 1) (zd (zj 2) zv)))) (zm 3)) (aA (aD (dCB d9 (zd (aE 1 zT (zd (zj 3) zv)) zv)) (zm 4)) (aA (aD (cK zv) (zm 5)) (aA (aD (cK zv) (zm 6)) (aA (bO (bZ (zd (dCB aZ (zd (zj 3) zv)) zv)) (zm 7) (aA (aD (eO 4 nQ (zd (zj 3) (zd (zj 7) (zd (zj 6) (zd (dOp (dI0 fun i j=>i-j) (dOp (dI0 fun i j=>i-j) (zj 4) (dCB aZ (zd (zj 5) zv))) (dC (.int 1))) zv))))) (zm 8)) (aN (dB (dOp fP (zj 8) (dC .none))) (aA (cL (dBM cP (zj 5) (zd (aK (zd (zj 7) (zd (zj 8) zv))) zv))) (cL (dBM cP (zj 6) (zd (zj 8) zv)))) aJ))) (aC (zj 5))))))) (aI S.length R) (xs.map some++az 6 none) S
def zC:PN:=fun xs S R=>(aA (aD (aE 1 nV (zd (aE 3 mL (zd (zj 0) (zd (zj 1) (zd (zj 2) zv)))) zv)) (zm 3)) (aA (bO (bZ (zd (dC (.int 2)) zv)) (zm 4) (aA (aD (aE 3 mR (zd (zj 0) (zd (zj 1) (zd (zj 2) zv)))) (zm 5)) (aA (aN (aY (aS (eO 2 m5 (zd (zj 5) (zd (zj 3) zv))))) (aC (dC (.bool false))) aJ) (cL (dBM cP (zj 5) (zd (dC .none) zv)))))) (aC (dC (.bool true))))) (aI S.length R) (xs.map some++az 3 none) S
def qI:DS:=(aA (aD (aK (zd (aK (zd (aK (zd (dC (.int 0)) (zd (dC (.int 1)) zv))) (zd (aK (zd (dC (.int 1)) (zd (dC (.int 1)) zv))) zv))) (zd (dC (.int 5)) (zd (dC (.int 6)) zv)))) (zm 1)) (aN (dOr (aY (aS (aE 3 zC (zd (zj 1) (zd (aK zv) (zd (aK zv) zv)))))) (dOr (aY (aS (aE 3 zC (zd (zj 1) (zd (aK (zd (dC (.int 2)) (zd (dC (.int 3)) zv))) (zd (aK (zd (dC (.int 3)) zv)) zv)))))) (aY (aS (aE 3 zC (zd (zj 1) (zd (aK (zd (dC (.int 2)) (zd (dC (.int 3)) zv))) (zd (aK (zd (dC (.int 3)) (zd (dC (.int 4)) zv))) zv)))))))) (aC (dC (.bool false))) aJ))
def p9:DS:=(aA (aD (aE 1 oJ (zd (zj 2) zv)) (zm 3)) (aA (aD (zW 0 2 nA (zd (zj 3) (zd (dC (.int 4)) zv))) (cI 3 (aO (zm 1) (aO (zm 4) (aO (zm 5) bT))))) (aN (dOr (aY (aS (aE 3 zC (zd (zj 1) (zd (zj 4) (zd (zj 5) zv)))))) (aY (aS (aE 3 zC (zd (zj 1) (zd (zj 5) (zd (zj 4) zv))))))) (aC (dC (.bool false))) aJ)))
end My
namespace My
open PySem L2
theorem seq1{t u:DS}{E:DEnds}{δ:XE}{S:Sto}(h:t { E with nx:=u E } δ S):aA t u E δ S:=h
theorem seqm{t u:DSm}{E:DEndsM}{δ:XE}{S:Sto}{M:DM}(h:t { E with nx:=u E } δ S M):cM t u E δ S M:=h
theorem iC(i j:Int):iw (.int i) (.int j)=decide (i=j):=rfl
theorem kW(i:Int):cg (.int i)=true:=rfl
theorem kK:("int" ∈ eA)=True:=eq_true dz
theorem l8:("bool" ∈ eA)=True:=eq_true dz
theorem iL:("tuple" ∈ eA)=True:=eq_true dz
theorem iI:("list" ∈ eA)=True:=eq_true dz
end My
namespace My
open PySem L2
local macro_rules|`(tactic|walk_at $s:str)=>do
 let xs<-("aD kO fG fB dmT eQ fZ f7 d9 jO kH j5 kM lM XV.flat all_cons List.all_nil Bool.and_self gQ gS lO lA kJ fD e9 bE eU eL dQ fJ dL j7 jH l0 lB j3 jW jK j0 kE zm zj dC dO dOp dUn zv zd dCB aK bM cK dB aY l6 dOr fV gT gR dIf fF dI dI0 dIb dUI bP eZ iZ fP iV k8 i9 jV iR kG lS lG dFd aS i8 fA eY dSl aZ lH iY j6 dW fH fI dI2 f9 dBM iN cP iO kQ gM jB gV aE zW eO iW lW iG kF kL lV lF kU asL iP kP i7 kA kX l4 lC jP kB kY k6 jT lN j8 iU aC aN cL aJ eX lZ bO aR lP jD bZ lY gI i6 cI aO jC lU i5 kC bT e8 bR eG aF cQ jF fW k9 lQ jS iQ List.replicate map_cons map_nil map_some Option.bind_some Option.bind_none Option.join_some getElem?_cons_zero getElem?_cons_succ set_cons_zero set_cons_succ List.take_succ_cons take_zero List.take_nil length_cons length_nil nil_append cons_append Option.some.injEq exists_eq_left' exists_eq_left List.cons.injEq XV.d.injEq XV.l.injEq XV.o.injEq PyData.int.injEq PyData.list.injEq PyData.tuple.injEq PyData.bool.injEq PyData.str.injEq and_true true_and decide_eq_true_eq Bool.not_true Bool.not_false Bool.false_eq_true Bool.true_eq_false not_true_eq_false not_false_eq_true decide_true decide_false Bool.not_eq_true' eT decide_eq_false_iff_not Nat.reduceAdd Nat.reduceMul zero_add Nat.reduceLT Nat.reduceLeDiff Nat.reduceEqDiff Int.reduceLT Int.reduceLE Int.reduceNeg Int.reducePow Int.reduceToNat Int.reduceEq Int.reduceAdd Int.reduceSub Int.reduceMul le_refl zero_le length_append length_map iC kW List.isEmpty_nil List.isEmpty_cons Int.cast_ofNat_Int Int.natCast_zero Int.natCast_one kK l8 iL iI kI iS lJ kS".splitOn " ").toArray.mapM fun n=>`(Lean.Parser.Tactic.simpLemma|$(Lean.mkIdent n.toName):ident)
 match s.getString with
 |"d"=>`(tactic|((try dsimp only[↓reduceIte,$xs,*]);(try simp only[↓reduceIte,$xs,*])))
 |"n"=>`(tactic|(refine seq1 ?_; walk_at "d"))
 |"dX"=>`(tactic|(try simp -implicitDefEqProofs only [↓reduceIte,$xs,*]))
 |"e"=>`(tactic|((try dsimp only[aA,cM,↓reduceIte,$xs,*]);(try simp only[aA,cM,↓reduceIte,$xs,*])))
 |_=>Lean.Macro.throwUnsupported
section
abbrev Mt:=List (Nat×Nat)
theorem dY{α:Type}[DecidableEq α]:∀{l l':List α},l.Nodup->(∀x∈l,x∈l')->l.length<=l'.length
 | [],_,_,_=>kh _
 |x::l,l',nd,h=>by
  rw[iu]at nd;have mx:=h x bn;have:=dY (l:=l) (l':=l'.erase x) nd.2 fun y my=>by
   have ne:y≠x:=fun e=>nd.1 (e▸my);exact(List.mem_erase_of_ne ne).mpr (h y (bc _ my))
  rw[List.length_erase_of_mem mx]at this;have:0<l'.length:=List.length_pos_of_mem mx;rw[br];omega
def fmL(f:Nat->Mt->List Nat->Bool×Mt×List Nat)(i:Nat):List Nat->Mt->List Nat->Bool×Mt×List Nat
 | [],M,a=>(false,M,a)
 |j::js,M,a=>
  if j∈a then fmL f i js M a
  else match lkA M j with
   |none=>(true,ptA M j i,a++[j])
   |some i2=>if (f i2 M (a++[j])).1=true then (true,ptA (f i2 M (a++[j])).2.1 j i,(f i2 M (a++[j])).2.2)else fmL f i js (f i2 M (a++[j])).2.1 (f i2 M (a++[j])).2.2
def aB(p:List (List Nat))(i:Nat):List Nat:=p.getD i []
def fm(p:List (List Nat)):Nat->Nat->Mt->List Nat->Bool×Mt×List Nat
 | 0,_,M,a=>(false,M,a)
 |n+1,i,M,a=>fmL (fm p n) i (aB p i) M a
def KN(M:Mt):Prop:=(M.map (·.1)).Nodup
def Ed(q:List (List Nat))(M:Mt):Prop:=∀p∈M,p.1∈aB q p.2
def Cl(p:List (List Nat))(M:Mt)(C:List Nat):Prop:=∀j∈C,∃i,lkA M j=some i/\∀j2∈aB p i,j2∈C
theorem pH{p:List (List Nat)}{f:Nat->Mt->List Nat->Bool×Mt×List Nat}{i:Nat}{C:List Nat}
  (hf:∀i2 M a,Cl p M C->(∀j∈aB p i2,j∈C)->(f i2 M a).1=false/\(f i2 M a).2.1=M):∀js M a,Cl p M C->(∀j∈js,j∈C)->(fmL f i js M a).1=false/\(fmL f i js M a).2.1=M
 | [],M,a,_,_=>⟨rfl,rfl⟩
 |j::js,M,a,hc,hj=>by
  unfold fmL;split
  ·exact pH hf js M a hc fun x m=>hj x (bc _ m)
  ·obtain⟨i2,e,h2⟩:=hc j (hj j bn);rw[e];obtain⟨r1,r2⟩:=hf i2 M (a++[j]) hc h2;show (if (f i2 M (a++[j])).1=true then _ else _:Bool×Mt×List Nat).1=false/\_;simp only[r1,ia,if_false,r2];exact pH hf js M _ hc fun x m=>hj x (bc _ m)
theorem vT{p:List (List Nat)}{C:List Nat}:∀n i M a,Cl p M C->(∀j∈aB p i,j∈C)->(fm p n i M a).1=false/\(fm p n i M a).2.1=M
 | 0,_,_,_,_,_=>⟨rfl,rfl⟩
 |n+1,i,M,a,hc,hj=>pH (vT n) (aB p i) M a hc hj
structure FmOk(rows:List (List Nat))(m i:Nat)(js:List Nat)(M:Mt)(a:List Nat)(r:Bool×Mt×List Nat):Prop where
 sub:∀j∈a,j∈r.2.2
 nd:r.2.2.Nodup
 lt:∀j∈r.2.2,j<m
 no:r.1=false->r.2.1=M/\(∀j∈js,j∈r.2.2)/\∀j∈r.2.2,j∈a\/∃i2,lkA M j=some i2/\∀j2∈aB rows i2,j2∈r.2.2
 yes:r.1=true->KN r.2.1/\Ed rows r.2.1/\(r.2.1.map (·.2)).Perm (i::M.map (·.2))/\∀j∈a,lkA r.2.1 j=lkA M j
 cl:r.1=true->∀C,Cl rows M C->∀j∈C,lkA r.2.1 j=lkA M j
theorem u6{M:Mt}{j:Nat}(h:lkA M j=none):∀p∈M,p.1≠j:=fun p m e=>by
 unfold lkA at h;rw[Option.map_eq_none_iff,List.find?_eq_none]at h;exact h p m (by simp[e])
theorem mW{M:Mt}{j i:Nat}(h:lkA M j=some i):(j,i)∈M:=by
 unfold lkA at h;obtain⟨q,e,e2⟩:=map_eq_some_iff.mp h;have h0:=find?_some e;have h1:=ig h0;have h2:=List.mem_of_find?_eq_some e;obtain⟨q1,q2⟩:=q;cases h1;cases e2;exact h2
theorem n9{M:Mt}{j i:Nat}(h:lkA M j=none):ptA M j i=M++[(j,i)]:=by
 have hn:=u6 h;unfold ptA;rw[bu];intro z;rw[any_eq_true]at z;obtain⟨p,mp,hp⟩:=z;exact hn p mp (ig hp)
theorem xQ{M:Mt}{j i i2:Nat}(hn:KN M)(h:lkA M j=some i2):∃A B,M=A++(j,i2)::B/\ptA M j i=A++(j,i)::B:=by
 have hm:=mW h;obtain⟨A,B,e⟩:=List.append_of_mem hm;subst e;refine⟨A,B,rfl,?_⟩;unfold KN at hn;rw[dw,ck,ix]at hn;have hA:∀p∈A,p.1≠j:=fun p m z=>hn.2.2 p.1 (io m) j yv z;have hB:∀p∈B,p.1≠j:=fun p m z=>(nodup_cons.mp hn.2.1).1 (mem_map.mpr ⟨p,m,z⟩);unfold ptA;rw[cb yv];rw[dw,ck,cb rfl];congr 1
 ·exact(ju fun p m=>bu (hA p m)).trans (map_id' A)
 ·congr 1;exact(ju fun p m=>bu (hB p m)).trans (map_id' B)
theorem nO{M:Mt}{j i j':Nat}(hn:KN M)(hj:j'≠j):lkA (ptA M j i) j'=lkA M j':=by
 cases h:lkA M j with
 |none=>
  rw[n9 h];unfold lkA;rw[List.find?_append];cases M.find? fun p=>decide (p.1=j')with
  |none=>simp[fw hj]
  |some q=>rfl
 |some i2=>
  obtain⟨A,B,e1,e2⟩:=xQ (i:=i) hn h;rw[e2,e1];unfold lkA;rw[List.find?_append,List.find?_append,jo (by simpa using fw hj),jo (by simpa using fw hj)]
theorem rS{aa:List (List Nat)}{f:Nat->Mt->List Nat->Bool×Mt×List Nat}{m K i:Nat}
  (hf:∀i2 M a,KN M->Ed aa M->a.Nodup->(∀j∈a,j<m)->K<=a.length->FmOk aa m i2 (aB aa i2) M a (f i2 M a))
  (hno:∀C i2 M a,Cl aa M C->(∀j∈aB aa i2,j∈C)->(f i2 M a).1=false):
  ∀js M a,(∀j∈js,j∈aB aa i)->(∀j∈js,j<m)->KN M->Ed aa M->a.Nodup->(∀j∈a,j<m)->K<=a.length+1->FmOk aa m i js M a (fmL f i js M a)
 | [],M,a,_,_,hn,he,an,al,_=>⟨fun _ h=>h,an,al,fun _=>⟨rfl,fun _ h=>(nomatch h),fun j h=>.inl h⟩,fun h=>(nomatch h),fun h=>(nomatch h)⟩
 |j::js,M,a,hi,hm,hn,he,an,al,hK=>by
  have ae:∀x∈js,x∈aB aa i:=fun x m=>hi x (bc _ m);have ac:∀x∈js,x<m:=fun x h=>hm x (bc _ h);have hj:=hi j bn;unfold fmL;split
  ·rename_i ja;have r:=rS hf hno js M a ae ac hn he an al hK;refine⟨r.sub,r.nd,r.lt,fun h=>?_,r.yes,r.cl⟩;obtain⟨r1,r2,r3⟩:=r.no h;refine⟨r1,fun x mx=>?_,r3⟩;rcases mem_cons.mp mx with rfl|mx
   ·exact r.sub _ ja
   ·exact r2 x mx
  ·rename_i ja;have ab:(a++[j]).Nodup:=by
    rw[ix];refine⟨an,yv,fun x mx y my e=>?_⟩;rw[mem_singleton.mp my]at e;exact ja (e▸mx)
   have af:∀x∈a++[j],x<m:=fun x mx=>by
    rcases mem_append.mp mx with mx|mx
    ·exact al x mx
    ·rw[mem_singleton.mp mx];exact hm j bn
   have l1:(a++[j]).length=a.length+1:=by simp
   cases h:lkA M j with
   |none=>
    have hk:=u6 h;refine⟨fun x mx=>ba _ mx,ab,af,fun z=>(nomatch z),fun _=>⟨?_,?_,?_,?_⟩,fun _ C hc x mx=>?_⟩
    ·show KN (ptA M j i);rw[n9 h];unfold KN at hn ⊢;rw[dw,ix];refine⟨hn,yv,fun x mx y my e=>?_⟩;obtain⟨p,mp,rfl⟩:=mem_map.mp mx;have ey:y=j:=by simpa using my
     exact hk p mp (e.trans ey)
    ·show Ed aa (ptA M j i);rw[n9 h];intro p mp;rcases mem_append.mp mp with mp|mp
     ·exact he p mp
     ·rw[mem_singleton.mp mp];exact hj
    ·show ((ptA M j i).map (·.2)).Perm _;rw[n9 h,dw];exact List.perm_append_singleton _ _
    ·intro x mx;exact nO hn fun e=>ja (e▸mx)
    ·refine nO hn fun e=>?_;obtain⟨i2,e2,_⟩:=hc x mx;rw[e,h]at e2;cases e2
   |some i2=>
    have r:=hf i2 M (a++[j]) hn he ab af yw;have nf:=fun C=>hno C i2 M (a++[j]);show FmOk aa m i (j::js) M a (if (f i2 M (a++[j])).1=true then _ else _);generalize f i2 M (a++[j])=q at r nf;obtain⟨b,M',a'⟩:=q;cases b with
    |true=>
     obtain⟨y1,y2,y3,y4⟩:=r.yes rfl;rw[cb rfl];have ej:lkA M' j=some i2:=(y4 j yv).trans h;simp only at y1 y2 y3 y4 ⊢;obtain⟨A,B,e1,e2⟩:=xQ (i:=i) y1 ej;refine⟨fun x mx=>r.sub x (ba _ mx),r.nd,r.lt,fun z=>(nomatch z),fun _=>⟨?_,?_,?_,?_⟩,fun _ C hc x mx=>?_⟩
     ·show KN (ptA M' j i);rw[e2];rw[e1]at y1;unfold KN at y1 ⊢;simpa using y1
     ·show Ed aa (ptA M' j i);rw[e2];intro p mp;rw[e1]at y2;rcases mem_append.mp mp with mp|mp
      ·exact y2 p (ba _ mp)
      ·rcases mem_cons.mp mp with rfl|mp
       ·exact hj
       ·exact y2 p (bd _ (bc _ mp))
     ·show ((ptA M' j i).map (·.2)).Perm _;rw[e2];rw[e1,dw,ck]at y3;rw[dw,ck];have z:(i2::(A.map (·.2)++B.map (·.2))).Perm (i2::M.map (·.2)):=List.perm_middle.symm.trans y3;exact List.perm_middle.trans (List.Perm.cons i ((List.perm_cons i2).mp z))
     ·intro x mx;exact(nO y1 fun e=>ja (by rw[<- e];exact mx)).trans (y4 x (ba _ mx))
     ·refine(nO y1 fun e=>?_).trans (r.cl rfl C hc x mx);subst e;obtain⟨i3,e3,ag⟩:=hc x mx;rw[h]at e3;cases e3;exact Bool.noConfusion (nf C hc ag)
    |false=>
     obtain⟨n1,n2,n3⟩:=r.no rfl;simp only at n1 n2 n3;subst n1;rw[bu yv];have la:a.length<=a'.length:=dY an fun x mx=>r.sub x (ba _ mx);have s:=rS hf hno js M' a' ae ac hn he r.nd r.lt yw;refine⟨fun x mx=>s.sub x (r.sub x (ba _ mx)),s.nd,s.lt,fun z=>?_,fun z=>?_,s.cl⟩
     ·obtain⟨s1,s2,s3⟩:=s.no z;refine⟨s1,fun x mx=>?_,fun x mx=>?_⟩
      ·rcases mem_cons.mp mx with rfl|mx
       ·exact s.sub _ (r.sub _ yv)
       ·exact s2 x mx
      ·rcases s3 x mx with w|w
       ·rcases n3 x w with v|⟨i3,v1,v2⟩
        ·rcases mem_append.mp v with v|v
         ·exact .inl v
         ·rw[mem_singleton.mp v];exact .inr ⟨i2,h,fun j2 m2=>s.sub _ (n2 j2 m2)⟩
        ·exact .inr ⟨i3,v1,fun j2 m2=>s.sub _ (v2 j2 m2)⟩
       ·exact .inr w
     ·obtain⟨s1,s2,s3,s4⟩:=s.yes z;exact⟨s1,s2,s3,fun x mx=>s4 x (r.sub x (ba _ mx))⟩
theorem oZ{p:List (List Nat)}{m:Nat}(hr:∀i,∀j∈aB p i,j<m):∀n i M a,KN M->Ed p M->a.Nodup->(∀j∈a,j<m)->m<n+a.length->FmOk p m i (aB p i) M a (fm p n i M a)
 | 0,i,M,a,_,_,an,al,h=>by
  have:=dY (l':=cp m) an fun x mx=>mem_range.mpr (al x mx);rw[gh]at this;omega
 |n+1,i,M,a,hn,he,an,al,h=>rS (K:=m+1-n) (fun i2 M a hn he an al hk=>oZ hr n i2 M a hn he an al yw) (fun C i2 M a hc hj=>(vT n i2 M a hc hj).1) (aB p i) M a (fun _ h=>h) (hr i) hn he an al yw
def mmN(p:List (List Nat))(n:Nat):Nat->Mt
 | 0=>[]
 |k+1=>(fm p n k (mmN p n k) []).2.1
structure MmOk(rows:List (List Nat))(k:Nat)(M:Mt):Prop where
 kn:KN M
 ed:Ed rows M
 vn:(M.map (·.2)).Nodup
 vl:∀p∈M,p.2<k
 cv:∃C,Cl rows M C/\∀i,i<k->i∉M.map (·.2)->∀j∈aB rows i,j∈C
theorem mN{y:List (List Nat)}{m n:Nat}(hr:∀i,∀j∈aB y i,j<m)(hn:m<n):∀k,MmOk y k (mmN y n k)
 | 0=>⟨gn,fun p h=>(nomatch h),gn,fun p h=>(nomatch h),[],fun j h=>(nomatch h),fun i h=>(nomatch h)⟩
 |k+1=>by
  have o:=mN hr hn k;have r:=oZ hr n k (mmN y n k) [] o.kn o.ed gn (fun j h=>(nomatch h)) (by simpa using hn);show MmOk y (k+1) (fm y n k (mmN y n k) []).2.1;generalize mmN y n k=M at o r ⊢;generalize fm y n k M []=q at r ⊢;obtain⟨b,M',a'⟩:=q;obtain⟨C,hc,hu⟩:=o.cv;cases b with
  |true=>
   obtain⟨y1,y2,y3,_⟩:=r.yes rfl;have y4:=r.cl rfl C hc;simp only at y1 y2 y3 y4 ⊢;have nk:k∉M.map (·.2):=fun h=>by
    obtain⟨p,mp,e⟩:=mem_map.mp h;have:=o.vl p mp;omega
   refine⟨y1,y2,y3.nodup_iff.mpr (nodup_cons.mpr ⟨nk,o.vn⟩),fun p mp=>?_,C,fun j hj=>?_,fun i hi ni j hj=>?_⟩
   ·have:=y3.mem_iff.mp (io mp);rcases mem_cons.mp this with e|e
    ·omega
    ·obtain⟨p',ab,e'⟩:=mem_map.mp e;have:=o.vl p' ab;omega
   ·obtain⟨i,e,h⟩:=hc j hj;exact⟨i,(y4 j hj).trans e,h⟩
   ·have aa:i∉k::M.map (·.2):=fun h=>ni (y3.mem_iff.mpr h);rw[jr,not_or]at aa;exact hu i yw aa.2 j hj
  |false=>
   obtain⟨n1,n2,n3⟩:=r.no rfl;simp only at n1 n2 n3 ⊢;subst n1;refine⟨o.kn,o.ed,o.vn,fun p mp=>by have:=o.vl p mp;omega,C++a',fun j hj=>?_,fun i hi ni j hj=>?_⟩
   ·rcases mem_append.mp hj with h|h
    ·obtain⟨i,e,w⟩:=hc j h;exact⟨i,e,fun j2 m2=>ba _ (w j2 m2)⟩
    ·rcases n3 j h with z|⟨i,e,w⟩
     ·cases z
     ·exact⟨i,e,fun j2 m2=>bd _ (w j2 m2)⟩
   ·by_cases e:i=k
    ·subst e;exact bd _ (n2 j hj)
    ·exact ba _ (hu i yw ni j hj)
theorem gC{α β:Type}{f:α->β}:∀{l:List α},l.Nodup->(∀x∈l,∀y∈l,f x=f y->x=y)->(l.map f).Nodup
 | [],_,_=>gn
 |x::l,nd,h=>by
  rw[iu]at nd;rw[ck,iu];refine⟨fun z=>?_,gC nd.2 fun a ma b mb=>h a (bc _ ma) b (bc _ mb)⟩;obtain⟨y,my,e⟩:=mem_map.mp z;have:=h y (bc _ my) x bn e;exact nd.1 (this▸my)
theorem jY{α β:Type}{f:α->β}:∀{l:List α},(l.map f).Nodup->l.Nodup
 | [],_=>gn
 |x::l,h=>by
  rw[ck,iu]at h;exact nodup_cons.mpr ⟨fun m=>h.1 (io m),jY h.2⟩
theorem gP{α β:Type}{f:α->β}:∀{l:List α},(l.map f).Nodup->∀{x y:α},x∈l->y∈l->f x=f y->x=y
 | [],_,_,_,m,_,_=>nomatch m
 |a::l,nd,x,y,mx,my,e=>by
  rw[ck,iu]at nd;rcases mem_cons.mp mx with z|z
  ·rcases mem_cons.mp my with w|w
   ·rw[z,w]
   ·rw[z]at e;exact absurd (by rw[e];exact io w) nd.1
  ·rcases mem_cons.mp my with w|w
   ·rw[w]at e;exact absurd (by rw[<- e];exact io z) nd.1
   ·exact gP nd.2 z w e
theorem E7{aa:List (List Nat)}{k:Nat}{M M2:Mt}(o:MmOk aa k M)(k2:KN M2)(e2:Ed aa M2)(v2:(M2.map (·.2)).Nodup)(l2:∀p∈M2,p.2<k):M2.length<=M.length:=by
 obtain⟨C,hc,hu⟩:=o.cv;have ex:∀p∈M2,∃q∈M,(p.1∈C->q.1=p.1)/\(p.1∉C->q.2=p.2/\q.1∉C):=fun p mp=>by
  by_cases h:p.1∈C
  ·obtain⟨i,e,_⟩:=hc p.1 h;exact⟨(p.1,i),mW e,fun _=>rfl,fun z=>absurd h z⟩
  ·by_cases h2:p.2∈M.map (·.2)
   ·obtain⟨q,mq,eq⟩:=mem_map.mp h2;refine⟨q,mq,fun z=>absurd z h,fun _=>⟨eq,fun z=>?_⟩⟩;obtain⟨i,e,w⟩:=hc q.1 z;have:=gP o.kn mq (mW e) rfl;rw[this]at eq;simp only at eq;subst eq;exact h (w p.1 (e2 p mp))
   ·exact absurd (hu p.2 (l2 p mp) h2 p.1 (e2 p mp)) h
 have pick:∃f:Nat×Nat->Nat×Nat,∀p∈M2,f p∈M/\(p.1∈C->(f p).1=p.1)/\(p.1∉C->(f p).2=p.2/\(f p).1∉C):=by
  refine⟨fun p=>if h:p∈M2 then Classical.choose (ex p h)else p,fun p mp=>?_⟩;simp only[mp,dif_pos];exact Classical.choose_spec (ex p mp)
 obtain⟨f,hf⟩:=pick;have nd:(M2.map f).Nodup:=gC (jY k2) fun x mx y my e=>by
  obtain⟨x1,x2,x3⟩:=hf x mx;obtain⟨y1,y2,y3⟩:=hf y my;by_cases hx:x.1∈C
  ·by_cases hy:y.1∈C
   ·exact gP k2 mx my (by rw[<- x2 hx,<- y2 hy,e])
   ·exact absurd (by rw[<- e,x2 hx];exact hx) (y3 hy).2
  ·by_cases hy:y.1∈C
   ·exact absurd (by rw[e,y2 hy];exact hy) (x3 hx).2
   ·exact gP v2 mx my (by rw[<- (x3 hx).1,<- (y3 hy).1,e])
 have:=dY (l':=M) nd fun z mz=>by
  obtain⟨p,mp,rfl⟩:=mem_map.mp mz;exact(hf p mp).1
 rwa [bo]at this
inductive Ma:Nat->List (List Nat)->List Nat->List (Nat×Nat)->Prop
 |nil {i u}:Ma i [] u []
 |skip {i r rs u s}:Ma (i+1) rs u s->Ma i (r::rs) u s
 |take {i r rs u j s}:j∈r->j∉u->Ma (i+1) rs (u++[j]) s->Ma i (r::rs) u ((i,j)::s)
def frR(u:List Nat)(r:List Nat):List Nat:=r.filter fun j=>decide (j∉u)
def frs8(u:List Nat)(p:List (List Nat)):List (List Nat):=p.map (frR u)
theorem nG(u:List Nat)(p:List (List Nat))(i:Nat):aB (frs8 u p) i=frR u (aB p i):=by
 unfold aB frs8;rw[bz,bz,eg];cases p[i]?<;>rfl
theorem cN{u r:List Nat}{j:Nat}:j∈frR u r↔j∈r/\j∉u:=by
 unfold frR;rw[mem_filter,decide_eq_true_eq]
theorem Ma.facts{i:Nat}{q:List (List Nat)}{u:List Nat}{s:List (Nat×Nat)}(h:Ma i q u s):(∀p∈s,i<=p.1/\p.1<i+q.length/\p.2∈aB q (p.1-i)/\p.2∉u)/\(s.map (·.1)).Nodup/\(s.map (·.2)).Nodup:=by
 induction h with
 |nil=>exact⟨fun p m=>(nomatch m),gn,gn⟩
 | @skip i r rs u s _ ih=>
  refine⟨fun p m=>?_,ih.2⟩;obtain⟨h1,h2,h3,h4⟩:=ih.1 p m;refine⟨yw,by rw[br];omega,?_,h4⟩;have e:p.1-i=(p.1-(i+1))+1:=yw
  rw[e];simpa[aB]using h3
 | @take i r rs u j s hj hu _ ih=>
  refine⟨fun p m=>?_,?_,?_⟩
  ·rcases mem_cons.mp m with rfl|m
   ·refine⟨bp _,yv,?_,hu⟩;simpa[aB]using hj
   ·obtain⟨h1,h2,h3,h4⟩:=ih.1 p m;refine⟨yw,by rw[br];omega,?_,fun z=>h4 (ba _ z)⟩;have e:p.1-i=(p.1-(i+1))+1:=yw
    rw[e];simpa[aB]using h3
  ·rw[ck,iu];refine⟨fun z=>?_,ih.2.1⟩;obtain⟨p,mp,e⟩:=mem_map.mp z;have:=(ih.1 p mp).1;simp only at e;omega
  ·rw[ck,iu];refine⟨fun z=>?_,ih.2.2⟩;obtain⟨p,mp,e⟩:=mem_map.mp z;have:=(ih.1 p mp).2.2.2;simp only at e;rw[e]at this;exact this yv
theorem Ma.mt{i:Nat}{z:List (List Nat)}{u:List Nat}{s:List (Nat×Nat)}(h:Ma i z u s):KN (s.map fun p=>(p.2,p.1-i))/\Ed (frs8 u z) (s.map fun p=>(p.2,p.1-i))/\((s.map fun p=>(p.2,p.1-i)).map (·.2)).Nodup/\∀p∈s.map fun p=>(p.2,p.1-i),p.2<z.length:=by
 obtain⟨f,n1,n2⟩:=h.facts;refine⟨?_,fun p m=>?_,?_,fun p m=>?_⟩
 ·unfold KN;rw[jb];exact n2
 ·obtain⟨q,mq,rfl⟩:=mem_map.mp m;obtain⟨h1,h2,h3,h4⟩:=f q mq;show q.2∈aB (frs8 u z) (q.1-i);rw[nG];exact cN.mpr ⟨h3,h4⟩
 ·rw[jb];refine gC (jY n1) fun x mx y my e=>?_;obtain⟨x1,_⟩:=f x mx;obtain⟨y1,_⟩:=f y my;simp only[Function.comp_apply]at e;exact gP n1 mx my yw
 ·obtain⟨q,mq,rfl⟩:=mem_map.mp m;obtain⟨h1,h2,_⟩:=f q mq;show q.1-i<z.length;omega
theorem sL{α:Type}{A B:List α}{x:α}(h:(A++x::B).Nodup):(A++B).Nodup/\x∉A++B:=by
 rw[List.perm_middle.nodup_iff,iu]at h;exact⟨h.2,h.1⟩
theorem r9:∀(rows:List (List Nat)) (i:Nat) (u:List Nat) (M:Mt),KN M->Ed (frs8 u rows) M->(M.map (·.2)).Nodup->(∀p∈M,p.2<rows.length)->∃s,Ma i rows u s/\s.length=M.length
 | [],i,u,M,_,_,_,hl=>by
  cases M with
  |nil=>exact⟨[],.nil,rfl⟩
  |cons p M=>exact absurd (hl p bn) yv
 |r::rs,i,u,M,hk,he,hv,hl=>by
  have ab:∀k,aB (frs8 u (r::rs)) (k+1)=aB (frs8 u rs) k:=fun k=>by simp[aB,frs8]
  by_cases h0:0∈M.map (·.2)
  ·obtain⟨p,mp,e0⟩:=mem_map.mp h0;obtain⟨j,i0⟩:=p;simp only at e0;subst e0;obtain⟨A,B,rfl⟩:=List.append_of_mem mp;have hj:=he _ mp;rw[nG]at hj;obtain⟨ae,ac⟩:=cN.mp hj;unfold KN at hk;rw[dw,ck]at hk hv;obtain⟨k1,k2⟩:=sL hk;obtain⟨v1,v2⟩:=sL hv;rw[<- dw]at k1 k2 v1 v2;have pos:∀q∈A++B,1<=q.2:=fun q mq=>by
    rcases Nat.eq_zero_or_pos q.2 with z|z
    ·exact absurd (mem_map.mpr ⟨q,mq,z⟩) v2
    ·exact z
   have sub:∀q∈A++B,q∈A++(j,0)::B:=fun q mq=>by
    rcases mem_append.mp mq with z|z
    ·exact ba _ z
    ·exact bd _ (bc _ z)
   obtain⟨s,hs,ls⟩:=r9 rs (i+1) (u++[j]) ((A++B).map fun q=>(q.1,q.2-1)) (by unfold KN;rw[jb];exact k1) (fun q mq=>by
     obtain⟨q',aa,rfl⟩:=mem_map.mp mq;have h1:=he q' (sub q' aa);have h2:=pos q' aa;have e:q'.2=(q'.2-1)+1:=yw
     rw[e,ab,nG]at h1;show q'.1∈aB (frs8 (u++[j]) rs) (q'.2-1);rw[nG];obtain⟨h3,h4⟩:=cN.mp h1;refine cN.mpr ⟨h3,fun z=>?_⟩;rcases mem_append.mp z with z|z
     ·exact h4 z
     ·exact k2 (mem_map.mpr ⟨q',aa,mem_singleton.mp z⟩)) (by
     rw[jb];refine gC (jY v1) fun x mx y my e=>?_;have:=pos x mx;have:=pos y my;simp only[Function.comp_apply]at e;exact gP v1 mx my yw) (fun q mq=>by
     obtain⟨q',aa,rfl⟩:=mem_map.mp mq;have h1:=hl q' (sub q' aa);have h2:=pos q' aa;rw[br]at h1;show q'.2-1<rs.length;omega)
   refine⟨(i,j)::s,.take ?_ ac hs,?_⟩
   ·simpa[aB]using ae
   ·rw[bo,bx]at ls;rw[br,bx,br,ls];omega
  ·have pos:∀q∈M,1<=q.2:=fun q mq=>by
    rcases Nat.eq_zero_or_pos q.2 with z|z
    ·exact absurd (mem_map.mpr ⟨q,mq,z⟩) h0
    ·exact z
   obtain⟨s,hs,ls⟩:=r9 rs (i+1) u (M.map fun q=>(q.1,q.2-1)) (by unfold KN;rw[jb];exact hk) (fun q mq=>by
     obtain⟨q',aa,rfl⟩:=mem_map.mp mq;have h1:=he q' aa;have h2:=pos q' aa;have e:q'.2=(q'.2-1)+1:=yw
     rw[e,ab]at h1;exact h1) (by
     rw[jb];refine gC (jY hv) fun x mx y my e=>?_;have:=pos x mx;have:=pos y my;simp only[Function.comp_apply]at e;exact gP hv mx my yw) (fun q mq=>by
     obtain⟨q',aa,rfl⟩:=mem_map.mp mq;have h1:=hl q' aa;have h2:=pos q' aa;rw[br]at h1;show q'.2-1<rs.length;omega)
   exact⟨s,.skip hs,by rw[ls,bo]⟩
def nu(n:Nat)(p:List (List Nat)):Nat:=(mmN p n p.length).length
def Bd(m:Nat)(p:List (List Nat)):Prop:=∀r∈p,∀j∈r,j<m
theorem Bd.row{m:Nat}{p:List (List Nat)}(h:Bd m p):∀i,∀j∈aB p i,j<m:=fun i j hj=>by
 unfold aB at hj;rw[bz]at hj;cases e:p[i]? with
 |none=>rw[e]at hj;cases hj
 |some r=>rw[e]at hj;exact h r (cf e) j hj
theorem Bd.fr{m:Nat}{p:List (List Nat)}(h:Bd m p)(u:List Nat):Bd m (frs8 u p):=fun r hr j hj=>by
 obtain⟨r',mr,rfl⟩:=mem_map.mp hr;exact h r' mr j (cN.mp hj).1
theorem rP(u:List Nat)(p:List (List Nat)):(frs8 u p).length=p.length:=bo ..
theorem iJ{m n i:Nat}{p:List (List Nat)}{u:List Nat}{s:List (Nat×Nat)}(hb:Bd m p)(hn:m<n)(h:Ma i p u s):s.length<=nu n (frs8 u p):=by
 obtain⟨k1,e1,v1,l1⟩:=h.mt;have:=E7 (mN (hb.fr u).row hn (frs8 u p).length) k1 e1 v1 (by rw[rP];exact l1)
 rwa [bo]at this
theorem oU{m n:Nat}{p:List (List Nat)}{u:List Nat}(i:Nat)(hb:Bd m p)(hn:m<n):∃s,Ma i p u s/\s.length=nu n (frs8 u p):=by
 have o:=mN (hb.fr u).row hn (frs8 u p).length;exact r9 p i u _ o.kn o.ed o.vn (by have:=o.vl;rw[rP]at this ⊢;exact this)
def gr(n:Nat):List (List Nat)->Nat->List Nat->Nat->List (Nat×Nat)
 | [],_,_,_=>[]
 |r::rs,i,u,w=>match (frR u r).find? fun j=>decide (nu n (frs8 (u++[j]) rs)+1=w)with
  |some j=>(i,j)::gr n rs (i+1) (u++[j]) (w-1)
  |none=>gr n rs (i+1) u w
def ltP(p q:Nat×Nat):Prop:=p.1<q.1\/(p.1=q.1/\p.2<q.2)
def leL:List (Nat×Nat)->List (Nat×Nat)->Prop
 | [],_=>True
 |_::_,[]=>False
 |p::s,q::t=>ltP p q\/(p=q/\leL s t)
theorem DY{l:List Nat}{P:Nat->Bool}(hs:l.Pairwise (· < ·)){j j':Nat}(h:l.find? P=some j)(m:j'∈l)(hp:P j'=true):j<=j':=by
 induction l with
 |nil=>cases m
 |cons x l ih=>
  rw[List.pairwise_cons]at hs;by_cases hx:P x=true
  ·rw[List.find?_cons_of_pos hx]at h;cases h;rcases mem_cons.mp m with rfl|m
   ·exact bp _
   ·exact gu (hs.1 j' m)
  ·rw[jo hx]at h;rcases mem_cons.mp m with rfl|m
   ·exact absurd hp hx
   ·exact ih hs.2 h m
theorem pU{m n:Nat}(hn:m<n):∀(rows:List (List Nat)) (i:Nat) (u:List Nat) (w:Nat),Bd m rows->(∀r∈rows,r.Pairwise (· < ·))->w=nu n (frs8 u rows) ->
  Ma i rows u (gr n rows i u w)/\(gr n rows i u w).length=w/\∀s,Ma i rows u s->s.length=w->leL (gr n rows i u w) s
 | [],i,u,w,_,_,hw=>⟨.nil,by rw[hw];rfl,fun s _ _=>trivial⟩
 |r::rs,i,u,w,hb,hr,hw=>by
  have p:Bd m rs:=fun x h=>hb x (bc _ h);have y:∀x∈rs,x.Pairwise (· < ·):=fun x h=>hr x (bc _ h);have up:∀j t,j∈r->j∉u->Ma (i+1) rs (u++[j]) t->t.length+1=w->nu n (frs8 (u++[j]) rs)+1=w:=fun j t hj hu ht hl=>by
   have h1:=iJ p hn ht;obtain⟨s,hs,ls⟩:=oU (u:=u++[j]) (i+1) p hn;have h2:=iJ hb hn (Ma.take hj hu hs);rw[br,<- hw]at h2;omega
  have sr:(frR u r).Pairwise (· < ·):=(hr r bn).sublist im;unfold gr;cases hf:(frR u r).find? fun j=>decide (nu n (frs8 (u++[j]) rs)+1=w)with
  |some j=>
   have h0:=find?_some hf;have hj:=ig h0;obtain⟨j1,j2⟩:=cN.mp (List.mem_of_find?_eq_some hf);obtain⟨g1,g2,g3⟩:=pU hn rs (i+1) (u++[j]) (w-1) p y yw;refine⟨.take j1 j2 g1,by rw[br,g2];omega,fun s hs ls=>?_⟩;cases hs with
   |skip h=>
    have aa:=h.facts.1;cases s with
    |nil=>simp at ls;omega
    |cons q t=>
     have:=(aa q bn).1;exact .inl (.inl (by show i<q.1;omega))
   | @take _ _ _ _ j' t k1 k2 h=>
    rw[br]at ls;have e:=up j' t k1 k2 h ls;have le:=DY sr hf (cN.mpr ⟨k1,k2⟩) (fc e);rcases Nat.lt_or_ge j j' with z|z
    ·exact .inl (.inr ⟨rfl,z⟩)
    ·have ej:j'=j:=yw
     subst ej;exact .inr ⟨rfl,g3 t h yw⟩
  |none=>
   have no:∀j t,j∈r->j∉u->Ma (i+1) rs (u++[j]) t->t.length+1≠w:=fun j t hj hu ht hl=>by
    have e:=up j t hj hu ht hl;rw[List.find?_eq_none]at hf;exact hf j (cN.mpr ⟨hj,hu⟩) (fc e)
   have ew:w=nu n (frs8 u rs):=by
    obtain⟨s,hs,ls⟩:=oU (u:=u) i hb hn;rw[<- hw]at ls;have le:nu n (frs8 u rs)<=w:=by
     obtain⟨s',ab,ac⟩:=oU (u:=u) (i+1) p hn;have:=iJ hb hn (Ma.skip (r:=r) ab);rw[<- hw]at this;omega
    cases hs with
    |skip h=>
     have:=iJ p hn h;omega
    |take k1 k2 h=>exact absurd (by rw[br]at ls;exact ls) (no _ _ k1 k2 h)
   obtain⟨g1,g2,g3⟩:=pU hn rs (i+1) u w p y ew;refine⟨.skip g1,g2,fun s hs ls=>?_⟩;cases hs with
   |skip h=>exact g3 s h ls
   |take k1 k2 h=>exact absurd (by rw[br]at ls;exact ls) (no _ _ k1 k2 h)
def cR:Nat->List (List Nat)->List (Nat×Nat)
 |_,[]=>[]
 |i,r::rs=>r.map (fun j=>(i,j))++cR (i+1) rs
def cfl(p q:Nat×Nat):Bool:=decide (p.1=q.1)||decide (p.2=q.2)
def fC(F:List (List (Nat×Nat)))(p:Nat×Nat):List (List (Nat×Nat)):=F++(F.filter fun s=>!(s.any (cfl p))).map (· ++ [p])
def lm(p:List (Nat×Nat)):List (List (Nat×Nat)):=p.foldl fC [[]]
theorem nZ(d:List (Nat×Nat))(p:Nat×Nat):lm (d++[p])=fC (lm d) p:=by
 unfold lm;rw[List.foldl_append];rfl
theorem pA{α:Type}{P:List α->Prop}(h0:P [])(h1:∀l x,P l->P (l++[x]))(l:List α):P l:=by
 have:∀n,n<=l.length->P (l.take n):=by
  intro n;induction n with
  |zero=>intro _;rw[take_zero];exact h0
  |succ n ih=>
   intro h;rw[List.take_add_one,bg (show n<l.length by omega)];exact h1 _ _ (ih yw)
 have:=this l.length (bp _)
 rwa [take_length]at this
def Fr(s:List (Nat×Nat)):Prop:=s.Pairwise fun a b=>cfl b a=false
theorem qH(d:List (Nat×Nat)):∀s,s∈lm d↔s.Sublist d/\Fr s:=by
 induction d using pA with
 |h0=>
  intro s;show s∈[[]]↔_;rw[mem_singleton];constructor
  ·rintro rfl;exact⟨List.Sublist.refl _,List.Pairwise.nil⟩
  ·rintro⟨h,_⟩;exact List.sublist_nil.mp h
 |h1 d p ih=>
  intro s;rw[nZ];unfold fC;rw[mem_append,ih,mem_map];constructor
  ·rintro(⟨h1,h2⟩|⟨t,mt,rfl⟩)
   ·exact⟨h1.trans (List.sublist_append_left ..),h2⟩
   ·rw[mem_filter,ih]at mt;obtain⟨⟨h1,h2⟩,h3⟩:=mt;refine⟨List.Sublist.append h1 (List.Sublist.refl _),?_⟩;unfold Fr;rw[List.pairwise_append];refine⟨h2,List.pairwise_singleton ..,fun a ma b mb=>?_⟩;rw[mem_singleton.mp mb];rw[Bool.not_eq_true',List.any_eq_false]at h3;have:=h3 a ma;simpa using this
  ·rintro⟨h1,h2⟩;obtain⟨s1,s2,rfl,a1,a2⟩:=List.sublist_append_iff.mp h1;unfold Fr at h2;rw[List.pairwise_append]at h2;have a3:s2=[]\/s2=[p]:=by
    cases a2 with
    |cons _ h=>exact .inl (List.sublist_nil.mp h)
    |cons_cons _ h=>exact .inr (by rw[List.sublist_nil.mp h])
   rcases a3 with rfl|rfl
   ·exact .inl ⟨by simpa using a1,by simpa[Fr]using h2.1⟩
   ·refine .inr ⟨s1,?_,rfl⟩;rw[mem_filter,ih];refine⟨⟨a1,h2.1⟩,?_⟩;rw[Bool.not_eq_true',List.any_eq_false];intro a ma;have:=h2.2.2 a ma p bn;simpa using this
theorem yP:∀{s:List (Nat×Nat)},(s.map (·.1)).Nodup->(s.map (·.2)).Nodup->Fr s
 | [],_,_=>List.Pairwise.nil
 |p::s,h1,h2=>by
  rw[ck,iu]at h1 h2;refine List.Pairwise.cons (fun b mb=>?_) (yP h1.2 h2.2);unfold cfl;rw[ci (fun z=>h1.1 (mem_map.mpr ⟨b,mb,z⟩)),ci (fun z=>h2.1 (mem_map.mpr ⟨b,mb,z⟩))];rfl
theorem Ma.sub{i:Nat}{p:List (List Nat)}{u:List Nat}{s:List (Nat×Nat)}(h:Ma i p u s):s.Sublist (cR i p):=by
 induction h with
 |nil=>exact List.Sublist.refl _
 |skip _ ih=>exact ih.trans (List.sublist_append_right ..)
 | @take i r rs u j s hj hu _ ih=>exact List.Sublist.append (l₁:=[(i,j)]) (List.singleton_sublist.mpr (mem_map.mpr ⟨j,hj,rfl⟩)) ih
theorem rY:∀{rows:List (List Nat)}{i:Nat}{u:List Nat}{s:List (Nat×Nat)},s.Sublist (cR i rows)->Fr s->(∀p∈s,p.2∉u)->Ma i rows u s
 | [],i,u,s,h,_,_=>by
  rw[List.sublist_nil.mp h];exact .nil
 |r::rs,i,u,s,h,hf,hu=>by
  obtain⟨s1,s2,rfl,a1,a2⟩:=List.sublist_append_iff.mp h;unfold Fr at hf;rw[List.pairwise_append]at hf;have f1:∀p∈s1,p.1=i/\p.2∈r:=fun p mp=>by
   obtain⟨j,mj,rfl⟩:=mem_map.mp (a1.subset mp);exact⟨rfl,mj⟩
  cases s1 with
  |nil=>exact .skip (rY a2 hf.2.1 fun p mp=>hu p (by simpa using mp))
  |cons p s1=>
   cases s1 with
   |nil=>
    obtain⟨e1,e2⟩:=f1 p bn;obtain⟨p1,p2⟩:=p;simp only at e1 e2;subst e1;refine .take e2 (hu (p1,p2) yv) (rY a2 hf.2.1 fun q mq=>?_);intro z;rcases mem_append.mp z with z|z
    ·exact hu q (bc _ mq) z
    ·have:=hf.2.2 (p1,p2) bn q mq;unfold cfl at this;rw[Bool.or_eq_false_iff]at this;exact of_decide_eq_false this.2 (mem_singleton.mp z)
   |cons q s1=>
    have h1:=(f1 p bn).1;have h2:=(f1 q yv).1;have:=(List.pairwise_cons.mp hf.1).1 q bn;unfold cfl at this;rw[Bool.or_eq_false_iff]at this;exact absurd (h2.trans h1.symm) (of_decide_eq_false this.1)
theorem sG{q:List (List Nat)}{s:List (Nat×Nat)}:s∈lm (cR 0 q)↔Ma 0 q [] s:=by
 rw[qH];constructor
 ·rintro⟨h1,h2⟩;exact rY h1 h2 fun p _=>by simp
 ·intro h;exact⟨h.sub,yP h.facts.2.1 h.facts.2.2⟩
def cS:Nat->Nat->Nat
 | 0,_=>1
 |k+1,t=>cS k t+t*cS k (t-1)
def jA:List (List Nat)->Nat->List Nat->List (List (Nat×Nat))
 | [],_,_=>[[]]
 |r::rs,i,u=>jA rs (i+1) u++(frR u r).flatMap fun j=>(jA rs (i+1) (u++[j])).map ((i,j) :: ·)
theorem D9{p:List (List Nat)}{i:Nat}{u:List Nat}{s:List (Nat×Nat)}(h:Ma i p u s):s∈jA p i u:=by
 induction h with
 |nil=>exact mem_singleton.mpr rfl
 |skip _ ih=>exact ba _ ih
 | @take i r rs u j s hj hu _ ih=>exact bd _ (List.mem_flatMap.mpr ⟨j,cN.mpr ⟨hj,hu⟩,mem_map.mpr ⟨s,ih,rfl⟩⟩)
theorem jE:∀(k:Nat) {t t':Nat},t<=t'->cS k t<=cS k t'
 | 0,_,_,_=>bp _
 |k+1,t,t',h=>Nat.add_le_add (jE k h) (mul_le_mul h (jE k yw))
def frc(m:Nat)(u:List Nat):List Nat:=(cp m).filter fun j=>decide (j∉u)
theorem Cq{m:Nat}{u:List Nat}{j:Nat}(hj:j<m)(hu:j∉u):(frc m (u++[j])).length<=(frc m u).length-1:=by
 have mj:j∈frc m u:=mem_filter.mpr ⟨mem_range.mpr hj,fc hu⟩;have:=dY (l:=frc m (u++[j])) (l':=(frc m u).erase j) (List.nodup_range.sublist im) fun x mx=>by
  obtain⟨x1,x2⟩:=mem_filter.mp mx;have x3:=ig x2;have ne:x≠j:=fun e=>x3 (by simp[e]);exact(List.mem_erase_of_ne ne).mpr (mem_filter.mpr ⟨x1,fc fun z=>x3 (ba _ z)⟩)
 rwa [List.length_erase_of_mem mj]at this
theorem xY{α β:Type}{f:α->List β}{n:Nat}:∀{l:List α},(∀x∈l,(f x).length<=n)->(l.flatMap f).length<=l.length*n
 | [],_=>by simp
 |x::l,h=>by
  rw[flatMap_cons,bx,br,Nat.add_mul,Nat.one_mul];have h1:=h x bn;have h2:=xY (l:=l) fun y m=>h y (bc _ m);omega
theorem qG{m:Nat}:∀(rows:List (List Nat)) (i:Nat) (u:List Nat),Bd m rows->(∀r∈rows,r.Nodup)->(jA rows i u).length<=cS rows.length (frc m u).length
 | [],_,_,_,_=>bp _
 |r::rs,i,u,hb,hr=>by
  have p:Bd m rs:=fun x h=>hb x (bc _ h);have q:∀x∈rs,x.Nodup:=fun x h=>hr x (bc _ h);unfold jA;rw[bx,br,cS];refine Nat.add_le_add (qG rs _ u p q) (dm (xY (n:=cS rs.length ((frc m u).length-1)) fun j mj=>?_) (Nat.mul_le_mul_right _ ?_))
  ·obtain⟨j1,j2⟩:=cN.mp mj;rw[bo];exact dm (qG rs _ _ p q) (jE _ (Cq (hb r bn j j1) j2))
  ·refine dY ((hr r bn).sublist im) fun x mx=>?_;obtain⟨x1,x2⟩:=cN.mp mx;exact mem_filter.mpr ⟨mem_range.mpr (hb r bn x x1),fc x2⟩
theorem BS(d:List (Nat×Nat)):d.Nodup->(lm d).Nodup:=by
 induction d using pA with
 |h0=>exact fun _=>by simp[lm]
 |h1 d p ih=>
  intro nd;rw[ix]at nd;rw[nZ];unfold fC;rw[ix];refine⟨ih nd.1,gC ((ih nd.1).sublist im) fun x _ y _ e=>?_,fun x mx y my e=>?_⟩
  ·exact List.append_cancel_right e
  ·obtain⟨t,mt,rfl⟩:=mem_map.mp my;have h1:=((qH d x).mp mx).1;have:p∈d:=h1.subset (by rw[e];simp);exact nd.2.2 p this p yv rfl
theorem vA:∀{rows:List (List Nat)}{i:Nat}{p:Nat×Nat},p∈cR i rows->i<=p.1
 | [],_,_,h=>nomatch h
 |r::rs,i,p,h=>by
  rcases mem_append.mp h with h|h
  ·obtain⟨j,_,rfl⟩:=mem_map.mp h;exact bp _
  ·have:=vA h;omega
theorem vF:∀(rows:List (List Nat)) (i:Nat),(∀r∈rows,r.Nodup)->(cR i rows).Nodup
 | [],_,_=>gn
 |r::rs,i,h=>by
  unfold cR;rw[ix];refine⟨gC (h r bn) fun x _ y _ e=>congrArg Prod.snd e,vF rs (i+1) fun x m=>h x (bc _ m),fun x mx y my e=>?_⟩;obtain⟨j,_,rfl⟩:=mem_map.mp mx;have:=vA my;rw[<- e]at this;simp only at this;omega
theorem A4{m:Nat}{p:List (List Nat)}(hb:Bd m p)(hr:∀r∈p,r.Nodup):(lm (cR 0 p)).length<=cS p.length m:=by
 refine dm (dY (BS _ (vF p 0 hr)) fun s ms=>D9 (sG.mp ms)) (dm (qG p 0 [] hb hr) (jE _ ?_));exact dm (jy _ _) (by rw[gh];exact bp _)
theorem BN{k k' m m':Nat}(hk:k<=k')(hm:m<=m'):cS k m<=cS k' m':=by
 refine dm ?_ (jE k' hm)
 clear hm
 induction hk with
 |refl=>exact bp _
 |step _ ih=>exact dm ih (Nat.le_add_right _ _)
theorem ED:cS 4 4=209:=rfl
theorem AT(d:List (Nat×Nat)):∀i,(lm (d.take i)).length<=(lm d).length:=fun i=>by
 have:∀e f,(lm e).length<=(lm (e++f)).length:=fun e f=>by
  induction f using pA with
  |h0=>rw[fy];exact bp _
  |h1 f p ih=>
   rw[<- cu,nZ];unfold fC;rw[bx];omega
 have h:=this (d.take i) (d.drop i)
 rwa [List.take_append_drop]at h
end
section
variable {R:RX}
theorem vU{n:Int}(q:∀m,0<=m->R (.d (.int m)) []):jM [.d (.int n)] [] R:=by
 unfold jM;walk_at "e";have h1:=Int.emod_nonneg (n+7919) (show (2147483647:Int)≠0 by decide);have h2:=Int.emod_lt_of_pos (n+7919) (show (0:Int)<2147483647 by decide);exact⟨dE yw yw,dE dz dz,q _ (Int.emod_nonneg _ dz)⟩
theorem zG{p:List av}{n:Int}(hp:bH p)(hn:0<n)(hb:n.natAbs.log2<9000)(q:∀r p',0<=r->r<n->bH p'->R (.d (.int r)) [p']):zt [.l 0,.d (.int n)] [p] R:=by
 obtain⟨l,g,sd,rfl,hl⟩:=hp;unfold zt;walk_at "e";split
 ·refine⟨hn,.inl ⟨⟨hn,hb⟩,0,rfl,?_⟩⟩;walk_at "e";exact q _ _ (Int.emod_nonneg _ yw) (Int.emod_lt_of_pos _ hn) ⟨_,_,_,rfl,Int.ediv_nonneg hl yw⟩
 ·refine vU fun m _=>?_;walk_at "e";refine vU fun m' h'=>?_;walk_at "e";refine⟨2,rfl,?_⟩;walk_at "e";exact .inl ⟨⟨by decide,by decide +kernel⟩,hn,q _ _ (Int.emod_nonneg _ yw) (Int.emod_lt_of_pos _ hn) ⟨_,_,_,rfl,hl⟩⟩
theorem BW{n:Int}(q:∀p,bH p->R (.l 0) [p]):AK [.d (.int n)] [] R:=by
 unfold AK;walk_at "e";refine⟨⟨by decide,by decide,by decide⟩,?_⟩;refine .inr (q _ ⟨_,_,_,rfl,?_⟩);split<;>omega
theorem A5{n:Int}(q:∀p,bH p->R (.l 0) [p]):oJ [.d (.int n)] [] R:=BW q
theorem E6{p:List av}(hp:bH p)(q:∀r p',-10 ^ 58<=r->r<=10 ^ 58->bH p'->R (.d (.int r)) [p']):vJ [.l 0] [p] R:=by
 unfold vJ;walk_at "e";refine zG hp dz (by decide +kernel) fun r p1 r0 r1 z=>?_;walk_at "e";split
 ·refine zG z dz (by decide +kernel) fun r p2 r0 r1 y=>?_;walk_at "e";exact q _ _ yw yw y
 ·split
  ·refine zG z dz (by decide +kernel) fun r p2 r0 r1 y=>?_;walk_at "e";exact q _ _ yw yw y
  ·refine⟨⟨by decide,by decide,by decide⟩,dE dz dz,?_⟩;have k1:(10:Int) ^ 30=1000000000000000000000000000000:=by decide +kernel
   have k2:(10:Int) ^ 28=10000000000000000000000000000:=by decide +kernel
   refine zG z (by decide +kernel) (by decide +kernel) fun r p2 r0 r1 y=>?_;walk_at "e"
   try simp only[k1,k2]at r1 ⊢
   refine⟨⟨by decide,by decide,by decide⟩,⟨by decide,by decide,by decide⟩,FF 128 128 yw (by decide +kernel),q _ _ yw yw y⟩
theorem xJ{p:List av}(hp:bH p)(q:∀r p',-10 ^ 58<=r->r<=10 ^ 58->bH p'->R (.d (.int r)) [p']):nB [.l 0] [p] R:=E6 hp q
end
section
variable {R:RX}
set_option maxHeartbeats 8000000 in
abbrev Part:=Str×Int×Int
theorem xD{α:Type}{f:α->av}{l:List α}{k:Nat}{x:α}(e:l[k]?=some x):atI (l.map f) (k:Int)=some (f x):=gO (by rw[eg,e];rfl)
end
section
variable {R:RX}{S:Sto}
abbrev Term:=Nat×Int
def tmD(t:Term):av:=.tuple [.int t.1,.int t.2]
def mK(ts:List Term):av:=.tuple (ts.map tmD)
structure Gap where
 ts:List Term
 lo:Int
 hi:Int
def bC(g:Gap):av:=.tuple [mK g.ts,.int g.lo,.int g.hi]
theorem oS(g:Gap):bC g=.tuple [mK g.ts,.int g.lo,.int g.hi]:=rfl
theorem E8(t:Term):tmD t=.tuple [.int t.1,.int t.2]:=rfl
def bY(ns:List Int):av:=.tuple (ns.map bq)
structure Tm3(n:Nat)(ts:List Term):Prop where
 len:ts.length<=100
 ok:∀t∈ts,t.1<n/\-3<=t.2/\t.2<=3
def worth(ts:List Term)(ns:List Int):Int:=(ts.map fun t=>t.2*ns.getD t.1 0).sum
theorem Fl{ns:List Int}{k:Nat}(h:k<ns.length):ns[k]?=some (ns.getD k 0):=by
 rw[bg h,bz,bg h];rfl
def part(ps:List Part)(k:Nat):Part:=ps.getD k ("",0,0)
def plo(ps:List Part)(k:Nat):Int:=(part ps k).2.1
def phi(ps:List Part)(k:Nat):Int:=(part ps k).2.2
def tLo(ps:List Part)(t:Term):Int:=min (t.2*plo ps t.1) (t.2*phi ps t.1)
def A6(ps:List Part)(ts:List Term):Int:=(ts.map (tLo ps)).sum
theorem gL{α:Type}{f:α->av}{l:List α}{i:Nat}{d:av}(h:(l.map f)[i]?=some d):∃x,l[i]?=some x/\d=f x:=by
 rw[eg]at h;obtain⟨x,e,rfl⟩:=map_eq_some_iff.mp h;exact⟨x,e,rfl⟩
theorem pP{ds:List av}{r:Int}{P:av->Prop}(h0:0<=r)(h1:r<ds.length)(hP:∀d∈ds,P d):∃d,atI ds r=some d/\P d:=by
 obtain⟨k,rfl⟩:=Int.eq_ofNat_of_zero_le h0;have hk:k<ds.length:=yw
 exact⟨ds[k],gO (bg hk),hP _ (getElem_mem hk)⟩
theorem qM{g:DG}{te:DE}{fin:Sto->Prop}{α:Type}(F:α->Prop)(f:α->av)(P:XE->Prop):∀(ds:List av) (acc:List α) (p:List av) (τ:XE),P τ->bH p->acc.length+ds.length<=1000 ->
  (∀d∈ds,∀ τ p acc (R:XE->RX),P τ->bH p->(∀ τ' x p',P τ'->bH p'->F x->R τ' (.d (f x)) [p',acc])->g (.d d) τ [p,acc] fun τ1 S1=>te τ1 S1 (R τ1)) ->
  (∀xs p',bH p'->(∀x∈xs,F x)->xs.length=ds.length->fin [p',(acc++xs).map f])->aL 1 g aF te fin ds τ [p,acc.map f]
 | [],acc,p,τ,_,hp,_,_,h=>by
  have:=h [] p hp yv rfl;rw[fy]at this;exact this
 |d::ds,acc,p,τ,hP,hp,hl,el,h=>by
  show g (.d d) τ [p,acc.map f] fun τ1 S1=>aF τ1 S1 fun b S2=>if b=true then te τ1 S2 fun x S3=>asD x fun e=>∃acc,S3[1]?=some acc/\acc.length<1000/\aL 1 g aF te fin ds τ1 (S3.set 1 (acc++[e]))else aL 1 g aF te fin ds τ1 S2
  simp only[aF,↓reduceIte];rw[br]at hl;refine el d bn τ p (acc.map f) (fun τ1 x S3=>asD x fun e=>∃acc,S3[1]?=some acc/\acc.length<1000/\aL 1 g aF te fin ds τ1 (S3.set 1 (acc++[e]))) hP hp fun τ' x p' q z hF=>?_;refine⟨acc.map f,rfl,by rw[bo];omega,?_⟩;have e:([p',acc.map f]:Sto).set 1 (acc.map f++[f x])=[p',(acc++[x]).map f]:=by simp
  rw[e];refine qM F f P ds (acc++[x]) p' τ' q z (by rw[bx,fe];omega) (fun e m=>el e (bc _ m)) fun xs p'' hp'' fs hl=>?_;rw[cu];exact h (x::xs) p'' hp'' (fun y m=>(mem_cons.mp m).elim (fun e=>e▸hF) (fs y)) (by simp[hl])
end
section
variable {R:RX}{S:Sto}
theorem El{g:Gap}{ns:List Int}(h3:Tm3 ns.length g.ts)(q:R (.d (.int (worth g.ts ns))) []):n8 [.d (bC g),.d (bY ns)] [] R:=by
 unfold n8 bY;rw[oS,mK];walk_at "e";refine cmp2 (S0:=[]) (fun t:Term=>.int (t.2*ns.getD t.1 0)) rfl g.ts (by have:=h3.len;omega) ?_ ?_
 ·intro t mt u v acc R' hk;obtain⟨t1,t2,t3⟩:=h3.ok t mt;have e:=xD (f:=bq) (Fl t1);rw[E8];walk_at "e";refine⟨_,e,?_⟩;walk_at "e";exact⟨dE yw yw,hk _ _⟩
 ·walk_at "e";refine⟨g.ts.map fun t:Term=>t.2*ns.getD t.1 0,by rw[jb];rfl,q⟩
def cU(g:Gap)(ns:List Int):Bool:=decide (g.lo<=worth g.ts ns/\worth g.ts ns<=g.hi)
theorem C3{g:Gap}{ns:List Int}(h3:Tm3 ns.length g.ts)(q:R (.d (.bool (cU g ns))) []):nJ [.d (bC g),.d (bY ns)] [] R:=by
 unfold nJ;walk_at "e";rw[oS];walk_at "e";rw[<- oS];refine El h3 ?_;walk_at "e";unfold cU at q;by_cases h:g.lo<=worth g.ts ns
 ·simp only[h,true_and]at q;rw[cb h];exact q
 ·simp only[h,false_and,decide_false]at q;rw[bu h];exact q
def FE(a t:Int):Int:=-(a/(-t))
def pick(ps:List Part)(t:Term)(ts:List Term)(left:Int):Int:=if t.2<0 then max (plo ps t.1) (FE (left-A6 ps ts) t.2)else plo ps t.1
theorem Ao{α:Type}{f:α->av}{ts:List α}{i:Nat}(il:i<ts.length):cY (ts.map f) (some ((i:Int)+1)) none=(ts.drop (i+1)).map f:=by
 have ei:(i:Int)+1=((i+1:Nat):Int):=yw
 unfold cY;have e1:HT.sIx ts.length ts.length none=ts.length:=rfl;rw[bo,ei,e1,HT.sIx_nat,Nat.min_eq_left il,List.take_of_length_le yv,List.map_drop]
end
section
variable {R:RX}{S:Sto}
def EY:av->Bool
 | .int _=>true
 |_=>false
theorem sW{d:av}(q:R (.d (.bool (EY d))) []):lL [.d d] [] R:=by
 unfold lL;cases d<;>(walk_at "e";exact q)
end
section
variable {R:RX}{S:Sto}
def rng(lo:Int)(n:Nat):List Int:=(cp n).map fun k:Nat=>lo+k
def Bm(p:Part):List Int:=rng p.2.1 (p.2.2-p.2.1+1).toNat
def ext(q:List (List Int))(p:Part):List (List Int):=q.flatMap fun a=>(Bm p).map fun x=>a++[x]
end
section
variable {R:RX}{S:Sto}
theorem rep1{base:Int}{n:Nat}:(az n [bq base]).flatten=(az n base).map bq:=by
 induction n with
 |zero=>rfl
 |succ n ih=>rw[gi,jx,ih,gi,ck];rfl
theorem y6{p:List av}{m base y:Int}(hp:bH p)(m0:0<=m)(m1:m<=100)(w0:0<y)(w1:y<=1000)(q:∀(b:List Int) p',(b.length:Int)<=m->(∀x∈b,base<=x/\x<base+y)->bH p'->R (.d (bY b)) [p']):l5 [.l 0,.d (.int m),.d (.int base),.d (.int y)] [p] R:=by
 unfold l5;walk_at "d"
 walk_at "n"
 refine zG hp yw (pQ yw yw) fun r p1 r0 r1 aa=>?_;walk_at "d"
 walk_at "n"
 refine zG aa dz (by decide +kernel) fun r2 p2 r3 r4 z=>?_;walk_at "d";split
 ·refine⟨yv,yw,yw,yw,?_⟩;rw[rep1];exact q (az r.toNat base) p2 (by rw[List.length_replicate];omega) (fun x m=>by rw[List.mem_replicate]at m;omega) z
 ·refine qM (α:=Int) (fun x=>base<=x/\x<base+y) bq (fun τ=>∃u,τ=[u,some (.d (.int base)),some (.l 0),some (.d (.int y))]) _ [] p2 _ ⟨_,rfl⟩ z (by rw[iF];simp;omega) ?_ ?_
  ·rintro d md _ p acc R' ⟨u,rfl⟩ hp hk;walk_at "d";refine zG hp w0 (pQ w0 yw) fun r p' r0 r1 ab=>?_;walk_at "d";exact hk _ _ p' ⟨_,rfl⟩ ab ⟨yw,yw⟩
  ·intro ws p3 ac hw hl;rw[iF]at hl;walk_at "d";exact q ws p3 yw hw ac
structure Tim(s:Int):Prop where
 ne:s≠0
 lo:-3<=s
 hi:s<=3
structure Gp2(g:Gap)(s t:Int):Prop where
 ts:g.ts=[(0,s),(1,t)]
 s3:Tim s
 t3:Tim t
 le:g.lo<=g.hi
 lo:-10 ^ 60<=g.lo
 hi:g.hi<=10 ^ 60
structure Bx(b:List Int):Prop where
 l10:b.length<=10
 lo:∀x∈b,-10 ^ 59<=x
 hi:∀x∈b,x<=10 ^ 59
theorem Tim.mul{s a:Int}(h:Tim s)(h1:-10 ^ 58<=a)(h2:a<=10 ^ 58):-(3*10 ^ 58)<=s*a/\s*a<=3*10 ^ 58:=by
 have:s = -3\/s = -2\/s = -1\/s=0\/s=1\/s=2\/s=3:=by have:=h.lo;have:=h.hi;omega
 rcases this with rfl|rfl|rfl|rfl|rfl|rfl|rfl<;>omega
theorem FG{p:List av}{m:Int}(hp:bH p)(m0:0<=m)(m1:m<=10)(q:∀(g:Gap) (s t:Int) (one other:List Int) p',Gp2 g s t->Bx one->Bx other->(one.length:Int)<=m->(other.length:Int)<=m->bH p'->R (.d (.tuple [bC g,bY one,bY other])) [p']):nA [.l 0,.d (.int m)] [p] R:=by
 unfold nA;walk_at "dX"
 (refine seq1 ?_;walk_at "dX")
 refine xJ hp fun a p1 a1 a2 ak=>?_;walk_at "dX";refine xJ ak fun b p2 b1 b2 ai=>?_;walk_at "dX"
 (refine seq1 ?_;walk_at "dX")
 refine zG ai dz (by decide +kernel) fun r p3 r0 r1 al=>?_;walk_at "dX";obtain⟨d,ed,w,rfl,w0,w1⟩:=pP (P:=fun d=>∃w:Int,d=.int w/\0<w/\w<=40) (ds:=[bq 1,.int 3,.int 8,.int 40]) r0 r1 (by
  intro d m;simp only[jr,jt,or_false]at m;rcases m with rfl|rfl|rfl|rfl<;>exact⟨_,rfl,by decide,by decide⟩)
 refine⟨_,ed,?_⟩;walk_at "dX"
 (refine seq1 ?_;walk_at "dX")
 have z:∀d∈[bq 1,.int (-1),.int 2,.int (-2),.int 3,.int (-3)],∃s:Int,d=.int s/\Tim s:=by
  intro d m;simp only[jr,jt,or_false]at m;rcases m with rfl|rfl|rfl|rfl|rfl|rfl<;>exact⟨_,rfl,by decide,by decide,by decide⟩
 refine qM (α:=Int) Tim bq (fun τ=>∃u,τ=[u,some (.l 0)]) _ [] p3 _ ⟨_,rfl⟩ al (by rw[iF];decide) ?_ ?_
 ·rintro d md _ p acc R' ⟨u,rfl⟩ hp hk;walk_at "dX";refine zG hp dz (by decide +kernel) fun r p' r0 r1 af=>?_;obtain⟨d,ed,s,rfl,hs⟩:=pP (ds:=[bq 1,.int (-1),.int 2,.int (-2),.int 3,.int (-3)]) r0 r1 z;walk_at "dX";exact⟨_,ed,hk _ _ p' ⟨_,rfl⟩ af hs⟩
 intro ss p4 ae ab hl;rw[iF]at hl;obtain⟨s,t,rfl⟩:∃s t,ss=[s,t]:=by
  match ss,hl with
  | [s,t],_=>exact⟨s,t,rfl⟩
 have hs:=ab s yv;have ht:=ab t yv;rw[nil_append];walk_at "dX"
 (refine seq1 ?_;walk_at "dX")
 have f0:0<(if s<0 then -s else s)+(if t<0 then -t else t):=by
  have:=hs.ne;split<;>split<;>omega
 have f1:(if s<0 then -s else s)+(if t<0 then -t else t)<=6:=by
  have:=hs.lo;have:=hs.hi;have:=ht.lo;have:=ht.hi;split<;>split<;>omega
 generalize hF:(if s<0 then -s else s)+(if t<0 then -t else t)=F at f0 f1 ⊢;refine⟨Fp yw yw,?_⟩;have aa:0<w*F:=Int.mul_pos w0 f0;have y:w*F<=40*6:=Int.mul_le_mul w1 f1 yw yw;generalize hfar:w*F=far at aa y ⊢
 (refine seq1 ?_;walk_at "dX")
 have sa:=hs.mul a1 a2;have tb:=ht.mul b1 b2;have ar:(10:Int) ^ 59=10*10 ^ 58:=by decide
 have ao:(10:Int) ^ 60=100*10 ^ 58:=by decide
 have k0:(1000:Int)<10 ^ 58:=by decide
 have as:=hs.lo;have an:=hs.hi;have ap:=ht.lo;have aq:=ht.hi;refine⟨dE yw yw,dE yw yw,dE dz dz,?_⟩;generalize s*a=sa' at sa ⊢;generalize t*b=tb' at tb ⊢;refine zG ae yw (pQ yw yw) fun r2 p5 r3 r4 am=>?_;walk_at "dX";generalize hlo:sa'+tb'+r2-far=lo
 (refine seq1 ?_;walk_at "dX")
 refine⟨dE dz dz,?_⟩;refine zG am dz (by decide +kernel) fun r5 p6 r6 r7 ac=>?_;obtain⟨d,aj,u,rfl,u0,u1⟩:=pP (P:=fun d=>∃w:Int,d=.int w/\0<=w/\w<=1000) (ds:=[bq 0,.int 1,.int 2,.int w,.int far,.int (3*w)]) r6 r7 (by
  intro d m;simp only[jr,jt,or_false]at m;rcases m with rfl|rfl|rfl|rfl|rfl|rfl<;>exact⟨_,rfl,yw,yw⟩)
 walk_at "dX";refine⟨_,aj,?_⟩;walk_at "dX"
 (refine seq1 ?_;walk_at "dX")
 refine y6 ac m0 yw w0 yw fun one p7 o1 o2 ah=>?_;walk_at "dX";refine y6 ah m0 yw w0 yw fun other p8 o3 o4 ag=>?_;walk_at "dX";exact q ⟨[(0,s),(1,t)],lo,lo+u⟩ s t one other p8 ⟨rfl,hs,ht,by show lo<=lo+u;omega,by show _<=lo;omega,by show lo+u<=_;omega⟩ ⟨yw,fun x m=>by have:=o2 x m;omega,fun x m=>by have:=o2 x m;omega⟩ ⟨yw,fun x m=>by have:=o4 x m;omega,fun x m=>by have:=o4 x m;omega⟩ o1 o3 ag
end
section
variable {R:RX}{S:Sto}
theorem sI(ns:List Int):bY ns=.tuple (ns.map bq):=rfl
end
section
variable {R:RX}{S:Sto}
theorem Dg{α:Type}(f:α->av)(l:List α)(z:α):c6 0 (l.map f)=(cp l.length).map fun j=>.tuple [.int (j:Nat),f (l.getD j z)]:=by
 apply List.ext_getElem?;intro i;rw[eg];by_cases h:i<l.length
 ·obtain⟨d,hd⟩:∃d,(c6 0 (l.map f))[i]?=some d:=⟨_,bg (by rw[mB,bo];exact h)⟩;obtain⟨e,h1,h2⟩:=nR _ _ _ _ hd;rw[eg,bg h]at h1;rw[hd,h2,List.getElem?_range h];simp only[map_some,Option.some.injEq]at h1 ⊢;rw[<- h1,zero_add,bz,bg h];rfl
 ·rw[getElem?_eq_none (by rw[mB,bo];omega),getElem?_eq_none (by rw[gh];omega)];rfl
theorem Gp2.tm{g:Gap}{s t x y:Int}(h:Gp2 g s t):Tm3 [x,y].length g.ts:=by
 have hs:=h.s3;have ht:=h.t3;rw[h.ts];refine⟨yv,fun u m=>?_⟩;simp only[jr,jt,or_false]at m;rcases m with rfl|rfl
 ·exact⟨yv,hs.lo,hs.hi⟩
 ·exact⟨yv,ht.lo,ht.hi⟩
def cZ(g:Gap)(x:Int)(other:List Int):List Nat:=(cp other.length).filter fun j=>cU g [x,other.getD j 0]
def aU(c:List Nat):av:=.list (c.map fun k:Nat=>.int k)
theorem fN(c:List Nat):aU c=.list (c.map fun k:Nat=>.int k):=rfl
theorem E5{g:Gap}{s t x:Int}{other:List Int}{d2:av}(e2:bG (.d d2)=some (other.map bq))(hg:Gp2 g s t)(hb:other.length<=1000)(q:R (.d (aU (cZ g x other))) []\/R (.l 0) [(cZ g x other).map fun k:Nat=>.int k]):mV [.d (bC g),.d (.int x),.d d2] [] R:=by
 unfold mV;walk_at "d";refine⟨_,e2,?_⟩;rw[Dg bq other 0];refine cmf2 (S0:=[]) (fun j:Nat=>.int j) (fun j=>cU g [x,other.getD j 0]) rfl (cp other.length) (by rw[gh];exact hb) ?_ ?_
 ·intro j mj u v acc R' hk;walk_at "d";refine C3 (ns:=[x,other.getD j 0]) hg.tm ?_;walk_at "d";refine hk _ _ fun _ T hT=>?_;walk_at "d";exact hT
 ·walk_at "d";exact q
theorem Bq{g:Gap}{s t:Int}{one other:List Int}{d1 d2:av}(e1:bG (.d d1)=some (one.map bq))(e2:bG (.d d2)=some (other.map bq))(hg:Gp2 g s t)(h1:one.length<=1000)(h2:other.length<=1000)(q:R (.d (.list (one.map fun x=>aU (cZ g x other)))) []\/R (.l 0) [one.map fun x=>aU (cZ g x other)]):oC [.d (bC g),.d d1,.d d2] [] R:=by
 unfold oC;walk_at "d";refine⟨_,e1,?_⟩;refine cmp1 (S0:=[]) (fun x=>aU (cZ g x other)) rfl one h1 ?_ ?_
 ·intro x mx u acc R' hk;walk_at "d";refine E5 e2 hg h2 (.inl ?_);walk_at "d";exact hk _
 ·walk_at "d";exact q
abbrev Pr:=Nat×Nat
def prD(p:Pr):av:=.tuple [.int p.1,.int p.2]
theorem rL(p:Pr):prD p=.tuple [.int p.1,.int p.2]:=rfl
def g9(g:Gap)(one other:List Int)(i:Nat):List Pr:=(cZ g (one.getD i 0) other).map fun j=>(i,j)
def prs(g:Gap)(one other:List Int):List Pr:=(cp one.length).flatMap (g9 g one other)
theorem yN{g:Gap}{x:Int}{other:List Int}:(cZ g x other).length<=other.length:=dm (jy _ _) (by rw[gh];exact bp _)
theorem rD{g:Gap}{one other:List Int}:∀n:Nat,((cp n).flatMap (g9 g one other)).length<=n*other.length
 | 0=>by simp
 |n+1=>by
  have:=rD (g:=g) (one:=one) (other:=other) n;have h2:=yN (g:=g) (x:=one.getD n 0) (other:=other);rw[range_succ,List.flatMap_append,bx,List.flatMap_singleton,Nat.add_mul,Nat.one_mul];unfold g9 at this ⊢;rw[bo];omega
end
section
variable {R:RX}{S:Sto}
theorem oB{n i k:Nat}(h:(cp n)[i]?=some k):i=k/\k<n:=by
 have:=List.getElem?_eq_some_iff.mp h;obtain⟨h1,h2⟩:=this;rw[List.getElem_range]at h2;rw[gh]at h1;omega
theorem CY{p:Nat->Bool}{j:Nat}:(cp (j+1)).filter p=(cp j).filter p++if p j=true then [j]else []:=by
 rw[range_succ,List.filter_append,List.filter_cons];cases p j<;>simp
theorem AF{b:List Int}{j:Nat}(h:j<b.length):atI (b.map bq) (j:Int)=some (.int (b.getD j 0)):=xD (f:=bq) (by rw[bz,bg h];rfl)
end
section
variable {R:RX}{S:Sto}
theorem worth2{g:Gap}{s t x y:Int}(h:Gp2 g s t):worth g.ts [x,y]=s*x+t*y:=by
 rw[h.ts];simp[worth]
theorem BQ{g:Gap}{s t x y:Int}(hg:Gp2 g s t)(q:R (.d (.bool (cU g [x,y]))) []):nE [.d (bC g),.d (.int x),.d (.int y)] [] R:=by
 have hs:=hg.s3;have ht:=hg.t3;have s1:=hs.lo;have s2:=hs.hi;have t1:=ht.lo;have t2:=ht.hi;unfold nE bC mK;unfold cU at q;rw[worth2 hg]at q;rw[hg.ts];walk_at "d"
 walk_at "n"
 unfold tmD;walk_at "d";refine⟨dE yw yw,dE yw yw,?_⟩;split
 ·rename_i h;have e:decide (g.lo<=s*x+t*y/\s*x+t*y<=g.hi)=decide (s*x+t*y<=g.hi):=by simp[h]
  rw[e]at q;exact q
 ·rename_i h;have e:decide (g.lo<=s*x+t*y/\s*x+t*y<=g.hi)=false:=by simp[h]
  rw[e]at q;exact q
theorem CF{g:Gap}{x:Int}{other:List Int}{j:Nat}:(cp (j+1)).filter (fun j=>cU g [x,other.getD j 0])=(cp j).filter (fun j=>cU g [x,other.getD j 0])++if cU g [x,other.getD j 0]=true then [j]else []:=CY
theorem Ci{g:Gap}{s t:Int}{one other:List Int}(hg:Gp2 g s t)(h1:one.length<=30)(h2:other.length<=30)(q:R (.d (.list ((prs g one other).map prD))) []\/R (.l 0) [(prs g one other).map prD]):mL [.d (bC g),.d (bY one),.d (bY other)] [] R:=by
 unfold mL;rw[sI,sI];walk_at "d"
 walk_at "n"
 walk_at "n";have er:∀n:Nat,cJ 0 ((n:Nat):Int).toNat=(cp n).map fun k:Nat=>.int k:=fun n=>by
  unfold cJ;rw[jn];exact ju fun k _=>by rw[Int.zero_add]
 rw[er];refine fK (fun i δ S=>∃(u v:Option XV),S=[((cp i).flatMap (g9 g one other)).map prD]/\δ=[some (.d (bC g)),some (.d (.tuple (one.map bq))),some (.d (.tuple (other.map bq))),some (.l 0),u,v]) ⟨_,_,rfl,rfl⟩ ?_ ?_
 ·rintro i d _ _ N hi ⟨u,v,rfl,rfl⟩ hN;obtain⟨k,e,rfl⟩:=gL hi;obtain⟨rfl,il⟩:=oB e;have pl:=rD (g:=g) (one:=one) (other:=other) i;have pm:i*other.length<=30*30:=mul_le_mul yw h2;walk_at "d";rw[er];refine fK (fun j δ S=>∃(v:Option XV),S=[((cp i).flatMap (g9 g one other)++((cp j).filter fun j=>cU g [one.getD i 0,other.getD j 0]).map fun j=>(i,j)).map prD]/\δ=[some (.d (bC g)),some (.d (.tuple (one.map bq))),some (.d (.tuple (other.map bq))),some (.l 0),some (.d (.int (i:Nat))),v]) ⟨_,yv,rfl⟩ ?_ ?_
  ·rintro j d _ _ N' hj ⟨v,rfl,rfl⟩ p;obtain⟨m,e,rfl⟩:=gL hj;obtain⟨rfl,jl⟩:=oB e;have fl:((cp j).filter fun j=>cU g [one.getD i 0,other.getD j 0]).length<=j:=dm (jy _ _) (by rw[gh];exact bp _);walk_at "d";refine⟨_,AF il,_,AF jl,?_⟩;refine BQ hg ?_;walk_at "d";have fs:=CF (g:=g) (x:=one.getD i 0) (other:=other) (j:=j);split
   ·rename_i hk;rw[cb hk]at fs;refine⟨yw,p _ _ ⟨_,?_,rfl⟩⟩;rw[fs,dw,dw,dw,dw,<- cu];rfl
   ·rename_i hk;rw[bu hk,fy]at fs;refine p _ _ ⟨_,?_,rfl⟩;rw[fs]
  ·rintro _ _ ⟨v,rfl,rfl⟩;rw[bo,gh];refine hN _ _ ⟨_,_,?_,rfl⟩;rw[range_succ,List.flatMap_append,List.flatMap_singleton];rfl
 ·rintro _ _ ⟨u,v,rfl,rfl⟩;rw[bo,gh];walk_at "d";exact q
theorem len2{ds:List av}(h:ds.length=2):∃x y,ds=[x,y]:=by
 match ds,h with
 | [x,y],_=>exact⟨x,y,rfl⟩
end
section
variable {R:RX}{S:Sto}
theorem CJ{cs:List Pr}(q:R (.d (.bool true)) []):m5 [.d (.list (cs.map prD)),.d (.list (cs.map prD))] [] R:=by
 have sh:cg (.list (cs.map prD))=true:=(wW (sZ fun c _=>(DL (Aw rR rR):Shp 1 (prD c)))).ok;have er:=SeqAt.eqv_refl _ (dn sh);unfold m5;walk_at "d"
 walk_at "n"
 walk_at "n";refine fK (fun i δ S=>∃(u:Option XV),S=[]/\δ=[some (.d (.list (cs.map prD))),some (.d (.list (cs.map prD))),u]) ⟨_,rfl,rfl⟩ ?_ ?_
 ·rintro i d _ _ N hi ⟨u,rfl,rfl⟩ hN;obtain⟨c,e,rfl⟩:=gL hi;rw[rL];walk_at "d";refine sW ?_;walk_at "d";refine sW ?_;walk_at "d";exact hN _ _ ⟨_,rfl,rfl⟩
 ·rintro _ _ ⟨u,rfl,rfl⟩;walk_at "d";rw[er];exact⟨sh,sh,q⟩
end
section
variable {R:RX}{S:Sto}
theorem uX{g:DG}{b:DSm}{E:DEndsM}:∀{ds:List av}{δ:XE}{S:Sto}{M:DM} (I:Nat->XE->Sto->DM->Prop),I 0 δ S M ->
  (∀i d δ S M (N:XE->Sto->DM->Prop),ds[i]?=some d->I i δ S M->(∀ δ' S' M',I (i+1) δ' S' M'->N δ' S' M')->g (.d d) δ S fun δ1 S1=>b { nx:=N,ct:=N,bk:=E.nx,rt:=E.rt } δ1 S1 M) ->
  (∀ δ S M,I ds.length δ S M->E.nx δ S M)->dJ g b ds E δ S M
 | [],δ,S,M,I,h0,_,fin=>fin δ S M h0
 |d::ds,δ,S,M,I,h0,step,fin=>by
  show g (.d d) δ S fun δ1 S1=>b _ δ1 S1 M;refine step 0 d δ S M _ rfl h0 fun δ' S' M' h1=>?_;exact uX (ds:=ds) (fun i=>I (i+1)) h1 (fun i e δ S M N hi=>step (i+1) e δ S M N (by simpa using hi)) fin
def kN(j:Nat):Key:=Sum.inl (j:Int)
def mtD(M:Mt):List (Key×av):=M.map fun p=>(kN p.1,.int (p.2:Nat))
def bQ(a:List Nat):List (Key×av):=a.map fun j=>(kN j,.bool true)
theorem jG{a b:Nat}:(kN a=kN b)=(a=b):=by
 unfold kN;simp only[Sum.inl.injEq,Int.natCast_inj]
theorem rV:∀(M:Mt) (j:Nat),lkA (mtD M) (kN j)=(lkA M j).map fun i=>.int (i:Nat)
 | [],j=>rfl
 |p::M,j=>by
  have ih:=rV M j;unfold lkA mtD at ih ⊢;rw[ck,km,km];simp only[jG];by_cases h:p.1=j
  ·simp[h]
  ·simp only[h,decide_false];exact ih
theorem uQ(M:Mt)(j i:Nat):ptA (mtD M) (kN j) (.int (i:Nat))=mtD (ptA M j i):=by
 unfold ptA mtD;have e:((M.map fun p=>((kN p.1,.int (p.2:Nat)):Key×av)).any fun p=>decide (p.1=kN j))=M.any fun p=>decide (p.1=j):=by
  rw[any_map];congr 1;funext p;simp only[Function.comp,jG]
 rw[e];split
 ·rw[jb,jb];congr 1;funext p;simp only[Function.comp,jG];split<;>rfl
 ·rw[dw];rfl
theorem Dj(a:List Nat)(j:Nat):(lkA (bQ a) (kN j)).isSome=decide (j∈a):=by
 unfold lkA bQ;rw[isSome_map,jg,List.find?_isSome];simp only[mem_map,decide_eq_true_eq];constructor
 ·rintro⟨_,⟨x,mx,rfl⟩,e⟩;rw[jG]at e;exact e▸mx
 ·intro h;exact⟨_,⟨j,h,rfl⟩,rfl⟩
theorem Ev{a:List Nat}{j:Nat}(h:j∉a):ptA (bQ a) (kN j) (.bool true)=bQ (a++[j]):=by
 unfold ptA;rw[bu]
 ·unfold bQ;rw[dw];rfl
 ·intro z;rw[any_eq_true]at z;obtain⟨p,mp,e⟩:=z;obtain⟨x,mx,rfl⟩:=mem_map.mp mp;have e2:=ig e;rw[jG]at e2;exact h (e2▸mx)
def bK(p:List (List Nat)):av:=.list (p.map aU)
theorem g8(p:List (List Nat)):bK p=.list (p.map aU):=rfl
theorem t7{p:List (List Nat)}{i:Nat}(h:i<p.length):atI (p.map aU) (i:Int)=some (aU (aB p i)):=by
 refine gO ?_;rw[eg,bg h];unfold aB;rw[bz,bg h];rfl
def dmO(a p:Addr)(M:Mt)(k:List Nat):DM:=[(a,.k (mtD M)),(p,.k (bQ k))]
theorem BV{a p:Addr}(h:p≠a){M:Mt}{k k':List Nat}:dS (dmO a p M k) p (.k (bQ k'))=dmO a p M k':=by
 unfold dS dmO;simp[fw h]
theorem uR{a p:Addr}(h:p≠a){M M':Mt}{k:List Nat}:dS (dmO a p M k) a (.k (mtD M'))=dmO a p M' k:=by
 unfold dS dmO;simp[h]
theorem oK(M:Mt):(mtD M).length=M.length:=bo ..
theorem Ab(k:List Nat):(bQ k).length=k.length:=bo ..
structure St8(rows:List (List Nat))(m:Nat)(M:Mt)(k:List Nat):Prop where
 kn:KN M
 ed:Ed rows M
 vl:∀p∈M,p.2<rows.length
 nd:k.Nodup
 lt:∀j∈k,j<m
theorem y0{q:List (List Nat)}{m:Nat}(hr:∀i,∀j∈aB q i,j<m){M:Mt}(hn:KN M)(he:Ed q M):M.length<=m:=by
 unfold KN at hn;have:=dY (l:=M.map fun p=>p.1) (l':=cp m) hn fun x mx=>by
  obtain⟨p,mp,rfl⟩:=mem_map.mp mx;exact mem_range.mpr (hr p.2 _ (he p mp))
 simpa using this
theorem pJ{m:Nat}{k:List Nat}(hn:k.Nodup)(hl:∀j∈k,j<m):k.length<=m:=by
 have:=dY (l':=cp m) hn fun x mx=>mem_range.mpr (hl x mx);simpa using this
theorem tU{z:List (List Nat)}{m:Nat}(hr:∀i,∀j∈aB z i,j<m)(hm:m<900){a p:Addr}(ap:p≠a):∀(n i:Nat) (M:Mt) (k:List Nat) (R:av->Sto->DM->Prop),i<z.length->St8 z m M k->m<n+k.length ->
  R (.bool (fm z n i M k).1) [] (dmO a p (fm z n i M k).2.1 (fm z n i M k).2.2)->zK n [.d (bK z),.d (.int (i:Nat)),.o (.ref a),.o (.ref p)] [] (dmO a p M k) R
 | 0,i,M,k,R,_,st,hk,_=>by
  have:=pJ st.nd st.lt;omega
 |n+1,i,M,k,R,hi,st,hk,q=>by
  unfold zK;refine seqm ?_;rw[g8];walk_at "d";refine⟨_,t7 hi,?_⟩;rw[fN];walk_at "d";have go:∀(js:List Nat) (M:Mt) (k:List Nat) (u:Option XV) (En:DEndsM),(∀j∈js,j∈aB z i)->St8 z m M k->m<n+1+k.length ->
    ((fmL (fm z n) i js M k).1=true->En.rt (.d (.bool true)) [] (dmO a p (fmL (fm z n) i js M k).2.1 (fmL (fm z n) i js M k).2.2)) ->
    ((fmL (fm z n) i js M k).1=false->∀u',En.nx [some (.d (bK z)),some (.d (.int (i:Nat))),some (.o (.ref a)),some (.o (.ref p)),u'] [] (dmO a p (fmL (fm z n) i js M k).2.1 (fmL (fm z n) i js M k).2.2)) ->
    dJ (zm 4) (cM (eU (fun M=>(dB (dOp (dL M false) (zj 4) (zj 3)))) (bE eX) (bE aJ)) (cM (dQ 3 (fun M=>(zj 4)) (fun M=>(dC (.bool true)))) (fG (fB (dmT (fun M=>(dB (dOp (dL M true) (zj 4) (zj 2))))) (eQ 4 (zK n) (fun M=>(zd (zj 0) (zd (fJ M (zj 2) (zj 4)) (zd (zj 2) (zd (zj 3) zv))))))) (cM (dQ 2 (fun M=>(zj 4)) (fun M=>(zj 1))) (bE (aC (dC (.bool true))))) (bE aJ)))) (js.map fun k:Nat=>.int k) En [some (.d (bK z)),some (.d (.int (i:Nat))),some (.o (.ref a)),some (.o (.ref p)),u] [] (dmO a p M k):=by
   intro js;induction js with
   |nil=>
    intro M k u En _ _ _ _ h2;exact h2 rfl u
   |cons j js ih=>
    intro M k u En hj st hk h1 h2;have ac:∀x∈js,x∈aB z i:=fun x mx=>hj x (bc _ mx);have jm:j<m:=hr i j (hj j bn);rw[ck];unfold dJ;walk_at "d";refine seqm ?_;walk_at "d";refine⟨.k (bQ k),lkA (bQ k) (kN j),.inl ⟨p,rfl,by simp[dmO]⟩,rfl,?_⟩;rw[Dj];unfold fmL at h1 h2;by_cases ja:j∈k
    ·rw[cb ja]at h1 h2;rw[cb (by simpa using ja)];exact ih M k _ En ac st hk h1 h2
    ·rw[bu ja]at h1 h2;rw[bu (by simpa using ja)];refine seqm ?_;walk_at "d";have ab:(k++[j]).Nodup:=by
      rw[ix];refine⟨st.nd,yv,fun x mx y my e=>?_⟩;rw[mem_singleton.mp my]at e;exact ja (e▸mx)
     have ae:∀x∈k++[j],x<m:=fun x mx=>by
      rcases mem_append.mp mx with mx|mx
      ·exact st.lt x mx
      ·rw[mem_singleton.mp mx];exact jm
     have ag:St8 z m M (k++[j]):=⟨st.kn,st.ed,st.vl,ab,ae⟩;have l1:(k++[j]).length=k.length+1:=by simp
     refine⟨p,rfl,.k (bQ k),.k (bQ (k++[j])),by simp[dmO],?_,?_,?_⟩
     ·show some (DD.k (ptA (bQ k) (kN j) (.bool true)))=_;rw[Ev ja]
     ·show (bQ k).length<1000;rw[Ab];have:=pJ st.nd st.lt;omega
     ·rw[BV ap];walk_at "d";refine⟨.k (mtD M),lkA (mtD M) (kN j),.inl ⟨a,rfl,by simp[dmO]⟩,rfl,?_⟩;rw[rV];have ml:=y0 hr st.kn st.ed;cases h:lkA M j with
      |none=>
       rw[h]at h1 h2;walk_at "d";rw[cb yv];refine seqm ?_;walk_at "d";refine⟨a,rfl,.k (mtD M),.k (mtD (ptA M j i)),by simp[dmO],?_,?_,?_⟩
       ·show some (DD.k (ptA (mtD M) (kN j) (.int (i:Nat))))=_;rw[uQ]
       ·show (mtD M).length<1000;rw[oK];omega
       ·rw[uR ap];exact h1 rfl
      |some i2=>
       rw[h]at h1 h2;walk_at "d";rw[bu yv];refine⟨.k (mtD M),.int (i2:Nat),.inl ⟨a,rfl,by simp[dmO]⟩,?_,?_⟩
       ·show some (lkA (mtD M) (kN j))=_;rw[rV,h];rfl
       have af:i2<z.length:=st.vl _ (mW h);have aa:=oZ hr n i2 M (k++[j]) st.kn st.ed ab ae yw;refine tU hr hm ap n i2 M (k++[j]) _ af ag yw ?_;simp only at h1 h2;generalize fm z n i2 M (k++[j])=r at aa h1 h2 ⊢;obtain⟨b,M',k'⟩:=r;simp only at h1 h2 ⊢;refine⟨trivial,b,rfl,?_⟩;cases b with
       |true=>
        obtain⟨y1,y2,y3,_⟩:=aa.yes rfl;simp only at y1 y2 y3;rw[cb rfl]at h1 h2;walk_at "d";refine seqm ?_;walk_at "d";have ah:=y0 hr y1 y2;refine⟨a,rfl,.k (mtD M'),.k (mtD (ptA M' j i)),by simp[dmO],?_,?_,?_⟩
        ·show some (DD.k (ptA (mtD M') (kN j) (.int (i:Nat))))=_;rw[uQ]
        ·show (mtD M').length<1000;rw[oK];omega
        ·rw[uR ap];exact h1 rfl
       |false=>
        obtain⟨n1,_,_⟩:=aa.no rfl;simp only at n1;subst n1;rw[bu yv]at h1 h2;walk_at "d";have la:(k++[j]).length<=k'.length:=dY ab fun x mx=>aa.sub x mx;exact ih M' k' _ En ac ⟨st.kn,st.ed,st.vl,aa.nd,aa.lt⟩ yw h1 h2
  refine go (aB z i) M k none _ (fun _ h=>h) st yw (fun h=>?_) (fun h u'=>?_)
  ·walk_at "d";unfold fm at q;rw[h]at q;exact q
  ·walk_at "d";unfold fm at q;rw[h]at q;exact q
theorem er9(n:Nat):cJ 0 ((n:Nat):Int).toNat=(cp n).map fun k:Nat=>.int k:=by
 unfold cJ;rw[jn];exact ju fun k _=>by rw[Int.zero_add]
theorem B0(a p:Addr)(M:Mt):[(a,DD.k (mtD M)),(p,DD.k [])]=dmO a p M []:=rfl
theorem DQ{y:List (List Nat)}{m:Nat}(hr:∀i,∀j∈aB y i,j<m)(hm:m<12){a p:Addr}(ap:p≠a){i:Nat}{M:Mt}{R:av->Sto->DM->Prop}(hi:i<y.length)(kn:KN M)(ed:Ed y M)(vl:∀p∈M,p.2<y.length)
  (q:R (.bool (fm y 12 i M []).1) [] (dmO a p (fm y 12 i M []).2.1 (fm y 12 i M []).2.2)):oE [.d (bK y),.d (.int (i:Nat)),.o (.ref a),.o (.ref p)] [] [(a,.k (mtD M)),(p,.k [])] R:=by
 unfold oE;rw[B0];exact tU hr yw ap 12 i M [] R hi ⟨kn,ed,vl,gn,fun j h=>(nomatch h)⟩ (by simpa using hm) q
theorem sU{y:List (List Nat)}{m:Nat}(hb:Bd m y)(hm:m<12)(hl:y.length<=1000)(q:R (.d (.dict (DD.pairs (.k (mtD (mmN y 12 y.length)))))) []):zT [.d (bK y)] [] R:=by
 unfold zT;refine seq1 ?_;rw[g8];walk_at "d";intro a _;walk_at "d";rw[er9];refine uX (fun i δ S M=>∃(u:Option XV),S=[]/\M=[(a,.k (mtD (mmN y 12 i)))]/\δ=[some (.d (bK y)),some (.o (.ref a)),u]) ⟨_,rfl,rfl,rfl⟩ ?_ ?_
 ·rintro i d _ _ _ N hi ⟨u,rfl,rfl,rfl⟩ hN;obtain⟨k,e,rfl⟩:=gL hi;obtain⟨rfl,il⟩:=oB e;have ok:=mN hb.row hm i;walk_at "d";intro p hp;have ap:p≠a:=by simpa[ad]using hp
  refine DQ hb.row hm ap il ok.kn ok.ed (fun p mp=>Nat.lt_trans (ok.vl p mp) il) ?_;refine⟨rfl,_,_,rfl,hN _ _ _ ⟨_,rfl,rfl,rfl⟩⟩
 ·rintro _ _ _ ⟨u,rfl,rfl,rfl⟩;rw[bo,gh];refine⟨[],_,rfl,rfl,?_⟩;walk_at "d";rw[show hX a (mtD (mmN y 12 y.length)) (.o (.ref a))=.d (.dict (DD.pairs (.k (mtD (mmN y 12 y.length)))))from cb rfl];exact q
theorem BY(u:List Nat)(j:Nat):((u.map fun k:Nat=>bq k).any fun y=>iw y (.int (j:Nat)))=decide (j∈u):=by
 rw[any_map,jg,any_eq_true];simp only[Function.comp,iC,decide_eq_true_eq];constructor
 ·rintro⟨x,mx,e⟩;have:x=j:=yw
  exact this▸mx
 ·intro h;exact⟨j,h,rfl⟩
theorem shN(u:List Nat):cg (.list (u.map fun k:Nat=>bq k))=true:=(wW (sZ fun _ _=>(rR:Shp 0 _))).ok
theorem vB{r u:List Nat}(hl:r.length<=1000)(q:R (.d (aU (frR u r))) []\/R (.l 0) [(frR u r).map fun k:Nat=>.int k]):zO [.d (aU r),.d (aU u)] [] R:=by
 unfold zO;rw[fN,fN];walk_at "d";refine cmf1 (S0:=[]) (fun j:Nat=>.int j) (fun j=>decide (j∉u)) rfl r hl ?_ ?_
 ·intro j mj v acc R' hk;walk_at "d";refine⟨shN u,?_⟩;rw[BY];rw[show (!decide (j∈u))=decide (j∉u)from by simp];refine hk _ fun _ T hT=>?_;walk_at "d";exact hT
 ·walk_at "d";exact q
theorem xF{p:List (List Nat)}:(mtD (mmN p 12 p.length)).length=nu 12 p:=by
 rw[oK];rfl
theorem C2{p:List (List Nat)}{m i w:Nat}{u:List Nat}{k:Int}(hb:Bd m p)(hm:m<12)(hl:p.length<=900)(z:∀r∈p,r.length<=900)(hi:i<p.length)(hk:k=w-1)(hu:u.length<=900)
  (q:R (.d (((frR u (aB p i)).find? fun j=>decide (nu 12 (frs8 (u++[j]) (p.drop (i+1)))+1=w)).elim .none fun j=>.int (j:Nat))) []):nQ [.d (bK p),.d (.int (i:Nat)),.d (aU u),.d (.int k)] [] R:=by
 have rl:(aB p i).length<=900:=by
  unfold aB;rw[bz,bg hi];exact z _ (getElem_mem hi)
 unfold nQ;refine seq1 ?_;rw[g8];walk_at "d";refine⟨_,t7 hi,?_⟩;refine vB yw (.inl ?_);rw[fN];walk_at "d";refine⟨_,(show bG (.d (aU (frR u (aB p i))))=some ((frR u (aB p i)).map fun k:Nat=>.int k)from rfl),?_⟩;generalize hf:frR u (aB p i)=fr at q ⊢;have go:∀(js:List Nat) (x y:Option XV) (En:DEnds),(∀j,(js.find? fun j=>decide (nu 12 (frs8 (u++[j]) (p.drop (i+1)))+1=w))=some j->En.rt (.d (.int (j:Nat))) []) ->
   ((js.find? fun j=>decide (nu 12 (frs8 (u++[j]) (p.drop (i+1)))+1=w))=none->∀x' y',En.nx [some (.d (bK p)),some (.d (.int (i:Nat))),some (.d (aU u)),some (.d (.int k)),x',y'] []) ->
   fE (zm 4) (aA (aD (bR [none,some 2,some 4] (aR (dSl lX (zj 0) (eY (dOp aM (zj 1) (dC (.int 1)))) fA)) (zm 0) aF (aE 2 zO (zd (zj 0) (zd (dOp aM (zj 1) (bM (zd (zj 2) zv))) zv)))) (zm 5)) (aN (dB (dOp bP (dCB d9 (zd (aE 1 zT (zd (zj 5) zv)) zv)) (zj 3))) (aC (zj 4)) aJ)) (js.map fun k:Nat=>.int k) En [some (.d (bK p)),some (.d (.int (i:Nat))),some (.d (aU u)),some (.d (.int k)),x,y] []:=by
  intro js;induction js with
  |nil=>
   intro x y En _ h2;exact h2 rfl x y
  |cons j js ih=>
   intro x y En h1 h2;rw[ck];unfold fE;rw[g8,fN];walk_at "d"
   walk_at "n"
   rw[Ao hi];refine cmp1 (S0:=[]) (fun r=>aU (frR (u++[j]) r)) rfl (p.drop (i+1)) (by rw[length_drop];omega) ?_ ?_
   ·intro r mr v acc R' ab;walk_at "d";rw[show (u.map (fun k:Nat=>bq k)++[bq (j:Nat)])=(u++[j]).map (fun k:Nat=>bq k)from by rw[dw];rfl,<- fN];refine⟨yw,?_⟩;refine vB (r:=r) (by have:=z r (List.mem_of_mem_drop mr);omega) (.inl ?_);walk_at "d";exact ab _
   ·refine⟨[],_,rfl,rfl,?_⟩;have aa:Bd m (frs8 (u++[j]) (p.drop (i+1))):=Bd.fr (fun r hr=>hb r (List.mem_of_mem_drop hr)) _;rw[show (PyData.list ((p.drop (i+1)).map fun r=>aU (frR (u++[j]) r)))=bK (frs8 (u++[j]) (p.drop (i+1)))from by unfold bK frs8;rw[jb];rfl];refine sU aa hm (by rw[rP,length_drop];omega) ?_;walk_at "d";refine⟨_,rfl,?_⟩;rw[xF];by_cases e:nu 12 (frs8 (u++[j]) (p.drop (i+1)))+1=w
    ·rw[cb yw];exact h1 j (List.find?_cons_of_pos (by simpa using e))
    ·rw[bu yw];have e2:(j::js).find? (fun j=>decide (nu 12 (frs8 (u++[j]) (p.drop (i+1)))+1=w))=js.find? (fun j=>decide (nu 12 (frs8 (u++[j]) (p.drop (i+1)))+1=w)):=jo (by simpa using e);rw[e2]at h1 h2;exact ih _ _ En h1 h2
 rw[<- g8,<- fN];refine go fr none none _ (fun j e=>?_) (fun e x' y'=>?_)
 ·walk_at "d";rw[e]at q;exact q
 ·walk_at "d";rw[e]at q;exact q
def aG(g:Gap)(one other:List Int):List (List Nat):=one.map fun x=>cZ g x other
theorem B6{g:Gap}{one other:List Int}:PyData.list (one.map fun x=>aU (cZ g x other))=bK (aG g one other):=by
 unfold bK aG;rw[jb];rfl
theorem qW{g:Gap}{one other:List Int}:Bd other.length (aG g one other):=fun r hr j hj=>by
 obtain⟨x,_,rfl⟩:=mem_map.mp hr;unfold cZ at hj;exact mem_range.mp (mem_filter.mp hj).1
theorem xH{g:Gap}{one other:List Int}:∀r∈aG g one other,r.Pairwise (· < ·):=fun r hr=>by
 obtain⟨x,_,rfl⟩:=mem_map.mp hr;unfold cZ;exact List.pairwise_lt_range.sublist im
theorem Bc{g:Gap}{one other:List Int}:∀r∈aG g one other,r.length<=other.length:=fun r hr=>by
 obtain⟨x,_,rfl⟩:=mem_map.mp hr;exact yN
def mtc(g:Gap)(one other:List Int):List Pr:=gr 12 (aG g one other) 0 [] (nu 12 (aG g one other))
theorem EI{g:Gap}{s t:Int}{one other:List Int}{d1 d2:av}(e1:bG (.d d1)=some (one.map bq))(e2:bG (.d d2)=some (other.map bq))(hg:Gp2 g s t)(h1:one.length<=30)(h2:other.length<=11)(q:R (.d (.list ((mtc g one other).map prD))) []\/R (.l 0) [(mtc g one other).map prD]):mR [.d (bC g),.d d1,.d d2] [] R:=by
 have hb:=qW (g:=g) (one:=one) (other:=other);have hl:=Bc (g:=g) (one:=one) (other:=other);have fl:(aG g one other).length=one.length:=bo ..;unfold mR;walk_at "d"
 walk_at "n"
 refine Bq e1 e2 hg yw yw (.inl ?_);walk_at "d";rw[B6];unfold mtc at q;generalize aG g one other=rows at hb hl fl q ⊢
 walk_at "n"
 refine sU hb yw yw ?_;walk_at "d";refine⟨_,rfl,?_⟩;rw[xF]
 walk_at "n"
 walk_at "n"
 refine seq1 ?_;rw[g8];walk_at "d";rw[er9];refine fK (fun i δ S=>∃(p:List Pr) (w:Nat) (x y:Option XV),gr 12 rows 0 [] (nu 12 rows)=p++gr 12 (rows.drop i) i (p.map (·.2)) w/\p.length+w=nu 12 rows/\p.length<=i/\S=[p.map prD,(p.map (·.2)).map fun k:Nat=>.int k]/\δ=[some (.d (bC g)),some (.d d1),some (.d d2),some (.d (bK rows)),some (.d (.int (nu 12 rows:Nat))),some (.l 0),some (.l 1),x,y]) ⟨[],_,_,_,rfl,zero_add _,kh _,rfl,rfl⟩ ?_ ?_
 ·rintro i d _ _ N hi ⟨p,w,x,y,ge,gl,tl,rfl,rfl⟩ hN;obtain⟨k,e,rfl⟩:=gL hi;obtain⟨rfl,il⟩:=oB e;walk_at "d"
  walk_at "n"
  rw[<- fN];refine C2 (w:=w) hb yw yw (fun r hr=>by have:=hl r hr;omega) il yw (by rw[bo];omega) ?_;rw[gj il]at ge;have gc:∀(r:List Nat) (rs:List (List Nat)) (i:Nat) (u:List Nat) (w:Nat),gr 12 (r::rs) i u w=(match (frR u r).find? fun j=>decide (nu 12 (frs8 (u++[j]) rs)+1=w)with|some j=>(i,j)::gr 12 rs (i+1) (u++[j]) (w-1)|none=>gr 12 rs (i+1) u w):=fun _ _ _ _ _=>rfl;rw[gc]at ge;have er:rows[i]=aB rows i:=by
   unfold aB;rw[bz,bg il];rfl
  rw[er]at ge;cases hf:(frR (p.map (·.2)) (aB rows i)).find? fun j=>decide (nu 12 (frs8 (p.map (·.2)++[j]) (rows.drop (i+1)))+1=w)with
  |none=>
   rw[hf]at ge;simp only at ge;rw[Option.elim_none];walk_at "d";exact⟨rfl,hN _ _ ⟨p,w,_,_,ge,gl,yw,rfl,rfl⟩⟩
  |some j=>
   rw[hf]at ge;simp only at ge;have hw:=find?_some hf;have aa:nu 12 (frs8 (p.map (·.2)++[j]) (rows.drop (i+1)))+1=w:=by simpa using hw
   rw[Option.elim_some];walk_at "d";refine⟨rfl,?_⟩
   walk_at "n"
   refine⟨yw,yw,?_⟩;refine hN _ _ ⟨p++[(i,j)],w-1,_,_,?_,by rw[bx,fe];omega,by rw[bx,fe];omega,?_,rfl⟩
   ·rw[ge,dw,cu];rfl
   ·rw[dw,dw,dw];rfl
 ·rintro _ _ ⟨p,w,x,y,ge,gl,tl,rfl,rfl⟩;rw[bo,gh]at ge;rw[drop_length]at ge;have z:gr 12 rows 0 [] (nu 12 rows)=p:=by rw[ge];unfold gr;rw[fy]
  rw[z]at q;walk_at "d";exact q
end
section
variable {R:RX}{S:Sto}
def bA(s:List Pr):av:=.list (s.map prD)
theorem nT(s:List Pr):bA s=.list (s.map prD):=rfl
theorem tL{α β γ:Type}(f:α->β)(g:β->List γ):∀l:List α,(l.map f).flatMap g=l.flatMap fun x=>g (f x)
 | []=>rfl
 |x::l=>by rw[ck,flatMap_cons,flatMap_cons,tL f g l]
theorem rM{α β:Type}{f g:α->List β}:∀{l:List α},(∀x∈l,f x=g x)->l.flatMap f=l.flatMap g
 | [],_=>rfl
 |x::l,h=>by rw[flatMap_cons,flatMap_cons,h x bn,rM fun y m=>h y (bc _ m)]
theorem yD:∀(rows:List (List Nat)) (i:Nat),cR i rows=(cp rows.length).flatMap fun k=>(aB rows k).map fun j=>(i+k,j)
 | [],i=>rfl
 |r::rs,i=>by
  rw[br,List.range_succ_eq_map,flatMap_cons,tL];show r.map (fun j=>(i,j))++cR (i+1) rs=_;rw[yD rs (i+1)];congr 1;refine rM fun k _=>?_;show _=(aB rs k).map _;congr 1;funext j;rw[show i+1+k=i+(k+1)from by omega]
theorem yG{g:Gap}{one other:List Int}:prs g one other=cR 0 (aG g one other):=by
 rw[yD];unfold prs;rw[show (aG g one other).length=one.length from bo ..];refine rM fun k hk=>?_;have kl:=mem_range.mp hk;unfold g9 aG aB;rw[bz,bz,eg,bg kl];simp
theorem Cy{y:List Pr}(af:y.length<=20)(hl:(lm y).length<=400)(q:R (.d (.list ((lm y).map bA))) []):l9 [.d (.list (y.map prD))] [] R:=by
 unfold l9;walk_at "d"
 walk_at "n"
 walk_at "n";refine fK (fun i δ S=>∃(u2 u3 u4 u5:Option XV),δ=[some (.d (.list (y.map prD))),some (.d (.list ((lm (y.take i)).map bA))),u2,u3,u4,u5]) ⟨_,_,_,_,rfl⟩ ?_ ?_
 ·rintro i d _ S1 N hi ⟨u2,u3,u4,u5,rfl⟩ hN;obtain⟨p,ep,rfl⟩:=gL hi;rw[rL];walk_at "d"
  walk_at "n"
  walk_at "n";have hF:(lm (y.take i)).length<=400:=dm (AT y i) hl;have ae:lm (y.take (i+1))=fC (lm (y.take i)) p:=by
   rw[List.take_add_one,ep];exact nZ _ _
  rw[ae]at hN;have hr:∀aa∈lm (y.take i),aa.length<=20:=fun aa m=>by
   have z:=((qH _ aa).mp m).1.length_le;rw[ko]at z;omega
  generalize lm (y.take i)=F at hF hN hr ⊢;refine fK (fun k δ S=>∃(u5:Option XV),S=S1++[(((F.take k).filter fun s=>!(s.any (cfl p))).map fun s=>bA (s++[p]))]/\δ=[some (.d (.list (y.map prD))),some (.d (.list (F.map bA))),some (.d (.int (p.1:Nat))),some (.d (.int (p.2:Nat))),some (.l S1.length),u5]) ⟨_,rfl,rfl⟩ ?_ ?_
  ·rintro k d _ _ N' hk ⟨u5,rfl,rfl⟩ ab;obtain⟨aa,er,rfl⟩:=gL hk;have rl:=hr aa (cf er);have kl:=(List.getElem?_eq_some_iff.mp er).1;have ft:(F.take (k+1)).filter (fun s=>!(s.any (cfl p)))=(F.take k).filter (fun s=>!(s.any (cfl p)))++(if aa.any (cfl p)=false then [aa]else []):=by
    rw[List.take_add_one,er,List.filter_append];congr 1;show [aa].filter _=_;cases hz:aa.any (cfl p)with
    |false=>rw[cb rfl];exact List.filter_cons_of_pos (by rw[hz];rfl)
    |true=>rw[bu yv];exact List.filter_cons_of_neg (by rw[hz];simp)
   have ml:((F.take k).filter fun s=>!(s.any (cfl p))).length<=400:=dm (jy _ _) (by rw[ko];omega);rw[ft]at ab;generalize (F.take k).filter (fun s=>!(s.any (cfl p)))=G at ab ml ⊢;rw[nT];walk_at "d";refine cmp2 (S0:=S1++[G.map fun s=>bA (s++[p])]) (fun q=>.bool (cfl p q)) yv aa yw ?_ ?_
   ·intro q mq u v acc R' hk;rw[rL];walk_at "d";have ac:=hk (some (.d (.int (q.1:Nat)))) (some (.d (.int (q.2:Nat))));unfold cfl at ac;split
    ·rename_i z;rw[fc yw,Bool.true_or]at ac;exact ac
    ·rename_i z;rw[ci yw,Bool.false_or]at ac;rw[show decide ((p.2:Int)=(q.2:Nat))=decide (p.2=q.2)from by simp only[Int.natCast_inj]];exact ac
   ·refine⟨_,_,rfl,yv,aa.map (cfl p),by rw[jb];rfl,?_⟩;rw[any_map,show (id∘cfl p)=cfl p from rfl];cases hc:aa.any (cfl p)with
    |false=>
     rw[hc,cb rfl]at ab;rw[cb rfl];refine⟨yv,yw,G.map fun s=>bA (s++[p]),yv,by rw[bo];omega,ab _ _ ⟨_,?_,rfl⟩⟩;rw[dw,List.set_append_right _ _ (bp _),Nat.sub_self];rw[show (fun s=>bA (s++[p]))=fun s:List Pr=>.list (s.map prD++[PyData.tuple [bq (p.1:Nat),bq (p.2:Nat)]])from funext fun s=>by rw[nT,dw];rfl];rfl
    |true=>
     rw[hc,bu yv,fy]at ab;rw[bu yv];exact ab _ _ ⟨_,rfl,rfl⟩
  ·rintro _ _ ⟨u5,rfl,rfl⟩;rw[bo,take_length];walk_at "d";have ml:(F.filter fun s=>!(s.any (cfl p))).length<=400:=dm (jy _ _) hF;refine⟨_,by rw[ic (bp _),Nat.sub_self];rfl,by rw[bo];omega,?_⟩;have e:(F.map bA++(F.filter fun s=>!(s.any (cfl p))).map fun s=>bA (s++[p]))=(fC F p).map bA:=by
    rw[fC,dw,jb];rfl
   rw[e];exact hN _ _ ⟨_,_,_,_,rfl⟩
 ·rintro _ S1 ⟨u2,u3,u4,u5,rfl⟩;rw[bo,take_length];walk_at "d";exact q
def toI(s:List Pr):List (Int×Int):=s.map fun p=>((p.1:Int),(p.2:Int))
theorem xC(s:List Pr):lsP (toI s)=bA s:=by
 unfold lsP toI bA;rw[jb];rfl
theorem wJ:∀{s t:List Pr},leL s t->s.length=t.length->s=t\/HT.lexLt (HT.flat (toI s)) (HT.flat (toI t))=true
 | [],[],_,_=>.inl rfl
 | [],_::_,_,h=>by simp at h
 |_::_,[],h,_=>h.elim
 |p::s,q::t,h,hl=>by
  show _\/HT.lexLt ((p.1:Int)::(p.2:Int)::HT.flat (toI s)) ((q.1:Int)::(q.2:Int)::HT.flat (toI t))=true;rw[HT.lexLt_cons,HT.lexLt_cons];rcases h with h|⟨rfl,h⟩
  ·refine .inr ?_;rcases h with h|⟨e,h⟩
   ·rw[bu yw];simpa using h
   ·rw[cb yw,bu yw];simpa using h
  ·rcases wJ h (by simpa using hl)with e|e
   ·exact .inl (by rw[e])
   ·exact .inr (by rw[cb rfl,cb rfl];exact e)
theorem CI(r:List Nat):frR [] r=r:=by
 unfold frR;rw[List.filter_eq_self];intro a _;simp
theorem yO(p:List (List Nat)):frs8 [] p=p:=by
 unfold frs8;exact(ju fun r _=>CI r).trans (map_id' p)
theorem pL{g:Gap}{one other:List Int}(h2:other.length<=11):Ma 0 (aG g one other) [] (mtc g one other)/\(mtc g one other).length=nu 12 (aG g one other)/\∀s,Ma 0 (aG g one other) [] s->s.length=nu 12 (aG g one other)->leL (mtc g one other) s:=
 pU (m:=other.length) yw (aG g one other) 0 [] _ qW xH (by rw[yO])
theorem BA{g:Gap}{one other:List Int}(h2:other.length<=11):(mtc g one other).length<=one.length:=by
 obtain⟨f1,f2,_⟩:=(pL (g:=g) (one:=one) h2).1.facts;have:=pJ (m:=one.length) f2 fun j mj=>by
  obtain⟨p,mp,rfl⟩:=mem_map.mp mj;have z:=(f1 p mp).2.1;rw[show (aG g one other).length=one.length from bo ..,zero_add]at z;exact z
 rwa [bo]at this
theorem DZ{g:Gap}{one other:List Int}(h1:one.length<=4)(h2:other.length<=4)(q:R (.d (bA (mtc g one other))) []):nV [.d (.list ((prs g one other).map prD))] [] R:=by
 obtain⟨m1,m2,m3⟩:=pL (g:=g) (one:=one) (other:=other) yw;have hb:=qW (g:=g) (one:=one) (other:=other);have fl:(aG g one other).length=one.length:=bo ..;have pl:=rD (g:=g) (one:=one) (other:=other) one.length;have pm:one.length*other.length<=4*4:=mul_le_mul h1 h2;have p:∀s,s∈lm (prs g one other)↔Ma 0 (aG g one other) [] s:=fun s=>by rw[yG];exact sG
 have aa:(lm (prs g one other)).length<=209:=by
  rw[yG];refine dm (A4 hb fun r hr=>(xH r hr).imp fun h=>ff h) ?_;exact dm (BN (k':=4) (m':=4) yw yw) (by rw[ED];exact bp _)
 have y:∀s,s∈lm (prs g one other)->s.length<=nu 12 (aG g one other):=fun s ms=>by
  have:=iJ (n:=12) hb yw ((p s).mp ms)
  rwa [yO]at this
 unfold nV;walk_at "d"
 walk_at "n"
 refine Cy (by unfold prs at *;omega) yw ?_;walk_at "d";generalize lm (prs g one other)=L at p aa y ⊢
 walk_at "n"
 refine cmp1 (S0:=[]) (fun s:List Pr=>.int (s.length:Nat)) rfl L yw ?_ ?_
 ·intro s ms u acc R' hk;rw[nT];walk_at "d";exact hk _
 ·walk_at "d";unfold rF;walk_at "d";refine⟨L.map fun s=>((s.length:Nat):Int),by rw[jb];rfl,?_,fun w mw hw=>?_⟩
  ·intro z;have:=List.map_eq_nil_iff.mp z;have h0:=(p _).mpr m1;rw[this]at h0;cases h0
  ·have ew:w=(nu 12 (aG g one other):Nat):=by
    obtain⟨s,ms,rfl⟩:=mem_map.mp mw;have z1:=y s ms;have z2:=hw _ (mem_map.mpr ⟨_,(p _).mpr m1,rfl⟩);omega
   subst ew;refine cmf1 (S0:=[]) bA (fun s=>decide (s.length=nu 12 (aG g one other))) rfl L yw ?_ ?_
   ·intro s ms u acc R' hk;rw[nT];walk_at "d";rw[show decide ((s.length:Int)=(nu 12 (aG g one other):Nat))=decide (s.length=nu 12 (aG g one other))from by simp only[Int.natCast_inj]];refine hk _ fun _ T hT=>?_;walk_at "d";exact hT
   ·walk_at "d";refine⟨(L.filter fun s=>decide (s.length=nu 12 (aG g one other))).map toI,?_,?_,fun m mm hm=>?_⟩
    ·rw[jb];exact ju fun s _=>(xC s).symm
    ·intro z;have z1:=List.map_eq_nil_iff.mp z;have h0:mtc g one other∈L.filter fun s=>decide (s.length=nu 12 (aG g one other)):=mem_filter.mpr ⟨(p _).mpr m1,by simpa using m2⟩;rw[z1]at h0;cases h0
    ·obtain⟨s,ms,rfl⟩:=mem_map.mp mm;obtain⟨s1,s2⟩:=mem_filter.mp ms;have s3:s.length=nu 12 (aG g one other):=by simpa using s2
     have z:=hm (toI (mtc g one other)) (mem_map.mpr ⟨_,mem_filter.mpr ⟨(p _).mpr m1,by simpa using m2⟩,rfl⟩);rcases wJ (m3 s ((p s).mp s1) s3) (m2.trans s3.symm)with e|e
     ·rw[xC,<- e];exact q
     ·rw[e]at z;cases z
theorem zS{g:Gap}{s t:Int}{one other:List Int}(hg:Gp2 g s t)(h1:one.length<=4)(h2:other.length<=4)(q:R (.d (.bool true)) []):zC [.d (bC g),.d (bY one),.d (bY other)] [] R:=by
 unfold zC;walk_at "d"
 walk_at "n"
 refine Ci hg yw yw (.inl ?_);walk_at "d";refine DZ h1 h2 ?_;walk_at "d";walk_at "n";obtain⟨m1,m2,m3⟩:=pL (g:=g) (one:=one) (other:=other) yw;have ml:=BA (g:=g) (one:=one) (other:=other) yw;refine fK (fun i δ S=>∃(u v:Option XV),δ=[some (.d (bC g)),some (.d (bY one)),some (.d (bY other)),some (.d (bA (mtc g one other))),u,v]) ⟨_,_,rfl⟩ ?_ ?_
 ·rintro i d _ S1 N hi ⟨u,v,rfl⟩ hN;walk_at "d"
  walk_at "n"
  refine EI (one:=one) (other:=other) rfl rfl hg yw yw (.inr ?_);walk_at "d"
  walk_at "n"
  refine⟨_,by rw[ic (bp _),Nat.sub_self];rfl,rfl,?_⟩;refine CJ ?_;walk_at "d";refine⟨rfl,yw,_,by rw[ic (bp _),Nat.sub_self];rfl,by rw[bo];omega,hN _ _ ⟨_,_,rfl⟩⟩
 ·rintro _ S1 ⟨u,v,rfl⟩;walk_at "d";exact q
theorem Aa(a:Addr)(n:Int):p9 (AS a 5) ((some (.o (.ref a))::az 5 none).set 2 (some (.d (.int n)))) []:=by
 unfold p9;walk_at "d"
 walk_at "n"
 refine A5 fun p hp=>?_;walk_at "d"
 walk_at "n"
 refine FG hp dz dz fun g s t one other p1 hg h1 h2 l1 l2 q=>?_;walk_at "d";refine zS hg yw yw ?_;walk_at "d";refine zS hg yw yw ?_;walk_at "d"
def gap48:Gap:=⟨[(0,1),(1,1)],5,6⟩
theorem gp48:Gp2 gap48 1 1:=⟨rfl,⟨by decide,by decide,by decide⟩,⟨by decide,by decide,by decide⟩,by decide,by decide,by decide⟩
theorem Ez:(PyData.tuple [.tuple [.tuple [.int 0,.int 1],.tuple [.int 1,.int 1]],.int 5,.int 6])=bC gap48:=rfl
theorem CV(a:Addr):qI (AD a 5) (some (.o (.ref a))::az 5 none) []:=by
 unfold qI;walk_at "d";walk_at "n";rw[Ez];refine zS (one:=[]) (other:=[]) gp48 dz dz ?_;walk_at "d";refine zS (one:=[2,3]) (other:=[3]) gp48 dz dz ?_;walk_at "d";refine zS (one:=[2,3]) (other:=[3,4]) gp48 dz dz ?_;walk_at "d"
end
end My
namespace My
open PySem L2
def top (i : Nat) : Stmt := PySem.Challenge.pw_gaugewright_k48_matched_gone_through.main.body.getD i (.Pass ⟨0, 0, 0, 0⟩)
abbrev tT:Stmt:=top 12
theorem FK:FnScope ["script","k"] ["script","k"] (zf tT):=fsd
abbrev t9:Stmt:=top 14
theorem wO:FnScope ["cell","left"] ["cell"] (zf t9):=fsd
abbrev AA:Stmt:=top 13
theorem AI:FnScope ["seed"] ["seed"] (zf AA):=fsd
abbrev uG:Stmt:=top 15
theorem sC:FnScope ["pen","many","found"] ["pen","many"] (zf uG):=fsd
abbrev qN:Stmt:=top 18
theorem yI:FnScope ["pen","most","base","wide","many"] ["pen","most","base","wide"] (zf qN):=fsd
abbrev vN:Stmt:=top 17
theorem uE:FnScope ["pen","way"] ["pen"] (zf vN):=fsd
abbrev rJ:Stmt:=top 19
theorem zI:FnScope ["pen","most","bases","wide","s","t","far","low","high","one"] ["pen","most"] (zf rJ):=fsd
abbrev qP:Stmt:=top 23
theorem zE:FnScope ["due","found","i","j","more","row"] ["due"] (zf qP):=fsd
abbrev nC:Stmt:=top 24
theorem pS:FnScope ["due","some","longest"] ["due"] (zf nC):=fsd
abbrev vY:Stmt:=top 20
theorem mZ:FnScope ["gap","here","there","terms","low","high"] ["gap","here","there"] (zf vY):=fsd
abbrev uD:Stmt:=top 21
theorem oF:FnScope ["gap","one","other","found","i","j"] ["gap","one","other"] (zf uD):=fsd
abbrev pM:Stmt:=top 1
theorem Ar:FnScope ["gap","one"] ["gap","one"] (zf pM):=fsd
abbrev tW:Stmt:=top 2
theorem Dw:FnScope ["gap","one"] ["gap","one"] (zf tW):=fsd
abbrev qS:Stmt:=top 5
theorem Ce:FnScope ["gap","number","other"] ["gap","number","other"] (zf qS):=fsd
abbrev qR:Stmt:=top 4
theorem Av:FnScope ["gap","one","other"] ["gap","one","other"] (zf qR):=fsd
abbrev wQ:Stmt:=top 10
theorem sA:FnScope ["rows","i","matches","asked","j"] ["rows","i","matches","asked"] (zf wQ):=fsd
abbrev yE:Stmt:=top 9
theorem oW:FnScope ["rows","matches","i"] ["rows"] (zf yE):=fsd
abbrev pO:Stmt:=top 8
theorem BB:FnScope ["row","used"] ["row","used"] (zf pO):=fsd
abbrev qF:Stmt:=top 7
theorem pD:FnScope ["rows","i","used","wanted","j","later"] ["rows","i","used","wanted"] (zf qF):=fsd
abbrev sF:Stmt:=top 6
theorem f6:FnScope ["gap","one","other","rows","most","told","used","i","j"] ["gap","one","other"] (zf sF):=fsd
abbrev yX:Stmt:=top 16
theorem F0:FnScope ["found"] ["found"] (zf yX):=fsd
abbrev wP:Stmt:=top 22
theorem yF:FnScope ["found","due","one"] ["found","due"] (zf wP):=fsd
abbrev wD:Stmt:=top 25
theorem nX:FnScope ["gap","one","other","due","turn","found"] ["gap","one","other"] (zf wD):=fsd
abbrev s_law:Stmt:=top 26
theorem gN:FnScope ["script","gap","cell","pen","one","other"] ["script"] (zf s_law):=fsd
structure Txt(mg:Str->Option au):Prop where
 n_len:mg "len" = none
 n_max:mg "max" = none
 n_int:mg "int" = none
 n_tuple:mg "tuple" = none
 n_range:mg "range" = none
 n_abs:mg "abs" = none
 n_any:mg "any" = none
 n_min:mg "min" = none
 n_sum:mg "sum" = none
 n_enumerate:mg "enumerate" = none
 n_isinstance:mg "isinstance" = none
 n_bool:mg "bool" = none
 n_list:mg "list" = none
structure Dds(K:bf)(mg:Str->Option au):Prop where
 a0:Dd K mg "_law_cell_at" tT ["script","k"]
 a1:Dd K mg "_law_pen" t9 ["cell"]
 a2:Dd K mg "_law_next" AA ["seed"]
 a3:Dd K mg "_law_draw" uG ["pen","many"]
 a4:Dd K mg "_law_box" qN ["pen","most","base","wide"]
 a5:Dd K mg "_law_number" vN ["pen"]
 a6:Dd K mg "_law_boxes" rJ ["pen","most"]
 a7:Dd K mg "_law_matchings" qP ["due"]
 a8:Dd K mg "_law_best" nC ["due"]
 a9:Dd K mg "_law_fits" vY ["gap","here","there"]
 a10:Dd K mg "_law_due_pairs" uD ["gap","one","other"]
 a11:Dd K mg "worth_of" pM ["gap","one"]
 a12:Dd K mg "keeps" tW ["gap","one"]
 a13:Dd K mg "fitting_pieces" qS ["gap","number","other"]
 a14:Dd K mg "partners_of" qR ["gap","one","other"]
 a15:Dd K mg "find_match" wQ ["rows","i","matches","asked"]
 a16:Dd K mg "most_matched" yE ["rows"]
 a17:Dd K mg "free_partners" pO ["row","used"]
 a18:Dd K mg "least_partner" qF ["rows","i","used","wanted"]
 a19:Dd K mg "matched" sF ["gap","one","other"]
 a20:Dd K mg "_law_whole" yX ["found"]
 a21:Dd K mg "_law_pairs_are" wP ["found","due"]
 a22:Dd K mg "_law_right" wD ["gap","one","other"]
section
variable {P:ca}{w:cy}{K:bf}{mg:Str->Option au}{base:Heap}
local macro_rules|`(tactic|walk_at "r")=>do
 let ts<-("zk 0,zi 2,zz 0,zR 0,zD 0,aT 2,eR 2,bJ 1,mO 0,dX 2,gZ 0,nF 2,mJ 0,aT 0,vE 0,jI 3,c8 2,m8 0,cE 1,rN 0,eB 1,iA 0,yM 0,Cj 0,eP 1,bJ 0,oP 1,Bo 1,zi 0,dA 1,DH 1,E3 3,Db 0,jL 3,pE 1,mU 2,oG 0,kT 0,Bk 0,B4 0,eR 0,jL 0,j4 1,BZ 0,A0 2,C5 0,CM 5,qY 0,CL 0,uB 0,BG 2,B7 0,BK 0,F7 0,E1 0,uL 0,Aj 1,jI 0,eP 0,eB 0,wI 0,uJ 0,vL 0,vX 0,wZ 0,xW 0,wF 0,yV 0,Fj 1,Bs 2,Ae 1,cC 3,eI 2,pN 1,eI 0".splitOn ",").toArray.mapM fun x=>do
  let i:=x.splitOn " "
  let h<-`(term|?_)
  let hs:=Array.replicate ((i.getD 1 "").toNat!) h
  `(Lean.Parser.Tactic.tacticSeq|refine $(Lean.mkIdent (i.getD 0 "").toName) $hs*)
 `(tactic|repeat' (first|with_reducible (first $[|$ts:tacticSeq]*)|rfl))
theorem ES(T:Txt mg:=by assumption)(dd:Dds K mg:=by assumption):Df P w K mg base "_law_cell_at" ["script","k"] 1 (sp2 (pV K)):=by
 refine Df.of2 dd.a0 FK (fun v u=>[some v,some u]) (fun _ _=>rfl) fun f p A outer s H v u Q E hr h=>?_;obtain⟨a,ns,i,rfl,rfl,hS,h0,q⟩:=h;refine⟨_,(zh (bD (bW qL (pv 1) (zy Ek (by rfl) T.n_len cA (za (pv 0) ze)) (nomark _)) (zl (zB (aH w8 (pv 0) (pv 1) (fun _ _=>rfl)))) bF) (zl (zB zg))),?_⟩;simp only[bN,lD,nI,tOp,EA,tCB,bU,gE,oX,tC,pK,yB,iy,ib];refine⟨a,_,rfl,.inl hS,?_⟩;simp only[yB,FD,decide_eq_true_eq];refine ite2 (fun hi=>?_) (fun _=>q 0);obtain⟨n,e⟩:=Bj h0 hi;exact⟨a,_,i,_,rfl,rfl,hS,e,q n⟩
variable (T:Txt mg:=by assumption) (dd:Dds K mg:=by assumption)
include T dd
theorem Dr:Df P w K mg base "_law_pen" ["cell"] 1 (spN ["cell"] oJ):=by
 exact Df.dN dd.a1 wO 1 rfl fun f p A outer s H E hr=>⟨_,_,(zh (zN (i:=1) wO.nd rfl lo (zy (EV rfl) (by rfl) T.n_max AE (za (pv 0) (za (zF fU zg (pv 0)) ze)))) (zl (zB (b0 (za (pv 1) (za (tN EQ (by rfl) T.n_int x8 (za (mQ Bh (pv 1) (zF m6 zg zg) (nomark _)) ze)) (za (zF lI (pv 1) zg) ze))))))),(by walk_at "r"),fun xs S R q=>q⟩
theorem tK:Df P w K mg base "_law_next" ["seed"] 1 (spN ["seed"] jM):=by
 exact Df.dN dd.a2 AI 0 rfl fun f p A outer s H E hr=>⟨_,_,(zh (zN (i:=0) AI.nd rfl lo (zF lI (zF zX (pv 0) zg) zg)) (zl (zB (zF lI (zF zX (zF zX (zF cF (pv 0) (pv 0)) (zF cF zg (pv 0))) zg) zg)))),(by walk_at "r"),fun xs S R q=>q⟩
theorem zM:Df P w K mg base "_law_draw" ["pen","many"] 2 (spN ["pen","many"] zt):=by
 exact Df.dN dd.a3 sC 1 rfl fun f p A outer s H E hr=>⟨_,_,(zh (bD (bW (fY hr.units) (aH zP (pv 0) zg (fun _ _=>rfl)) zg (nomark _)) (zh (zN (i:=2) sC.nd rfl lo (zF lI (aH zP (pv 0) zg (fun _ _=>rfl)) (pv 1))) (zh (jQ (zF wX (aH zP (pv 0) zg (fun _ _=>rfl)) (pv 1)) (tQ (pv 0) zg tP)) (zl (zB (pv 2))))) bF) (zh (jQ (zw tK hr dz (za (zF zX (zw tK hr dz (za (aH zP (pv 0) zg (fun _ _=>rfl)) ze)) zg) ze)) (tQ (pv 0) zg tP)) (zl (zB (zF lI (zF wX (aH zP (pv 0) zg (fun _ _=>rfl)) zg) (pv 1)))))),(by walk_at "r"),fun xs S R q=>q⟩
theorem uI:Df P w K mg base "_law_box" ["pen","most","base","wide"] 3 (spN ["pen","most","base","wide"] l5):=by
 exact Df.dN dd.a4 yI 1 rfl fun f p A outer s H E hr=>⟨_,_,(zh (zN (i:=4) yI.nd rfl lo (zw zM hr dz (za (pv 0) (za (zF zX (pv 1) zg) ze)))) (zh (bD (bW (fY hr.units) (zw zM hr dz (za (pv 0) (za zg ze))) zg (nomark _)) (zl (zB (zF A3 (aX (za (pv 2) ze)) (pv 4)))) bF) (zl (zB (tN F9 (by rfl) T.n_tuple sV (za (eE (fun _ _ h=>h) rfl (c9 rfl rfl rfl rfl (N:=["k","base","pen","wide"]) (caps:=[none,some 2,some 0,some 3]) (by show cG ["pen","most","base","wide","many"] (zf qN).names _ _ _=true;decide +kernel)) (gH rfl T.n_range (za (pv 4) ze)) (fun _ _ _ _=>(zq (i:=0) (by show gt (["k","base","pen","wide"]:List Str);decide) rfl (fk rfl))) (fun _ _ _ _=>fQ) (fun _ _ _ _=>(zF zX (pv 1) (zw zM hr dz (za (pv 2) (za (pv 3) ze)))))) ze)))))),(aT (by walk_at "r") (aT (by walk_at "r") (bJ (eI uL (zi (gD (pE (zi zk zz)) zD gK (cC mJ zk (nF (i:=0) (zi zk (zi zk zz))))) zz))))),fun xs S R q=>q⟩
theorem tI:Df P w K mg base "_law_number" ["pen"] 3 (spN ["pen"] nB):=by
 exact Df.dN dd.a5 uE 1 rfl fun f p A outer s H E hr=>⟨_,_,(zh (zN (i:=1) uE.nd rfl lo (zw zM hr dz (za (pv 0) (za zg ze)))) (zh (bD (bW qL (pv 1) zg (nomark _)) (zl (zB (zF fU (zw zM hr dz (za (pv 0) (za zg ze))) zg))) bF) (zh (bD (bW qL (pv 1) zg (nomark _)) (zl (zB (zF fU (zw zM hr dz (za (pv 0) (za zg ze))) zg))) bF) (zl (zB (zF cF (zF fU (zw zM hr dz (za (pv 0) (za (zF cF zg (zF m6 zg zg)) ze))) (zF m6 zg zg)) (zF m6 zg zg))))))),(by walk_at "r"),fun xs S R q=>q⟩
theorem CO:Df P w K mg base "_law_boxes" ["pen","most"] 4 (spN ["pen","most"] nA):=by
 exact Df.dN dd.a6 zI 8 rfl fun f p A outer s H E hr=>⟨_,_,(zh (zN (i:=2) zI.nd rfl lo (b0 (za (zw tI hr dz (za (pv 0) ze)) (za (zw tI hr dz (za (pv 0) ze)) ze)))) (zh (zN (i:=3) zI.nd rfl lo (aH zP (b0 (za zg (za zg (za zg (za zg ze))))) (zw zM hr dz (za (pv 0) (za zg ze))) (fun _ _=>rfl))) (zh (jQ (eE (fun _ _ h=>h) rfl (c9 rfl rfl rfl rfl (N:=["k","pen"]) (caps:=[none,some 0]) (by show cG ["pen","most","bases","wide","s","t","far","low","high","one"] (zf rJ).names _ _ _=true;decide +kernel)) (gH rfl T.n_range (za zg ze)) (fun _ _ _ _=>(zq (i:=0) (by show gt (["k","pen"]:List Str);decide) rfl (fk rfl))) (fun _ _ _ _=>fQ) (fun _ _ _ _=>(aH zP (vR (cD zg (cD (oM pW zg) (cD zg (cD (oM pW zg) (cD zg (cD (oM pW zg) h9))))))) (zw zM hr dz (za (pv 1) (za zg ze))) (fun _ _=>rfl)))) (EG (n:=2) rfl (zL (zq (i:=4) zI.nd rfl (fk rfl)) (zL (zq (i:=5) zI.nd rfl (fk rfl)) gJ)))) (zh (zN (i:=6) zI.nd rfl lo (zF cF (pv 3) (zF zX (zy xK (by rfl) T.n_abs AC (za (pv 4) ze)) (zy xK (by rfl) T.n_abs AC (za (pv 5) ze))))) (zh (zN (i:=7) zI.nd rfl lo (zF fU (zF zX (zF zX (zF cF (pv 4) (aH zP (pv 2) zg (fun _ _=>rfl))) (zF cF (pv 5) (aH zP (pv 2) zg (fun _ _=>rfl)))) (zw zM hr dz (za (pv 0) (za (zF zX (zF cF zg (pv 6)) zg) ze)))) (pv 6))) (zh (zN (i:=8) zI.nd rfl lo (zF zX (pv 7) (aH zP (vR (cD zg (cD zg (cD zg (cD (pv 3) (cD (pv 6) (cD (zF cF zg (pv 3)) h9))))))) (zw zM hr dz (za (pv 0) (za zg ze))) (fun _ _=>rfl)))) (zh (zN (i:=9) zI.nd rfl lo (zw uI hr dz (za (pv 0) (za (pv 1) (za (aH zP (pv 2) zg (fun _ _=>rfl)) (za (pv 3) ze)))))) (zl (zB (aX (za (aX (za (aX (za (aX (za zg (za (pv 4) ze))) (za (aX (za zg (za (pv 5) ze))) ze))) (za (pv 7) (za (pv 8) ze)))) (za (pv 9) (za (zw uI hr dz (za (pv 0) (za (pv 1) (za (aH zP (pv 2) zg (fun _ _=>rfl)) (za (pv 3) ze))))) ze))))))))))))),(aT (by walk_at "r") (aT (by walk_at "r") (aT (eR (gD (pE (zi zR zz)) zD gK (cC mO (oP (zi zR (zi (qZ qC zR) (zi zR (zi (qZ qC zR) (zi zR (zi (qZ qC zR) zz))))))) (nF (i:=0) (zi zk (zi zR zz))))) (by walk_at "r")) (by walk_at "r")))),fun xs S R q=>q⟩
theorem EK:Df P w K mg base "_law_matchings" ["due"] 1 (spN ["due"] l9):=by
 exact Df.dN dd.a7 zE 5 rfl fun f p A outer s H E hr=>⟨_,_,(zh (zN (i:=1) zE.nd rfl lo (b0 (za (b0 ze) ze))) (zh (cO fi rfl (cB (pv 0)) (h8 (n:=2) rfl (zL (zq (i:=2) zE.nd rfl (Or.inr rfl)) (zL (zq (i:=3) zE.nd rfl (Or.inr rfl)) gJ))) (zh (zN (i:=4) zE.nd rfl lo (b0 ze)) (zh (cO fi rfl (cB (pv 1)) (zq (i:=5) zE.nd rfl (fk rfl)) (zl (bD (cW (zV (zy (BL rfl) (by rfl) T.n_any FZ (za (eE (fun _ _ h=>h) rfl (c9 rfl rfl rfl rfl (N:=["a","b","i","j"]) (caps:=[none,none,some 2,some 3]) (by show cG ["due","found","i","j","more","row"] (zf qP).names _ _ _=true;decide +kernel)) (cB (pv 5)) (fun _ _ _ _=>(h8 (n:=2) rfl (zL (zq (i:=0) (by show gt (["a","b","i","j"]:List Str);decide) rfl (fk rfl)) (zL (zq (i:=1) (by show gt (["a","b","i","j"]:List Str);decide) rfl (fk rfl)) gJ)))) (fun _ _ _ _=>fQ) (fun _ _ _ _=>(C7 (mQ (fY hr.units) (pv 2) (pv 0) (nomark _)) (sE (mQ (fY hr.units) (pv 3) (pv 1) (nomark _)))))) ze)) (fun _=>rfl))) (zl (iH (jZ PySem.F.plainAttrs_list PySem.F.slot_list_append PySem.F.type_list_append gY (pv 4) (za (zF zX (pv 5) (b0 (za (aX (za (pv 2) (za (pv 3) ze))) ze))) ze)))) bF))) (zl (zN (i:=1) zE.nd rfl lo (zF zX (pv 1) (pv 4))))))) (zl (zB (pv 1))))),(aT (by walk_at "r") (aT (jL (dA zk) (by walk_at "r") (aT (by walk_at "r") (aT (jL (dA zk) zD (jI (eP (eB (eI wI (zi (gD (dA zk) (j4 (c8 zD (c8 zD kT))) gK (Be (cC oG zk zk) (cC oG zk zk))) zz)))) (by walk_at "r") gZ)) (by walk_at "r")))) (bJ zk))),fun xs S R q=>q⟩
theorem F3:Df P w K mg base "_law_best" ["due"] 2 (spN ["due"] nV):=by
 exact Df.dN dd.a8 pS 2 rfl fun f p A outer s H E hr=>⟨_,_,(zh (zN (i:=1) pS.nd rfl lo (zw EK hr dz (za (pv 0) ze))) (zh (zN (i:=2) pS.nd rfl (Or.inr rfl) (zy (Af rfl) (by rfl) T.n_max AE (za (eE (fun _ _ h=>h) rfl (c9 rfl rfl rfl rfl (N:=["row"]) (caps:=[none]) (by show cG ["due","some","longest"] (zf nC).names _ _ _=true;decide +kernel)) (cB (pv 1)) (fun _ _ _ _=>(zq (i:=0) (by show gt (["row"]:List Str);decide) rfl (fk rfl))) (fun _ _ _ _=>fQ) (fun _ _ _ _=>(zy c7 (by rfl) T.n_len cA (za (pv 0) ze)))) ze))) (zl (zB (zy (Ad rfl hr.units) (by rfl) T.n_min A8 (za (eE (fun _ _ h=>h) rfl (c9 rfl rfl rfl rfl (N:=["row","longest"]) (caps:=[none,some 2]) (by show cG ["due","some","longest"] (zf nC).names _ _ _=true;decide +kernel)) (cB (pv 1)) (fun _ _ _ _=>(zq (i:=0) (by show gt (["row","longest"]:List Str);decide) rfl (fk rfl))) (fun _ _ _ _=>(pG (bW (fY hr.units) (zy c7 (by rfl) T.n_len cA (za (pv 0) ze)) (pv 1) (nomark _)))) (fun _ _ _ _=>(pv 0))) ze)))))),(aT (by walk_at "r") (aT (eR (eI uJ (zi (gD (dA zk) zD gK (eI rN (zi zk zz))) zz)) zD) (bJ (eI vL (zi (gD (dA zk) zD (pN (cC oG (eI rN (zi zk zz)) zk)) zk) zz))))),fun xs S R q=>q⟩
theorem Dx:Df P w K mg base "_law_fits" ["gap","here","there"] 1 (spN ["gap","here","there"] nE):=by
 exact Df.dN dd.a9 mZ 3 rfl fun f p A outer s H E hr=>⟨_,_,(zh (jQ (pv 0) (h8 (n:=3) rfl (zL (zq (i:=3) mZ.nd rfl (fk rfl)) (zL (zq (i:=4) mZ.nd rfl (fk rfl)) (zL (zq (i:=5) mZ.nd rfl (fk rfl)) gJ))))) (zl (zB (y8 mT mT (pv 4) (zF zX (zF cF (aH zP (aH zP (pv 3) zg (fun _ _=>rfl)) zg (fun _ _=>rfl)) (pv 1)) (zF cF (aH zP (aH zP (pv 3) zg (fun _ _=>rfl)) zg (fun _ _=>rfl)) (pv 2))) (pv 5))))),(by walk_at "r"),fun xs S R q=>q⟩
theorem CQ:Df P w K mg base "_law_due_pairs" ["gap","one","other"] 2 (spN ["gap","one","other"] mL):=by
 exact Df.dN dd.a10 oF 3 rfl fun f p A outer s H E hr=>⟨_,_,(zh (zN (i:=3) oF.nd rfl lo (b0 ze)) (zh (cO fi rfl (gH rfl T.n_range (za (zy c7 (by rfl) T.n_len cA (za (pv 1) ze)) ze)) (zq (i:=4) oF.nd rfl (fk rfl)) (zl (cO fi rfl (gH rfl T.n_range (za (zy c7 (by rfl) T.n_len cA (za (pv 2) ze)) ze)) (zq (i:=5) oF.nd rfl (fk rfl)) (zl (bD (zV (zw Dx hr dz (za (pv 0) (za (aH zP (pv 1) (pv 4) (fun _ _=>rfl)) (za (aH zP (pv 2) (pv 5) (fun _ _=>rfl)) ze)))) (fun _=>rfl)) (zl (iH (jZ PySem.F.plainAttrs_list PySem.F.slot_list_append PySem.F.type_list_append gY (pv 3) (za (aX (za (pv 4) (za (pv 5) ze))) ze)))) bF))))) (zl (zB (pv 3))))),(by walk_at "r"),fun xs S R q=>q⟩
theorem Fd:Df P w K mg base "worth_of" ["gap","one"] 1 (spN ["gap","one"] n8):=by
 exact Df.dN dd.a11 Ar 0 rfl fun f p A outer s H E hr=>⟨_,_,(zl (zB (zy (CA rfl) (by rfl) T.n_sum Cu (za (eE (fun _ _ h=>h) rfl (c9 rfl rfl rfl rfl (N:=["part","times","one"]) (caps:=[none,none,some 1]) (by show cG ["gap","one"] (zf pM).names _ _ _=true;decide +kernel)) (cB (aH zP (pv 0) zg (fun _ _=>rfl))) (fun _ _ _ _=>(h8 (n:=2) rfl (zL (zq (i:=0) (by show gt (["part","times","one"]:List Str);decide) rfl (fk rfl)) (zL (zq (i:=1) (by show gt (["part","times","one"]:List Str);decide) rfl (fk rfl)) gJ)))) (fun _ _ _ _=>fQ) (fun _ _ _ _=>(zF cF (pv 1) (aH zP (pv 2) (pv 0) (fun _ _=>rfl))))) ze)))),(bJ (eI vX (zi (gD (dA (cC mO zk zR)) (j4 (c8 zD (c8 zD kT))) gK (cC vE zk (cC mO zk zk))) zz))),fun xs S R q=>q⟩
theorem FT:Df P w K mg base "keeps" ["gap","one"] 2 (spN ["gap","one"] nJ):=by
 exact Df.dN dd.a12 Dw 0 rfl fun f p A outer s H E hr=>⟨_,_,(zl (zB (y8 mT mT (aH zP (pv 0) zg (fun _ _=>rfl)) (zw Fd hr dz (za (pv 0) (za (pv 1) ze))) (aH zP (pv 0) zg (fun _ _=>rfl))))),(by walk_at "r"),fun xs S R q=>q⟩
theorem Ff:Df P w K mg base "fitting_pieces" ["gap","number","other"] 3 (spN ["gap","number","other"] mV):=by
 exact Df.dN dd.a13 Ce 0 rfl fun f p A outer s H E hr=>⟨_,_,(zl (zB (eE (fun _ _ h=>h) rfl (c9 rfl rfl rfl rfl (N:=["j","its_number","gap","number"]) (caps:=[none,none,some 0,some 1]) (by show cG ["gap","number","other"] (zf qS).names _ _ _=true;decide +kernel)) (Bu rfl T.n_enumerate (za (pv 2) ze)) (fun _ _ _ _=>(h8 (n:=2) rfl (zL (zq (i:=0) (by show gt (["j","its_number","gap","number"]:List Str);decide) rfl (fk rfl)) (zL (zq (i:=1) (by show gt (["j","its_number","gap","number"]:List Str);decide) rfl (fk rfl)) gJ)))) (fun _ _ _ _=>(pG (zV (zw FT hr dz (za (pv 2) (za (aX (za (pv 3) (za (pv 1) ze))) ze))) (fun _=>rfl)))) (fun _ _ _ _=>(pv 0))))),(bJ (qD (Es (zi zk zz)) (j4 (c8 zD (c8 zD kT))) (eB (dX (zi zk (zi (cE (zi zk (zi zk zz))) zz)))) zk)),fun xs S R q=>q⟩
theorem B9:Df P w K mg base "partners_of" ["gap","one","other"] 4 (spN ["gap","one","other"] oC):=by
 exact Df.dN dd.a14 Av 0 rfl fun f p A outer s H E hr=>⟨_,_,(zl (zB (eE (fun _ _ h=>h) rfl (c9 rfl rfl rfl rfl (N:=["number","gap","other"]) (caps:=[none,some 0,some 2]) (by show cG ["gap","one","other"] (zf qR).names _ _ _=true;decide +kernel)) (cB (pv 1)) (fun _ _ _ _=>(zq (i:=0) (by show gt (["number","gap","other"]:List Str);decide) rfl (fk rfl))) (fun _ _ _ _=>fQ) (fun _ _ _ _=>(zw Ff hr dz (za (pv 1) (za (pv 0) (za (pv 2) ze)))))))),(bJ (qD (dA zk) zD gK (dX (zi zk (zi zk (zi zk zz)))))),fun xs S R q=>q⟩
theorem tD:∀n,Df P w K mg base "find_match" ["rows","i","matches","asked"] (1+n) (spM ["rows","i","matches","asked"] (zK n))
 | 0=>Df.noneM dd.a15
 |n+1=>by
  have oT:=tD  n;show Df P w K mg base "find_match" ["rows","i","matches","asked"] (1+n+1) (spM ["rows","i","matches","asked"] (zK (n+1)));exact Df.dM dd.a15 sA 1 rfl fun f p A outer s H E hr=>⟨_,_,(zh (cO fi rfl (cB (aH zP (pv 0) (pv 1) (fun _ _=>rfl))) (zq (i:=4) sA.nd rfl (fk rfl)) (zh (bD (bW (FX hr.units) (pv 4) (pv 3) (by rfl)) (zl Cc) bF) (zh (wA (qU hr) (pv 3) (pv 4) dD rfl) (zl (bD (PW.pt (eK (bW (Fm hr.units) (pv 4) (pv 2) (by rfl)) (iX (zV (vD oT hr yw (za (pv 0) (za (Dz (qU hr) (pv 2) (pv 4) (fun _ _=>rfl)) (za (pv 2) (za (pv 3) ze))))) (fun _=>rfl))))) (zh (wA (qU hr) (pv 2) (pv 4) (pv 1) rfl) (zl (zB dD))) bF))))) (zl (zB dD))),(oD (tV (fun M=>tZ (by walk_at "r")) zD (oD (Ch (fun M=>(uW (xO qY (zY zk) (zY zk)))) (i4 wZ) (i4 gZ)) (oD (yU (fun M=>(zY zk)) (fun M=>(zY iA))) (xW (FP (Cw (fun M=>(uW (xO qY (zY zk) (zY zk))))) (Dp (fun M=>(m4 (zY zk) (m4 (CZ (zY zk) (zY zk)) (m4 (zY zk) (m4 (zY zk) (CH zz)))))))) (oD (yU (fun M=>(zY zk)) (fun M=>(zY zk))) (i4 (bJ iA))) (i4 gZ))))) (i4 (bJ iA))),fun xs S M R q=>q⟩
theorem oT:Df P w K mg base "find_match" ["rows","i","matches","asked"] 13 (spM ["rows","i","matches","asked"] oE):=tD T dd  12
theorem tB:Df P w K mg base "most_matched" ["rows"] 14 (spN ["rows"] zT):=by
 exact Df.dN dd.a16 oW 2 rfl fun f p A outer s H E hr=>⟨_,_,(zh (zN (i:=1) oW.nd rfl lo w4) (zh (AY (i:=1) (cO fi rfl (gH rfl T.n_range (za (zy c7 (by rfl) T.n_len cA (za (pv 0) ze)) ze)) (zq (i:=2) oW.nd rfl (fk rfl)) (zl (iH (vD oT hr dz (za (pv 0) (za (pv 2) (za (pv 1) (za w4 ze))))))))) (zl (zB (pv 1))))),(wF (F8 (Bf (tV (fun M=>tZ (by walk_at "r")) zD (yV (fun M=>(zY zk)) (fun M=>(zY zk)) (fun M=>(zY zk)))))) (bJ zk)),fun xs S R q=>q⟩
theorem wR:Df P w K mg base "free_partners" ["row","used"] 1 (spN ["row","used"] zO):=by
 exact Df.dN dd.a17 BB 0 rfl fun f p A outer s H E hr=>⟨_,_,(zl (zB (eE (fun _ _ h=>h) rfl (c9 rfl rfl rfl rfl (N:=["j","used"]) (caps:=[none,some 1]) (by show cG ["row","used"] (zf pO).names _ _ _=true;decide +kernel)) (cB (pv 0)) (fun _ _ _ _=>(zq (i:=0) (by show gt (["j","used"]:List Str);decide) rfl (fk rfl))) (fun _ _ _ _=>(pG (bW (BP hr.units) (pv 0) (pv 1) (by rfl)))) (fun _ _ _ _=>(pv 0))))),(bJ (qD (dA zk) zD (pN (cC FW zk zk)) zk)),fun xs S R q=>q⟩
theorem CW:Df P w K mg base "least_partner" ["rows","i","used","wanted"] 15 (spN ["rows","i","used","wanted"] nQ):=by
 exact Df.dN dd.a18 pD 2 rfl fun f p A outer s H E hr=>⟨_,_,(zh (cO fi rfl (cB (zw wR hr dz (za (aH zP (pv 0) (pv 1) (fun _ _=>rfl)) (za (pv 2) ze)))) (zq (i:=4) pD.nd rfl (Or.inr rfl)) (zh (EH (i:=5) (fun _ _ h=>h) rfl (c9 rfl rfl rfl rfl (N:=["row","used","j"]) (caps:=[none,some 2,some 4]) (by show cG ["rows","i","used","wanted","j","later"] (zf qF).names _ _ _=true;decide +kernel)) pD.nd rfl rfl (cB (v0 FQ (pv 0) (pZ (zF zX (pv 1) zg)) FC)) (fun _ _ _ _=>(zq (i:=0) (by show gt (["row","used","j"]:List Str);decide) rfl (fk rfl))) (fun _ _ _ _=>fQ) (fun _ _ _ _=>(zw wR hr dz (za (pv 0) (za (zF zX (pv 1) (b0 (za (pv 2) ze))) ze))))) (zl (bD (bW (fY hr.units) (zy yH (by rfl) T.n_len cA (za (zw tB hr dz (za (pv 5) ze)) ze)) (pv 3) (nomark _)) (zl (zB (pv 4))) bF)))) (zl (zB rQ))),(aT (jL (by walk_at "r") zD (aT (eR (gD (dA (Cm Bl zk (FH (cC mJ zk zR)) Dt)) zD gK (dX (zi zk (zi (cC mJ zk (oP (zi zk zz))) zz)))) zD) (by walk_at "r"))) (bJ uB)),fun xs S R q=>q⟩
theorem Eo:Df P w K mg base "matched" ["gap","one","other"] 16 (spN ["gap","one","other"] mR):=by
 exact Df.dN dd.a19 f6 6 rfl fun f p A outer s H E hr=>⟨_,_,(zh (zN (i:=3) f6.nd rfl lo (zw B9 hr dz (za (pv 0) (za (pv 1) (za (pv 2) ze))))) (zh (zN (i:=4) f6.nd rfl lo (zy yH (by rfl) T.n_len cA (za (zw tB hr dz (za (pv 3) ze)) ze))) (zh (zN (i:=5) f6.nd rfl lo (b0 ze)) (zh (zN (i:=6) f6.nd rfl lo (b0 ze)) (zh (cO fi rfl (gH rfl T.n_range (za (zy c7 (by rfl) T.n_len cA (za (pv 3) ze)) ze)) (zq (i:=7) f6.nd rfl (fk rfl)) (zh (zN (i:=8) f6.nd rfl lo (zw CW hr dz (za (pv 3) (za (pv 7) (za (pv 6) (za (zF fU (zF fU (pv 4) (zy c7 (by rfl) T.n_len cA (za (pv 5) ze))) zg) ze)))))) (zl (bD (bW EZ (pv 8) rQ (nomark _)) (zh (iH (jZ PySem.F.plainAttrs_list PySem.F.slot_list_append PySem.F.type_list_append gY (pv 5) (za (aX (za (pv 7) (za (pv 8) ze))) ze))) (zl (iH (jZ PySem.F.plainAttrs_list PySem.F.slot_list_append PySem.F.type_list_append gY (pv 6) (za (pv 8) ze))))) bF)))) (zl (zB (pv 5)))))))),(by walk_at "r"),fun xs S R q=>q⟩
theorem uV:Df P w K mg base "_law_whole" ["found"] 1 (spN ["found"] lL):=by
 exact Df.dN dd.a20 F0 0 rfl fun f p A outer s H E hr=>⟨_,_,(zl (zB (Ei (zy nY (by rfl) T.n_isinstance mC (za (pv 0) (za (nU rfl T.n_int x8 (v:=.ty "int") rfl) ze))) (sE (ER (zy nY (by rfl) T.n_isinstance mC (za (pv 0) (za (nU rfl T.n_bool DU (v:=.ty "bool") rfl) ze)))))))),(by walk_at "r"),fun xs S R q=>q⟩
theorem Al:Df P w K mg base "_law_pairs_are" ["found","due"] 2 (spN ["found","due"] m5):=by
 exact Df.dN dd.a21 yF 1 rfl fun f p A outer s H E hr=>⟨_,_,(zh (bD (PW.pt (eK (cW (zV (zy nY (by rfl) T.n_isinstance mC (za (pv 0) (za (nU rfl T.n_list Ds (v:=.ty "list") rfl) ze))) (fun _=>rfl))) (iX (bW (uO hr.units) (zy c7 (by rfl) T.n_len cA (za (pv 0) ze)) (zy c7 (by rfl) T.n_len cA (za (pv 1) ze)) (nomark _))))) (zl (zB dD)) bF) (zh (cO fi rfl (cB (pv 0)) (zq (i:=2) yF.nd rfl (fk rfl)) (zl (bD (PW.pt (eK (cW (zV (zy nY (by rfl) T.n_isinstance mC (za (pv 2) (za (nU rfl T.n_tuple sV (v:=.ty "tuple") rfl) ze))) (fun _=>rfl))) (eK (bW (uO hr.units) (zy c7 (by rfl) T.n_len cA (za (pv 2) ze)) zg (nomark _)) (eK (cW (zV (zw uV hr dz (za (aH zP (pv 2) zg (fun _ _=>rfl)) ze)) (fun _=>rfl))) (iX (cW (zV (zw uV hr dz (za (aH zP (pv 2) zg (fun _ _=>rfl)) ze)) (fun _=>rfl)))))))) (zl (zB dD)) bF))) (zl (zB (mQ (fY hr.units) (pv 0) (pv 1) (nomark _)))))),(by walk_at "r"),fun xs S R q=>q⟩
theorem jX:Df P w K mg base "_law_right" ["gap","one","other"] 17 (spN ["gap","one","other"] zC):=by
 exact Df.dN dd.a22 nX 3 rfl fun f p A outer s H E hr=>⟨_,_,(zh (zN (i:=3) nX.nd rfl lo (zw F3 hr dz (za (zw CQ hr dz (za (pv 0) (za (pv 1) (za (pv 2) ze)))) ze))) (zh (cO fi rfl (gH rfl T.n_range (za zg ze)) (zq (i:=4) nX.nd rfl (fk rfl)) (zh (zN (i:=5) nX.nd rfl lo (zw Eo hr dz (za (pv 0) (za (pv 1) (za (pv 2) ze))))) (zh (bD (cW (zV (zw Al hr dz (za (pv 5) (za (pv 3) ze))) (fun _=>rfl))) (zl (zB dD)) bF) (zl (iH (jZ PySem.F.plainAttrs_list PySem.F.slot_list_append PySem.F.type_list_append gY (pv 5) (za rQ ze))))))) (zl (zB dD)))),(by walk_at "r"),fun xs S R q=>q⟩
theorem ok_law{f:Addr}{fd:jd}(F:Fun K "law" "law" s_law f fd):FnOk P w K mg base CX0 18 f fd ["script"] (sp1 (p0 K)):=by
 refine F.ok1 gN (fun v=>[some v,none,none,none,none,none]) (fun _=>rfl) fun y A outer s H v Q E hr h=>?_;obtain⟨a,ns,rfl,hS,p,q⟩:=h;refine Ep ?_;refine⟨_,(DJ (Eh (i:=1) gN.nd rfl (fk rfl) (nL (pR (nL (pR (nL (hU (QE.mk zg) (hU (QE.mk zg) h9))) (pR (nL (hU (QE.mk zg) (hU (QE.mk zg) h9))) h9))) (hU (QE.mk zg) (hU (QE.mk zg) h9))))) (QSs.mk (zh (bD (PW.pt (eK (cW (zV (zw jX hr dz (za (pv 1) (za (aX ze) (za (aX ze) ze)))) (fun _=>rfl))) (eK (cW (zV (zw jX hr dz (za (pv 1) (za (aX (za zg (za zg ze))) (za (aX (za zg ze)) ze)))) (fun _=>rfl))) (iX (cW (zV (zw jX hr dz (za (pv 1) (za (aX (za zg (za zg ze))) (za (aX (za zg (za zg ze))) ze)))) (fun _=>rfl))))))) (zl (zB dD)) bF) (zh (cO fi rfl (Ba (zF vI (b0 (za (By ES hr dz (pv 0) zg) ze)) (v0 v6 (pv 0) (pZ zg) (pZ zg)))) (zq (i:=2) gN.nd rfl (fk rfl)) (zh (zN (i:=3) gN.nd rfl lo (zw Dr hr dz (za (pv 2) ze))) (zh (jQ (zw CO hr dz (za (pv 3) (za zg ze))) (h8 (n:=3) rfl (zL (zq (i:=1) gN.nd rfl (fk rfl)) (zL (zq (i:=4) gN.nd rfl (fk rfl)) (zL (zq (i:=5) gN.nd rfl (fk rfl)) gJ))))) (zl (bD (PW.pt (eK (cW (zV (zw jX hr dz (za (pv 1) (za (pv 4) (za (pv 5) ze)))) (fun _=>rfl))) (iX (cW (zV (zw jX hr dz (za (pv 1) (za (pv 5) (za (pv 4) ze)))) (fun _=>rfl)))))) (zl (zB dD)) bF))))) (zl (zB dD)))))),?_⟩;refine Fo (a:=a) (m:=5) (dt:=qI) (aT (eR (cE (zi (cE (zi (cE (zi zR (zi zR zz))) (zi (cE (zi zR (zi zR zz))) zz))) (zi zR (zi zR zz)))) zD) (jI (mU (eP (eB (dX (zi zk (zi (cE zz) (zi (cE zz) zz)))))) (mU (eP (eB (dX (zi zk (zi (cE (zi zR (zi zR zz))) (zi (cE (zi zR zz)) zz)))))) (eP (eB (dX (zi zk (zi (cE (zi zR (zi zR zz))) (zi (cE (zi zR (zi zR zz))) zz)))))))) (bJ iA) gZ)) rfl rfl (CV a) fun σ1 H1 z0 z1 s1=>?_;exact CC (m:=5) (db:=p9) (aT (eR (dX (zi zk zz)) zD) (aT (eR (nF (i:=0) (zi zk (zi zR zz))) (j4 (c8 zD (c8 zD (c8 zD kT))))) (jI (mU (eP (eB (dX (zi zk (zi zk (zi zk zz)))))) (eP (eB (dX (zi zk (zi zk (zi zk zz))))))) (bJ iA) gZ))) z0 z1 (s1.seq hS) p (fun n=>Aa a n) dz fun _ H2 _=>q H2
end
end My
theorem Aq:L2.tabsG=[]:=rfl
namespace PySem.W.Fast
def tw17428146236504311124:Unit:=()
def tw1713778987373770463:Unit:=()
def tw12092375808764905410:Unit:=()
def tw1908336776508256217:Unit:=()
def tw9650750458304232130:Unit:=()
def tw12846051876527962900:Unit:=()
def tw16553560392257335189:Unit:=()
def tw6692414464313958035:Unit:=()
def tw17508790823229863997:Unit:=()
def tw11303658518263976812:Unit:=()
def tw13448369643043569578:Unit:=()
def tw3885692116461605850:Unit:=()
def tw14234300519443138181:Unit:=()
def tw15561955875000997967:Unit:=()
def tw1423437211340337367:Unit:=()
def tw860733264923020059:Unit:=()
def tw5673530179644770066:Unit:=()
def tw3810501260190539977:Unit:=()
def tw14402403098410684880:Unit:=()
def tw1017106271499728060:Unit:=()
def tw5735895135191050079:Unit:=()
def tw3086920459861913612:Unit:=()
def tw16746354625068350603:Unit:=()
def tw10655698153348309891:Unit:=()
def tw11323139057479910645:Unit:=()
def tw13216933446540173887:Unit:=()
def tw12951028464668438005:Unit:=()
def tw1706346744234334119:Unit:=()
def tw2200489982548332616:Unit:=()
def tw16007195196443503164:Unit:=()
def tw3853717105354691390:Unit:=()
def tw17576482381555552293:Unit:=()
def tw17471992887556611057:Unit:=()
def tw5816654399667234743:Unit:=()
def tw12651559992733440632:Unit:=()
def tw1928578360848370194:Unit:=()
def tw2816859969853317601:Unit:=()
def tw7389999283157310560:Unit:=()
def tw10930181699998545661:Unit:=()
def tw8534885325662948191:Unit:=()
def tw16761777962844444288:Unit:=()
def tw5367710144442903117:Unit:=()
def tw14985989720621611965:Unit:=()
def tw6101027932926124943:Unit:=()
def tw15646345511407054097:Unit:=()
def tw10140546071666740178:Unit:=()
def tw14812774219185831835:Unit:=()
def tw12462057677293366892:Unit:=()
def tw13080921759086731204:Unit:=()
def tw12226727168718232321:Unit:=()
def tw1446602328386720918:Unit:=()
def tw15936235885308127567:Unit:=()
def tw9444136280390545208:Unit:=()
def tw16538949329386229313:Unit:=()
def tw16369046088265497862:Unit:=()
def tw4759813205894586889:Unit:=()
def tw13005232203176610076:Unit:=()
def tw4560564527548444087:Unit:=()
def tw800110509822645759:Unit:=()
def tw11191982304272836996:Unit:=()
def tw10315214173670559399:Unit:=()
def tw17517819707003694698:Unit:=()
def tw1067281469144490283:Unit:=()
def tw11354978338150331442:Unit:=()
end PySem.W.Fast
open PySem PySem.W PyProof.Rows L2
set_option maxRecDepth 100000 in
set_option maxHeartbeats 0 in
theorem PySem.Challenge.cw_gaugewright_k48_matched_gone_through_holds : PySem.Challenge.rw_gaugewright_k48_matched_gone_through.Holds := by
 w_on;o_law;k_head;(case hw=>w_witness2)
 k_fill
 refine L2.walk_law (l := PySem.Challenge.rw_gaugewright_k48_matched_gone_through) (k := 18) rfl rfl ⟨rfl, by decide, by decide⟩ (fun w h Y => W.kIn_of Y) (fun w h Y => L2.TabsOk.none Aq) ?F
 case F=>
  intro w mg fa h KX G hmg;have d_law:Dd (L2.KOf KX) mg "law" My.s_law ["script"]:=by
   dsimp only[L2.KOf];refine' Dd.mk' KX G ?a ?l ?c ?k ?b
   (case a=>k_is);(case l=>k_is);(case c=>k_is);(case k=>k_is);(case b=>intro _ _ _ _ _ _ us hl;obtain⟨_,rfl⟩:=L2.len1 hl;rfl)
  have T:My.Txt mg:=by
   refine' ⟨fq KX G ?z0,fq KX G ?z1,fq KX G ?z2,fq KX G ?z3,fq KX G ?z4,fq KX G ?z5,fq KX G ?z6,fq KX G ?z7,fq KX G ?z8,fq KX G ?z9,fq KX G ?z10,fq KX G ?z11,fq KX G ?z12⟩
   (case z0=>k_is);(case z1=>k_is);(case z2=>k_is);(case z3=>k_is);(case z4=>k_is);(case z5=>k_is);(case z6=>k_is);(case z7=>k_is);(case z8=>k_is);(case z9=>k_is);(case z10=>k_is);(case z11=>k_is);(case z12=>k_is)
  have dd:My.Dds (L2.KOf KX) mg:=by constructor<;>(dsimp only[L2.KOf];refine' Dd.mk' KX G ?a ?l ?c ?k ?b;(case a=>k_is);(case l=>k_is);(case c=>k_is);(case k=>k_is);(case b=>(intro _ _ _ _ _ _ us hl;first|(obtain⟨_,rfl⟩:=L2.len1 hl;rfl)|(obtain⟨_,_,rfl⟩:=L2.len2 hl;rfl)|(obtain⟨_,_,_,rfl⟩:=L2.len3 hl;rfl)|(obtain⟨_,_,_,_,rfl⟩:=L2.len4 hl;rfl))))
  obtain⟨f,fd,F,hm,_⟩:=d_law.ex;have e0:=hmg.symm.trans hm;cases e0;exact⟨fd,F.bind1 fun _ _ _ _ _ _ _=>rfl,fun base _ _=>My.ok_law T dd F⟩
#print axioms PySem.Challenge.cw_gaugewright_k48_matched_gone_through_holds
end