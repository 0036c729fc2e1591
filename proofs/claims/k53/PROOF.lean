import PyProof.Rows.All
import Wide.All
import OpenK.AllK
import Wide.FinOn
import Lean
import PyProof.EqAt
import PyProof.EqKinds
import PyProof.TupleCall
import KE.KTupSum
import KE.KSortTup
import PyProof.SetKind
import PyProof.SetRoads
import PyProof.SetNew
import PyProof.DictKinds
import PyProof.NsDelKeeps
import PyProof.StrWalks
import KE.KEqDict
import KE.KDictList
import PyProof.AttrMissSeq
import PyProof.WalksMore
import KE.KDictOf
import PyProof.Rows.Range3
import KE.KItemsList
import PyProof.FactsAll.dict_3
import KE.KMinKey
import PyProof.Rows.CallKwBuiltin
import PyProof.TupleOfSeq
import KE.KLam
import KE.KNestM
import PyProof.Rows.StrNews
import KE.KIntText
import PyProof.TupleKey
import PyProof.DictFindH
import PyProof.DictRoadsH
import PyProof.DictItems
import PyProof.Rows.TupTab
import Wide.Seal
import PyProof.DictValues
import PySem.Challenge.RW_gaugewright_k53_twins
open Array renaming length_toList→jd
open Bool renaming false_ne_true→gc,false_eq_true→gy,and_eq_true→jq
open Exists renaming intro→oh
open False renaming elim→fu
open ForInStep renaming yield→lp
open Int renaming eq_ofNat_of_zero_le→gw,emod_lt_of_pos→jv,emod_nonneg→jx
open List renaming replicate→bg,getElem?_concat_length→bn,getElem?_eq_getElem→bq,mem_cons_of_mem→bw,length_append→bx,length_map→cg,mem_of_getElem?→cj,mem_cons_self→ck,length_cons→cn,mem_append_left→cq,size_toArray→cr,mem_append_right→cv,range→dj,getElem?_append_left→dm,map_cons→dq,length_singleton→fb,not_mem_nil→fj,eq_nil_of_length_eq_zero→fm,append_assoc→fz,getElem?_map→gi,mem_cons→gj,append_nil→gq,Nodup→gr,take_length→ie,getD_eq_getElem?_getD→ig,length_take→iy,lookup_cons→iz,findSome?_append→ja,map_append→jc,take_append_drop→jr,drop_eq_getElem_cons→jz,map_map→kj,replicate_succ→kq,lookup→kr,getElem?_cons_zero→kz,getElem?_cons_succ→lc,getElem?_set_self→lw,getElem?_set_ne→nq
open Nat renaming le_refl→cw,lt_of_lt_of_le→fk,ne_of_lt→gf,le_of_lt→im,le_trans→ip,lt_irrefl→jp,zero_le→mj
open Ne renaming symm→gs
open Option renaming isSome_map→nz
open Option.some renaming inj→fc
open Or renaming inl→fq,inr→ng
open PyProof.Rows renaming callWith_type1→ge,envOfC→ij,IntsAre→nu
open PySem renaming Value→bb,wpAny_bind→bc,PyData→bd,Shared→be,wpAny_pure→bh,wpAny→bo,sizeLine→br,Program→bz,starEach→cp,Around→cz,World→dh,wpAny_newObj_type→ft,compareOp→fw,bootBuiltins→fy,sysModules→gb,wpAny_mono→gm,wpAny_loadPart_at→gv,cLine→gz,wpAny_truthy_bool→ic,mainGlobals→ix,wpAny_Call_Name_kw→jb,wpAny_holding→je,binaryOp→jf,sizeLine_eq→jg,FuncData→jm,Builtin→jn,wpAny_field→jo,wpAny_passesOwn→jw,NameKind→jy,argBest→ki,wpAny_call_entry→ko,atKey→ku,backTo→kx,wpAny_setField_rec→lh,wpAny_execs_nil→li,intItems→ln,codeAny_builtin→lq,wpAny_updateSeq→lr,attributeBase→ls,codeAny→me,IsItemIter→mi,codeAny_mono→ml,DictEntry→mw,rawInt→nc,plainId_quiet→nk,call_meets→ny,sliceBounds→og
open PySem.Around renaming under_plainId→kh
open PySem.Builtin.List renaming listExtendWith→io
open PySem.Builtin.Range renaming rangeSize→fi,small→iu
open PySem.Builtin.Tuple renaming tupleHashOf→ib,tupleExact→ii
open PySem.Calls renaming spliced_cons→jt,spliced_nil→lz
open PySem.F renaming plain_min_loop→js
open PySem.Heap renaming get?_push_of_some→bi,get?_push_size→cf,lt_size→dn,get?_update_other→fh,get?_update_self→gl,SameBut→gu
open PySem.Obj renaming mapSeq→jk,mapFields→lu
open PySem.PassesOwn renaming never→df
open PySem.PyData renaming int→bp,eqv→gx,canLay0→iq,canLayAll0→jh,depthAll→jl,bool→ke,str→lg
open PySem.SeqAt renaming shaped→cu,canLay_of_shaped→dw
open PySem.Value renaming ref→bu,none→gh,isInt_shape→lv,type→nv,bool→oj
open PySem.W renaming Frag→bj,mg_none_of→ir,kia_one→kl,keepIn→mf,mg_of→mz,findIn→nj,clsIn→om
open True renaming intro→jj
def bv:=@if_neg
def cy:=@if_pos
def fx:=@decide_eq_false
def ju:=@decide_eq_true
theorem yw{p:Prop}(h:p:=by omega):p:=h
theorem yv{p:Prop}(h:p:=by simp):p:=h
open Option (isSome_iff_exists isSome_map map_eq_some_iff map_some)
open Nat (le_of_lt le_refl le_trans lt_irrefl lt_of_lt_of_le ne_of_gt ne_of_lt zero_add zero_le)
open List (all_cons all_eq_true any_cons append_assoc append_nil cons_append drop_eq_getElem_cons drop_length eq_nil_of_length_eq_zero find?_cons flatten_cons foldl_append foldl_cons getD_eq_getElem?_getD getElem?_append_left getElem?_concat_length getElem?_cons_succ getElem?_cons_zero getElem?_eq_getElem getElem?_map getElem?_set_ne getElem?_set_self getElem_mem length_append length_cons length_drop length_map length_nil length_range length_set length_singleton length_take lookup_cons map_append map_cons map_map map_nil mem_append mem_append_left mem_append_right mem_cons mem_cons_of_mem mem_cons_self mem_filter mem_iff_getElem? mem_map mem_of_getElem? mem_range mem_singleton nil_append nodup_append nodup_cons nodup_nil not_mem_nil of_mem_zip replicate_succ reverse_cons set_cons_succ set_cons_zero size_toArray take_append_drop take_length take_zero zip_cons_cons)
open PySem.Heap (get?_push_of_some get?_push_size get?_update_ne get?_update_other get?_update_self lt_size size_push)
open Array (length_toList)
theorem dz{p:Prop}[Decidable p](h:decide p=true:=by rfl):p:=of_decide_eq_true h
set_option Elab.async false
set_option linter.all false
set_option maxRecDepth 100000
set_option maxHeartbeats 8000000
noncomputable section
namespace L2
open PySem PySem.Spec PyProof.Rows
section
abbrev Key:=Sum Int Str
def kK:Key->bb->Bool
 | .inl k,v=>Value.isInt k v
 | .inr x,v=>Value.isStrOf x v
def IG(w:dh):Key->Int
 | .inl k=>hashInt k
 | .inr x=>hashStr w x
theorem gC:∀{k:Key}{v:bb},kK k v=true->(∃i t,k=Sum.inl i/\v=Value.int i t)\/(∃x t,k=Sum.inr x/\v=Value.str x t)
 | .inl i,v,h=>by
  obtain⟨t,e⟩:=lv (k:=i) (v:=v) h;exact .inl ⟨i,t,rfl,e⟩
 | .inr x,v,h=>by
  obtain⟨t,e⟩:=Value.isStrOf_shape (x:=x) (v:=v) h;exact .inr ⟨x,t,rfl,e⟩
theorem HH(i:Int)(t:Tok):kK (.inl i) (.int i t)=true:=by simp[kK,Value.isInt]
theorem J9(x:Str)(t:Tok):kK (.inr x) (.str x t)=true:=by simp[kK,Value.isStrOf]
theorem HB(a b:Int):decide ((Sum.inl a:Key)=Sum.inl b)=(a==b):=by
 by_cases e:a=b
 ·subst e;simp
 ·have h:¬(Sum.inl a:Key)=Sum.inl b:=fun q=>e (Sum.inl.inj q);rw[fx h];exact(beq_eq_false_iff_ne.mpr e).symm
theorem Jy(a b:Str):decide ((Sum.inr a:Key)=Sum.inr b)=decide (a=b):=by
 by_cases e:a=b
 ·subst e;simp
 ·have h:¬(Sum.inr a:Key)=Sum.inr b:=fun q=>e (Sum.inr.inj q);rw[fx h,fx e]
theorem Fy(a:Int)(b:Str):decide ((Sum.inl a:Key)=Sum.inr b)=false:=fx (fun q=>nomatch q)
theorem EH(a:Str)(b:Int):decide ((Sum.inr a:Key)=Sum.inl b)=false:=fx (fun q=>nomatch q)
def c6(prog:bz)(w:dh):PySem.KeyKind prog w Key where
 is:=kK
 hash:=IG w
 inj:=fun v a b ha hb=>by
  rcases gC ha with ⟨i,t,rfl,rfl⟩|⟨x,t,rfl,rfl⟩
  ·rcases gC hb with ⟨j,u,rfl,e⟩|⟨y,u,rfl,e⟩
   ·injection e with e1 _;rw[e1]
   ·exact nomatch e
  ·rcases gC hb with ⟨j,u,rfl,e⟩|⟨y,u,rfl,e⟩
   ·exact nomatch e
   ·injection e with e1 _;rw[e1]
 byValue:=fun k v h=>by
  rcases gC h with ⟨i,t,rfl,rfl⟩|⟨x,t,rfl,rfl⟩<;>rfl
 pyHash:=fun hv h=>by
  rcases gC hv with ⟨i,t,rfl,rfl⟩|⟨x,t,rfl,rfl⟩
  ·exact wpAny_pyHash_int h
  ·exact wpAny_pyHash_str h
 eqBool:=fun hu hv h=>by
  rcases gC hu with ⟨i,t,rfl,rfl⟩|⟨x,t,rfl,rfl⟩
  ·rcases gC hv with ⟨j,u,rfl,rfl⟩|⟨y,u,rfl,rfl⟩
   ·rw[HB]at h;exact wpAny_eqBool_int h
   ·rw[Fy]at h;exact SeqAt.EqAt.int_str i t y u _ _ _ _ h
  ·rcases gC hv with ⟨j,u,rfl,rfl⟩|⟨y,u,rfl,rfl⟩
   ·rw[EH]at h;exact SeqAt.EqAt.str_int x t j u _ _ _ _ h
   ·rw[Jy]at h;exact wpAny_eqBool_str h
 «strs»:=fun k x t v h=>by
  rcases gC h with ⟨i,u,rfl,e⟩|⟨y,u,rfl,e⟩
  ·exact nomatch e
  ·injection e with e1 _
   subst e1;cases v<;>rfl
theorem EL(prog:bz)(w:dh)(i:Int)(t:Tok):(c6 prog w).is (.inl i) (.int i t)=true:=HH i t
theorem Fb(prog:bz)(w:dh)(x:Str)(t:Tok):(c6 prog w).is (.inr x) (.str x t)=true:=J9 x t
end
section
inductive V where
 |non|bl (b:Bool)|int (i:Int)|str (x:Str)|byt (b:Array UInt8)|flt (b:UInt64)|ref (a:Addr)|ty (n:String)
 deriving DecidableEq
def RelV:V->bb->Prop
 | .non,u=>u=gh
 | .bl b,u=>u=oj b
 | .int i,u=>∃t,u=Value.int i t
 | .str x,u=>∃t,u=Value.str x t
 | .byt b,u=>∃t,u=Value.bytes b t
 | .flt b,u=>∃t,u=Value.float b t
 | .ref a,u=>u=bu a
 | .ty n,u=>u=nv n
abbrev Vals:List V->List bb->Prop:=Paired RelV
theorem Vals.length{xs:List V}{us:List bb}(r:Vals xs us):xs.length=us.length:=Paired.length r
theorem Vals.get:∀{xs:List V}{us:List bb}{i:Nat}{x:V},Vals xs us->xs[i]?=some x->∃u,us[i]?=some u/\RelV x u
 |_,_,_,_,.nil,e=>by simp at e
 |_,_,0,_,.cons r _,e=>by simp at e;subst e;exact⟨_,rfl,r⟩
 |_,_,i+1,x,.cons _ t,e=>by
  obtain⟨u,h1,h2⟩:=Vals.get (i:=i) (x:=x) t (by simpa using e);exact⟨u,by simpa using h1,h2⟩
theorem Vals.set{x:V}{u:bb}(r:RelV x u):∀{xs:List V}{us:List bb} (i:Nat),Vals xs us->Vals (xs.set i x) (us.set i u)
 |_,_,_,.nil=>.nil
 |_,_,0,.cons _ t=>.cons r t
 |_,_,i+1,.cons q t=>.cons q (Vals.set r i t)
theorem Vals.append:∀{xs ys:List V}{us ws:List bb},Vals xs us->Vals ys ws->Vals (xs++ys) (us++ws)
 |_,_,_,_,.nil,s=>s
 |_,_,_,_,.cons r t,s=>.cons r (Vals.append t s)
theorem Vals.take:∀{xs:List V}{us:List bb} (n:Nat),Vals xs us->Vals (xs.take n) (us.take n)
 |_,_,0,_=>.nil
 |_,_,_+1,.nil=>.nil
 |_,_,n+1,.cons r t=>.cons r (Vals.take n t)
theorem Vals.drop:∀{xs:List V}{us:List bb} (n:Nat),Vals xs us->Vals (xs.drop n) (us.drop n)
 |_,_,0,r=>r
 |_,_,_+1,.nil=>.nil
 |_,_,n+1,.cons _ t=>Vals.drop n t
def RelO:Option V->Option bb->Prop
 |some v,some u=>RelV v u
 |none,none=>True
 |_,_=>False
def KV{κ:Type}:List (κ×V)->List (κ×bb)->Prop:=Paired fun(p:κ×V) (q:κ×bb)=>p.1=q.1/\RelV p.2 q.2
def kV:Key->V
 | .inl i=>.int i
 | .inr x=>.str x
inductive HO where
 |lst (xs:List V)
 |tup (xs:List V)
 |dK (kvs:List (Key×V))|dT (kvs:List (List Key×V))
 |set (S:Int->Bool) (n:Nat)
 |ins (C dx:Addr) (fs:List (Str×V))
 |own (x:Addr)
 |xd (fs:List (Str×V))
 |met (f x:Addr)
 |rng (lo hi:Int)
 |frz (o:Obj) (u:HO)
 |tbl (ps:Array bb)
 |ext (φ:Heap->Prop)
abbrev Hp:=Addr->Option HO
def upd(H:Hp)(a:Addr)(o:HO):Hp:=fun b=>if b=a then some o else H b
theorem zP{H:Hp}{a:Addr}{o:HO}:upd H a o a=some o:=by unfold upd;rw[cy rfl]
theorem zE{H:Hp}{a b:Addr}{o:HO}(h:b≠a):upd H a o b=H b:=by unfold upd;rw[bv h]
theorem Ff{H:Hp}{a:Addr}{o u:HO}:upd (upd H a o) a u=upd H a u:=by
 funext b;unfold upd;split<;>rfl
theorem GD{H:Hp}{a b:Addr}{o u:HO}(h:H a=some o)(h':H b=some u)(d:o≠u):a≠b:=by
 intro e;subst e;rw[h]at h';exact d (fc h')
theorem zG{H:Hp}{a b:Addr}{o:HO}(h:H a=some o)(h':H b=none):a≠b:=by
 intro e;subst e;rw[h]at h';cases h'
def TblOk(H:Hp)(ps qs:Array bb):Prop:=qs = #[]\/∃(l c:bb) (q:Str) (t:Tok) (k:Addr) (oc:Obj) (vs:Array bb) (t':Tok),ps = #[l,c,.str q t]/\qs = #[l,c,.ref k]/\H k=some (.frz oc (.own 0))/\oc.data=.fields vs/\vs[1]?=some (.str q t')
theorem TblOk.stay{H H':Hp}{ps qs:Array bb}(x:TblOk H ps qs)(hf:∀b o u,H b=some (.frz o u)->H' b=some (.frz o u)):TblOk H' ps qs:=by
 rcases x with x|⟨l,c,q,t,k,oc,vs,t',e1,e2,e3,r⟩
 ·exact .inl x
 ·exact .inr ⟨l,c,q,t,k,oc,vs,t',e1,e2,hf _ _ _ e3,r⟩
section
variable (P:bz) (w:dh)
def ObjOk(H:Hp)(h:Heap)(a:Addr):HO->Prop
 | .lst xs=>xs.length<=br/\∃(its:List bb) (n:Nat),Vals xs its/\h.get? a=some { cls:=.type "list",data:=.seq its.toArray n }
 | .tup xs=>(xs.length<=br/\∃o:Obj,h.get? a=some o/\o.dict=none)/\∃its:List bb,Vals xs its/\IsTup h a its.toArray
 | .dK kvs=>kvs.length<=br/\(a==gb)=false/\∃vs,KV kvs vs/\h.DictOf (c6 P w) a vs
 | .dT kvs=>kvs.length<=br/\(a==gb)=false/\∃xs:List (List Key×Addr×bb),
   Paired (fun(p:List Key×V) (q:List Key×Addr×bb)=>p.1=q.1/\H q.2.1=some (.tup (p.1.map kV))/\RelV p.2 q.2.2) kvs xs /\
   ∃o es ep,h.get? a=some o/\o.ExactDict/\o.data=.dict es ep/\es.toList=xs.map (entryOfKey (tupleKind (c6 P w)))/\(xs.map (·.1)).Nodup
 | .set S n=>h.SetOf (intKind P w) a S n
 | .ins C dx fs=>H dx=some (.own a)/\fs.length<=1000/\dx≠a/\h.get? a=some (W.instObj C dx) /\
   ∃mA,h.Ns1 dx mA/\(∀f,RelO (fs.lookup f) (mA f))/\PySem.Within mA (fs.map (·.1))
 | .own _=>∃o,h.get? a=some o
 | .xd fs=>∃mA,h.Ns1 a mA/\∀f,RelO (fs.lookup f) (mA f)
 | .rng lo hi=>∃t u v,h.get? a=some { cls:=.type "range",data:=.fields #[.int lo t,.int hi u,.int 1 v] }
 | .frz o u=>h.get? a=some o/\ObjOk H h a u
 | .tbl ps=>∃qs:Array bb,h.get? a=some { cls:=.none,data:=.fields qs }/\TblOk H ps qs
 | .met f x=>h.get? a=some (W.methodObj (.ref f) (.ref x))
 | .ext φ=>φ h/\(∃o,h.get? a=some o)/\∀h1 h2:Heap,φ h1->(∀o,h1.get? a=some o->h2.get? a=some o)->φ h2
def HOk(H:Hp)(h:Heap):Prop:=∀a o,H a=some o->ObjOk P w H h a o
end
section
variable {P:bz}{w:dh}{H H':Hp}{h h':Heap}{a:Addr}{o:HO}
theorem ObjOk.lt(x:ObjOk P w H h a o):a<h.objs.size:=by
 cases o with
 |lst xs=>obtain⟨_,_,_,_,e⟩:=x;exact dn e
 |tup xs=>obtain⟨_,_,_,p⟩:=x;exact p.lt
 |dK kvs=>obtain⟨_,_,_,_,o,_,_,e,_⟩:=x;exact dn e
 |dT kvs=>obtain⟨_,_,_,_,o,_,_,e,_⟩:=x;exact dn e
 |set S n=>obtain⟨o,_,_,_,e,_⟩:=x;exact dn e
 |ins C dx fs=>obtain⟨_,_,_,e,_⟩:=x;exact dn e
 |own y=>obtain⟨_,e⟩:=x;exact dn e
 |xd fs=>obtain⟨_,⟨_,_,_,e,_⟩,_⟩:=x;exact dn e
 |rng lo hi=>obtain⟨_,_,_,e⟩:=x;exact dn e
 |frz ob u=>obtain⟨e,_⟩:=x;exact dn e
 |tbl ps=>obtain⟨_,e,_⟩:=x;exact dn e
 |met f y=>exact dn (show h.get? a=some _ from x)
 |ext φ=>obtain⟨_,⟨_,e⟩,_⟩:=x;exact dn e
theorem Paired.mapP{α β:Type}{F G:α->β->Prop}:∀{l₁:List α}{l₂:List β},Paired F l₁ l₂->(∀a b,F a b->G a b)->Paired G l₁ l₂
 |_,_,.nil,_=>.nil
 |_,_,.cons r t,f=>.cons (f _ _ r) (Paired.mapP t f)
theorem ObjOk.stay(x:ObjOk P w H h a o)(k:∀b u,(b=a\/H b=some (.own a))->h.get? b=some u->h'.get? b=some u)
  (ho:∀b,H b=some (.own a)->H' b=some (.own a)) (ht:∀b xs,H b=some (.tup xs)->H' b=some (.tup xs))
  (hf:∀b o u,H b=some (.frz o u)->H' b=some (.frz o u):=by first|exact fun _ _ _ q=>q|(intro b o u q;rw[zE (zG q (by assumption))];exact q)):ObjOk P w H' h' a o:=by
 induction o with
 |lst xs=>obtain⟨z,aa,n,r,e⟩:=x;exact⟨z,aa,n,r,k _ _ (.inl rfl) e⟩
 |tup xs=>obtain⟨⟨z,o2,e2,d2⟩,aa,r,ob,e,c⟩:=x;exact⟨⟨z,o2,k _ _ (.inl rfl) e2,d2⟩,aa,r,ob,k _ _ (.inl rfl) e,c⟩
 |dK kvs=>obtain⟨z,y,vs,r,ob,es,ep,e,c⟩:=x;exact⟨z,y,vs,r,ob,es,ep,k _ _ (.inl rfl) e,c⟩
 |dT kvs=>
  obtain⟨z,y,xs,r,ob,es,ep,e,c⟩:=x;exact⟨z,y,xs,Paired.mapP r fun p q z=>⟨z.1,ht _ _ z.2.1,z.2.2⟩,ob,es,ep,k _ _ (.inl rfl) e,c⟩
 |set S n=>obtain⟨ob,es,ep,t,e,c⟩:=x;exact⟨ob,es,ep,t,k _ _ (.inl rfl) e,c⟩
 |ins C dx fs=>
  obtain⟨d,z,ne,e,mA,⟨od,es,ep,e2,c⟩,r⟩:=x;exact⟨ho _ d,z,ne,k _ _ (.inl rfl) e,mA,⟨od,es,ep,k _ _ (.inr d) e2,c⟩,r⟩
 |own y=>obtain⟨ob,e⟩:=x;exact⟨ob,k _ _ (.inl rfl) e⟩
 |xd fs=>obtain⟨mA,⟨od,es,ep,e,c⟩,r⟩:=x;exact⟨mA,⟨od,es,ep,k _ _ (.inl rfl) e,c⟩,r⟩
 |rng lo hi=>obtain⟨t,u,v,e⟩:=x;exact⟨t,u,v,k _ _ (.inl rfl) e⟩
 |frz ob u ih=>obtain⟨e,q⟩:=x;exact⟨k _ _ (.inl rfl) e,ih q⟩
 |tbl ps=>
  obtain⟨qs,e,q⟩:=x;exact⟨qs,k a _ (.inl rfl) e,q.stay hf⟩
 |met f y=>
  have e:h.get? a=some (W.methodObj (.ref f) (.ref y)):=x;show h'.get? a=some (W.methodObj (.ref f) (.ref y));exact k a _ (.inl rfl) e
 |ext φ=>obtain⟨p,⟨o,e⟩,st⟩:=x;exact⟨st _ _ p fun o q=>k _ _ (.inl rfl) q,⟨o,k _ _ (.inl rfl) e⟩,st⟩
theorem HOk.lt(x:HOk P w H h)(e:H a=some o):a<h.objs.size:=(x a o e).lt
theorem HOk.fresh(x:HOk P w H h)(e:h.objs.size<=a):H a=none:=by
 cases q:H a with
 |none=>rfl
 |some u=>exact absurd (fk (x.lt q) e) (jp _)
theorem HOk.kept(x:HOk P w H h)(k:∀b u,h.get? b=some u->h'.get? b=some u):HOk P w H h':=fun a o e=>
 (x a o e).stay (fun b u _ q=>k b u q) (fun _ q=>q) fun _ _ q=>q
theorem HOk.laid(x:HOk P w H h)(k:∀b u,h.get? b=some u->h'.get? b=some u)(hp:h.objs.size<=a)(z:ObjOk P w (upd H a o) h' a o):HOk P w (upd H a o) h':=fun b u e=>by
 have hn:=x.fresh hp;by_cases hb:b=a
 ·subst hb;rw[zP]at e;cases e;exact z
 ·rw[zE hb]at e;exact(x b u e).stay (fun c v _ q=>k c v q) (fun c q=>by rw[zE (zG q hn)];exact q) fun c xs q=>by rw[zE (zG q hn)];exact q
end
def Rd(H:Hp)(a:Addr)(u:HO):Prop:=H a=some u\/∃o,H a=some (.frz o u)
theorem Rd.ok{P:bz}{w:dh}{H:Hp}{h:Heap}{a:Addr}{u:HO}(r:Rd H a u)(x:HOk P w H h):ObjOk P w H h a u:=by
 rcases r with r|⟨o,r⟩
 ·exact x a u r
 ·obtain⟨_,q⟩:=x a _ r;exact q
def Mut:Option HO->Prop
 |some (.lst _)=>True
 |some (.dK _)=>True
 |some (.dT _)=>True
 |some (.set _ _)=>True
 |some (.ins _ _ _)=>True
 |some (.ext _)=>True
 |_=>False
section
variable {P:bz}{w:dh}{H:Hp}{h h':Heap}{x e:Addr}{o':HO}
theorem HOk.write(ok:HOk P w H h)(mu:Mut (H x))(he:e=x\/H e=some (.own x))(k:∀b u,b≠e->h.get? b=some u->h'.get? b=some u)(af:∃u,h'.get? e=some u)
  (new:ObjOk P w (upd H x o') h' x o'):HOk P w (upd H x o') h':=fun b u q=>by
 have aa:∀c y,H c=some (.own y)->c≠x:=fun c y r z=>by subst z;rw[r]at mu;exact mu
 have ac:∀c xs,H c=some (.tup xs)->c≠x:=fun c xs r z=>by subst z;rw[r]at mu;exact mu
 have ae:∀c o u,H c=some (.frz o u)->c≠x:=fun c o u r z=>by subst z;rw[r]at mu;exact mu
 by_cases hb:b=x
 ·subst hb;rw[zP]at q;cases q;exact new
 ·rw[zE hb]at q;by_cases hbe:b=e
  ·have q':H b=some (.own x):=by
    rcases he with z|z
    ·exact absurd (hbe.trans z) hb
    ·rw[hbe];exact z
   rw[q]at q';cases q';obtain⟨v,hv⟩:=af;exact⟨v,by rw[hbe];exact hv⟩
  ·refine(ok b u q).stay (fun c v hc r=>k c v ?_ r) (fun c r=>by rw[zE (aa c b r)];exact r) (fun c xs r=>by rw[zE (ac c xs r)];exact r) fun c o u r=>by rw[zE (ae c o u r)];exact r
   rcases hc with rfl|hc
   ·exact hbe
   ·rintro rfl;rcases he with z|z
    ·exact aa c b hc z
    ·rw[hc]at z;cases z;exact hb rfl
end
structure Un(fs ex:List Addr)(H H':Hp)(h h':Heap):Prop where
 keep:∀b o,h.get? b=some o->H b=none->b∉fs->b∉ex->h'.get? b=some o
 slot:∀b o,h.get? b=some o->H b=none->b∈fs->b∉ex->∃sl,h'.get? b=some { o with slots:=sl }
 free:∀b o,h.get? b=some o->H b=none->b∉ex->H' b=none
 there:∀b o,h.get? b=some o->b∉ex->∃o',h'.get? b=some o'
 tups:∀b xs,H b=some (.tup xs)->H' b=some (.tup xs)
 frzs:∀b o u,H b=some (.frz o u)->H' b=some (.frz o u)
 tbls:∀b ps,H b=some (.tbl ps)->H' b=some (.tbl ps)
section
variable {fs fs' ex ex':List Addr}{H H1 H2:Hp}{h h1 h2 h':Heap}{a x e:Addr}{o:HO}
theorem Un.any(u:Un fs ex H H1 h h1){b:Addr}{ob:Obj}(q:h.get? b=some ob)(n:H b=none)(hx:b∉ex):∃sl,h1.get? b=some { ob with slots:=sl }:=by
 by_cases hb:b∈fs
 ·exact u.slot b ob q n hb hx
 ·exact⟨ob.slots,u.keep b ob q n hb hx⟩
theorem Un.trans(a:Un fs ex H H1 h h1)(b:Un fs ex H1 H2 h1 h2):Un fs ex H H2 h h2 where
 keep:=fun c ob q n hc hx=>b.keep c ob (a.keep c ob q n hc hx) (a.free c ob q n hx) hc hx
 slot:=fun c ob q n hc hx=>by
  obtain⟨sl,e1⟩:=a.slot c ob q n hc hx;obtain⟨z,e2⟩:=b.slot c _ e1 (a.free c ob q n hx) hc hx;exact⟨z,e2⟩
 free:=fun c ob q n hx=>by
  obtain⟨o',e1⟩:=a.there c ob q hx;exact b.free c o' e1 (a.free c ob q n hx) hx
 there:=fun c ob q hx=>by
  obtain⟨o',e1⟩:=a.there c ob q hx;exact b.there c o' e1 hx
 tups:=fun c xs q=>b.tups c xs (a.tups c xs q)
 frzs:=fun c ob xs q=>b.frzs c ob xs (a.frzs c ob xs q)
 tbls:=fun c ps q=>b.tbls c _ (a.tbls c ps q)
theorem Un.kept(k:∀b u,h.get? b=some u->h'.get? b=some u):Un fs ex H H h h':=
 ⟨fun b ob q _ _ _=>k b ob q,fun b ob q _ _ _=>⟨ob.slots,k b ob q⟩,fun _ _ _ n _=>n,fun b ob q _=>⟨ob,k b ob q⟩,fun _ _ q=>q,fun _ _ _ q=>q,fun _ _ q=>q⟩
theorem Un.refl:Un fs ex H H h h:=Un.kept fun _ _ q=>q
theorem Un.laid(k:∀b u,h.get? b=some u->h'.get? b=some u)(hp:h.objs.size<=a)(hn:H a=none):Un fs ex H (upd H a o) h h' where
 keep:=fun b u q _ _ _=>k b u q
 slot:=fun b u q _ _ _=>⟨u.slots,k b u q⟩
 free:=fun b u q n _=>by rw[zE (gf (fk (dn q) hp))];exact n
 there:=fun b u q _=>⟨u,k b u q⟩
 tups:=fun b xs q=>by rw[zE (zG q hn)];exact q
 frzs:=fun b u xs q=>by rw[zE (zG q hn)];exact q
 tbls:=fun b ps q=>by rw[zE (zG q hn)];exact q
theorem Un.write(mu:Mut (H x))(he:e=x\/H e=some (.own x))(k:∀b u,b≠e->h.get? b=some u->h'.get? b=some u)(aa:∃u,h'.get? e=some u):Un fs ex H (upd H x o) h h':=by
 have hx:∀b,H b=none->b≠x:=fun b n z=>by subst z;rw[n]at mu;exact mu
 have hb:∀b,H b=none->b≠e:=fun b n z=>by
  subst z;rcases he with r|r
  ·exact hx b n r
  ·rw[n]at r;cases r
 have hm:∀b u,H b=some u->¬ Mut (some u)->b≠x:=fun b u q nm z=>by subst z;rw[q]at mu;exact nm mu
 refine⟨fun b u q n _ _=>k b u (hb b n) q,fun b u q n _ _=>⟨u.slots,k b u (hb b n) q⟩,fun b u q n _=>by rw[zE (hx b n)];exact n,fun b u q _=>?_,
  fun b xs q=>by rw[zE (hm b _ q fun z=>z)];exact q,fun b u xs q=>by rw[zE (hm b _ q fun z=>z)];exact q,fun b ps q=>by rw[zE (hm b _ q fun z=>z)];exact q⟩
 by_cases hbe:b=e
 ·subst hbe;exact aa
 ·exact⟨u,k b u hbe q⟩
theorem Un.mono(u:Un fs ex H H1 h h1)(hs:∀b∈fs,b∈fs')(hx:∀b∈ex,b∈ex'):Un fs' ex' H H1 h h1:=
 ⟨fun b ob q n hb he=>u.keep b ob q n (fun z=>hb (hs b z)) fun z=>he (hx b z),fun _ _ q n _ he=>u.any q n fun z=>he (hx _ z),fun b ob q n he=>u.free b ob q n fun z=>he (hx b z),fun b ob q he=>u.there b ob q fun z=>he (hx b z),u.tups,u.frzs,u.tbls⟩
end
def trk(h:Heap)(H:Hp):List Addr:=(dj h.objs.size).filter fun a=>(H a).isSome
def gJ(h:Heap)(H:Hp):Heap:=W.hideAll h (trk h H)
theorem IW(h:Heap)(H:Hp):(gJ h H).objs.size=h.objs.size:=W.hideAll_size _ _
theorem E3{h:Heap}{H:Hp}{b:Addr}{o:Obj}(e:h.get? b=some o)(n:H b=none):(gJ h H).get? b=some o:=
 W.hideAll_get _ e fun hm=>by
  have q:(H b).isSome=true:=(mem_filter.mp hm).2;rw[n]at q;simp at q
theorem Eh{h:Heap}{H:Hp}{b:Addr}{o:Obj}(e:(gJ h H).get? b=some o):h.get? b=some o/\H b=none:=by
 have e':h.get? b=some o:=W.of_hideAll (trk h H) e;refine⟨e',?_⟩;cases q:H b with
 |none=>rfl
 |some x=>
  have hm:b∈trk h H:=mem_filter.mpr ⟨mem_range.mpr (dn e'),by simp[q]⟩;have z:(gJ h H).get? b=none:=W.hideAll_none (trk h H) hm;rw[z]at e;cases e
def JX(g h:Heap)(L:Addr):List (Addr×Obj):=(dj h.objs.size).filterMap fun a=>if a=L\/(g.get? a).isSome=true then none else (h.get? a).map fun o=>(a,o)
def rest(g h:Heap)(L d:Addr):List (Addr×Obj):=(JX g h L).filter fun p=>decide (p.1≠d)
end
section
def tabsG:List ((Addr×Addr)×Array bb):=[]
def BltAt(base:Heap)(mg:Str->Option bb):Prop:=∃bm ob,mg "__builtins__" = some (.ref bm)/\bm≠builtinsNs/\base.get? bm=some ob/\ob.cls=.type "module"/\ob.dict=some builtinsNs/\ob.data=.plain
structure Frf(fs:List Addr)(H:Hp):Prop where
 free:∀b∈fs,H b=none
 tab:∀q∈tabsG,H q.1.2=some (.tbl q.2)
structure Mod(K:bj)(mg:Str->Option bb)(base:Heap):Prop where
 kin:K.In base
 glob:base.Ns ix mg
 blt:∃mb,base.Ns builtinsNs mb/\∀x:Str,x ≠ "__name__"->mb x=fy x
 nolimit:base.NoLimit
 bm:BltAt base mg
 hd:∀q∈tabsG,W.CodeHd base q.1.1 q.1.2
structure Cx where
 prog:bz
 w:dh
 K:bj
 mg:Str->Option bb
 base:Heap
 A:cz
 N:List Str
 s₀:be
 H₀:Hp
 env:Env
 outer:List Env
 stack:List Env
 ex:List Addr
 fn:Str->Bool
 calm:Bool
 pn:List (Addr×Obj)
 xe:bb->be->Prop
def frs(l:List Env):List Addr:=l.filterMap (·.frame)
abbrev Cx.fs (X:Cx):List Addr:=frs X.outer
def Vis(sc:Scope)(x:Str):Prop:=sc.names.lookup x=some .local\/sc.names.lookup x=some .cell\/sc.names.lookup x=some .free
def Loc(sc:Scope)(x:Str):Prop:=sc.names.lookup x=some .local\/sc.names.lookup x=some .cell
def Look(env:Env)(h:Heap)(m:Str->Option bb)(x:Str)(u:bb):Prop:=
 (env.kindOf x=some .local/\m x=some u)\/((env.kindOf x=some .cell\/env.kindOf x=some .free)/\∃c,env.cells.lookup x=some c/\h.IsCell c (some u))
structure Cx.Ok(X:Cx):Prop where
 mod:Mod X.K X.mg X.base
 kind:X.env.scope.kind=.function
 glob:X.env.globals=ix
 blt:X.env.builtins=builtinsNs
 above:X.s₀.heap.objs.size<=X.env.locals
 inj:∀x y c,X.env.cells.lookup x=some c->X.env.cells.lookup y=some c->x=y
 has:∀x,(X.env.kindOf x=some .cell\/X.env.kindOf x=some .free)->∃c,X.env.cells.lookup x=some c
 cab:∀x c,X.fn x=true->X.env.cells.lookup x=some c->X.s₀.heap.objs.size<=c
 hd:X.calm=true->X.A.handled=none
 frames:X.A.frames=some X.stack
 stk:X.stack=X.outer\/(X.stack=X.env::X.outer/\X.env.frame=some X.env.locals)
 exf:∀b∈X.ex,b≠X.env.locals/\∀x c,X.env.cells.lookup x=some c->c≠b
 bs:∀b o,X.base.get? b=some o->X.s₀.heap.get? b=some o/\X.H₀ b=none
 bsz:X.base.objs.size<=X.s₀.heap.objs.size
 noex:∀b o,X.base.get? b=some o->b∉X.ex
 exfs:∀b∈X.ex,b∉X.fs
 funs:X.s₀.heap.FunFrames X.base X.outer
 frf:Frf X.fs X.H₀
structure Inv(X:Cx)(zf:List (Addr×Obj))(σ:List (Option V))(H:Hp)(s:be):Prop where
 ok:X.Ok
 os:s.os=X.s₀.os
 bare:AllBare s.gens
 base:Un X.fs X.ex X.H₀ H X.s₀.heap s.heap
 loc:∃m,s.heap.Ns X.env.locals m/\∀(i:Nat) (x:Str) (v:V),X.N[i]?=some x->σ[i]?=some (some v)->Vis X.env.scope x->∃u,RelV v u/\Look X.env s.heap m x u
 cell:∀x c,X.env.cells.lookup x=some c->∃v,s.heap.IsCell c v
 free:H X.env.locals=none
 freeC:∀x c,X.env.cells.lookup x=some c->H c=none
 pin:∀p∈X.pn++zf,s.heap.get? p.1=some p.2/\H p.1=none/\p.1≠X.env.locals/\p.1∉X.fs/\∀v,p.2.data≠.cell v
 hok:HOk X.prog X.w H s.heap
 len:σ.length=X.N.length
section
variable {X:Cx}{zf:List (Addr×Obj)}{σ:List (Option V)}{H H':Hp}{s:be}{h':Heap}
theorem Cx.Ok.nofr(ok:X.Ok){b:Addr}{o:Obj}(e:X.base.get? b=some o):b∉X.fs:=fun hb=>by
 have:=(ok.funs.mem hb).1;rw[e]at this;cases this
theorem Inv.bs(I:Inv X zf σ H s):∀b o,X.base.get? b=some o->s.heap.get? b=some o/\H b=none:=fun b o e=>
 ⟨I.base.keep b o (I.ok.bs b o e).1 (I.ok.bs b o e).2 (I.ok.nofr e) (I.ok.noex b o e),I.base.free b o (I.ok.bs b o e).1 (I.ok.bs b o e).2 (I.ok.noex b o e)⟩
theorem Inv.bk(I:Inv X zf σ H s):∀b o,X.base.get? b=some o->s.heap.get? b=some o:=fun b o e=>(I.bs b o e).1
theorem Inv.mod(I:Inv X zf σ H s):Mod X.K X.mg X.base:=I.ok.mod
theorem Inv.kIn(I:Inv X zf σ H s):X.K.In s.heap:=I.ok.mod.kin.keeps I.bk
theorem Inv.lt(I:Inv X zf σ H s):X.env.locals<s.heap.objs.size:=let ⟨_,hn,_⟩:=I.loc;hn.lt
theorem Inv.sz(I:Inv X zf σ H s):X.s₀.heap.objs.size<=s.heap.objs.size:=ip I.ok.above (im I.lt)
theorem Inv.nofs(I:Inv X zf σ H s){a:Addr}(h:s.heap.objs.size<=a):a∉X.fs:=fun hb=>by
 obtain⟨_,o,ho,_⟩:=I.ok.funs.mem hb;exact absurd (fk (dn ho) (ip I.sz h)) (jp _)
theorem Inv.cne(I:Inv X zf σ H s):∀x c,X.env.cells.lookup x=some c->c≠X.env.locals:=fun x c e z=>by
 obtain⟨v,o,ho,hd⟩:=I.cell x c e;obtain⟨m,⟨o',es,ep,ac,aa,_⟩,_⟩:=I.loc;rw[z,ac]at ho;cases ho;rw[aa]at hd;cases hd
theorem Inv.funs(I:Inv X zf σ H s):s.heap.FunFrames X.base X.outer:=by
 have all:∀(l:List Env),(∀b∈frs l,b∈X.fs)->X.s₀.heap.FunFrames X.base l->s.heap.FunFrames X.base l:=by
  intro l;induction l with
  |nil=>intro _ _;trivial
  |cons env r ih=>
   intro hs hl;obtain⟨hk,⟨L,o,hf,hn,ho,hd⟩,hr⟩:=hl;have hL:L∈X.fs:=hs L (by unfold frs;rw[List.filterMap_cons,hf];exact ck);obtain⟨sl,e⟩:=I.base.slot L o ho (I.ok.frf.free L hL) hL fun z=>I.ok.exfs L z hL;exact⟨hk,⟨L,_,hf,hn,e,hd⟩,ih (fun b hb=>hs b (by unfold frs;rw[List.filterMap_cons,hf];exact bw _ hb)) hr⟩
 exact all X.outer (fun _ hb=>hb) I.ok.funs
theorem Inv.stack(I:Inv X zf σ H s):s.heap.FunFrames X.base X.stack:=by
 rcases I.ok.stk with e|⟨e,hf⟩
 ·rw[e];exact I.funs
 ·rw[e];obtain⟨m,hn,_⟩:=I.loc;refine .cons (by rw[I.ok.kind];decide) hf hn ?_ I.funs;exact Heap.get?_none_of_le (ip I.ok.bsz I.ok.above)
theorem Inv.stkSub(I:Inv X zf σ H s):∀b∈frs X.stack,b∈X.env.locals::X.fs:=fun b hb=>by
 rcases I.ok.stk with e|⟨e,hf⟩
 ·rw[e]at hb;exact bw _ hb
 ·rw[e]at hb;unfold frs at hb;rw[List.filterMap_cons,hf]at hb;exact hb
theorem Inv.stkFree(I:Inv X zf σ H s):Frf (frs X.stack) H:=⟨fun b hb=>by
 rcases mem_cons.mp (I.stkSub b hb)with e|hb
 ·rw[e];exact I.free
 ·obtain⟨_,o,ho,_⟩:=I.ok.funs.mem hb;exact I.base.free b o ho (I.ok.frf.free b hb) fun z=>I.ok.exfs b z hb,fun q hq=>I.base.tbls _ _ (I.ok.frf.tab q hq)⟩
theorem Inv.step{g':Array GenState}{t':Nat}{d':Drawn}{ch:List Addr}(I:Inv X zf σ H s)
  (hch:∀b∈ch,(b∈X.ex\/X.s₀.heap.objs.size<=b)/\b≠X.env.locals/\(∀x c,X.env.cells.lookup x=some c->c≠b)/\∀p∈X.pn++zf,p.1≠b)
  (keep:∀b o,b≠X.env.locals->b∉X.fs->b∉ch->s.heap.get? b=some o->H b=none->h'.get? b=some o)
  (slot:∀b o,b≠X.env.locals->b∈X.fs->b∉ch->s.heap.get? b=some o->H b=none->∃sl,h'.get? b=some { o with slots:=sl }) (free:∀b o,b∉ch->s.heap.get? b=some o->H b=none->H' b=none)
  (there:∀b o,b∉ch->s.heap.get? b=some o->∃o',h'.get? b=some o')
  (tups:∀b xs,H b=some (.tup xs)->H' b=some (.tup xs)) (frzs:∀b o u,H b=some (.frz o u)->H' b=some (.frz o u)) (tbls:∀b ps,H b=some (.tbl ps)->H' b=some (.tbl ps))
  (ns:∀m,s.heap.Ns X.env.locals m->h'.Ns X.env.locals m) (hok:HOk X.prog X.w H' h') (hg:AllBare g'):
  Inv X zf σ H' { s with heap:=h',gens:=g',drawn:=d',toks:=t' }:=by
 have af:∀b o,X.s₀.heap.get? b=some o->b≠X.env.locals:=fun b o e=>gf (fk (dn e) I.ok.above);have ae:∀b o,X.s₀.heap.get? b=some o->b∉X.ex->b∉ch:=fun b o e hx hb=>by
  rcases(hch b hb).1 with z|z
  ·exact hx z
  ·exact absurd (fk (dn e) z) (jp _)
 have ac:∀x c,X.env.cells.lookup x=some c->∀v,s.heap.IsCell c v->h'.IsCell c v:=fun x c e v ⟨o,ho,hd⟩=>by
  have aa:c∉ch:=fun z=>(hch c z).2.2.1 x c e rfl;by_cases hc:c∈X.fs
  ·obtain⟨sl,q⟩:=slot c o (I.cne x c e) hc aa ho (I.freeC x c e);exact⟨_,q,hd⟩
  ·exact⟨o,keep c o (I.cne x c e) hc aa ho (I.freeC x c e),hd⟩
 refine⟨I.ok,I.os,hg,⟨fun b o e n hb hx=>?_,fun b o e n hb hx=>?_,fun b o e n hx=>?_,fun b o e hx=>?_,fun b xs e=>tups b xs (I.base.tups b xs e),fun b o xs e=>frzs b o xs (I.base.frzs b o xs e),fun b ps e=>?_⟩,?_,fun x c e=>?_,?_,fun x c e=>?_,fun p hp=>?_,hok,I.len⟩
 ·exact keep b o (af b o e) hb (ae b o e hx) (I.base.keep b o e n hb hx) (I.base.free b o e n hx)
 ·obtain⟨sl,e1⟩:=I.base.slot b o e n hb hx;obtain⟨ag,e2⟩:=slot b _ (af b o e) hb (ae b o e hx) e1 (I.base.free b o e n hx);exact⟨ag,e2⟩
 ·obtain⟨o',e1⟩:=I.base.there b o e hx;exact free b o' (ae b o e hx) e1 (I.base.free b o e n hx)
 ·obtain⟨o',e1⟩:=I.base.there b o e hx;exact there b o' (ae b o e hx) e1
 ·exact tbls b _ (I.base.tbls b ps e)
 ·obtain⟨m,hn,hl⟩:=I.loc;refine⟨m,ns m hn,fun i x v e1 e2 e3=>?_⟩;obtain⟨u,r,l⟩:=hl i x v e1 e2 e3;refine⟨u,r,?_⟩;rcases l with l|⟨k,c,e,z⟩
  ·exact .inl l
  ·exact .inr ⟨k,c,e,ac x c e _ z⟩
 ·obtain⟨v,z⟩:=I.cell x c e;exact⟨v,ac x c e v z⟩
 ·obtain⟨m,⟨o,_,_,ho,_⟩,_⟩:=I.loc;exact free _ o (fun z=>(hch _ z).2.1 rfl) ho I.free
 ·obtain⟨v,o,ho,hd⟩:=I.cell x c e;exact free c o (fun z=>(hch c z).2.2.1 x c e rfl) ho (I.freeC x c e)
 ·obtain⟨e,n,ne,nf,d⟩:=I.pin p hp;have aa:p.1∉ch:=fun z=>(hch p.1 z).2.2.2 p hp rfl;exact⟨keep p.1 p.2 ne nf aa e n,free p.1 p.2 aa e n,ne,nf,d⟩
theorem Inv.un{t':Nat}(I:Inv X zf σ H s)(u:Un X.fs [] H H' s.heap h')(hok:HOk X.prog X.w H' h'):Inv X zf σ H' { s with heap:=h',toks:=t' }:=by
 obtain⟨m,⟨o,es,ep,ho,r⟩,_⟩:=id I.loc;obtain⟨sl,hL⟩:=u.any ho I.free yv;exact I.step (g':=s.gens) (d':=s.drawn) (ch:=[]) (fun _ z=>nomatch z) (fun b o _ hb _ e n=>u.keep b o e n hb yv) (fun b o _ hb _ e n=>u.slot b o e n hb yv) (fun b o _ e n=>u.free b o e n yv) (fun b o _ e=>u.there b o e yv) u.tups u.frzs u.tbls (fun m' hm=>by
  obtain⟨o',ac,ae,aa,r'⟩:=hm;rw[ho]at aa;cases aa;exact⟨_,ac,ae,hL,r'⟩) hok I.bare
theorem Inv.call{g':Array GenState}{t':Nat}{d':Drawn}{ch:List Addr}(I:Inv X zf σ H s)(u:Un (frs X.stack) ch H H' s.heap h')(hok:HOk X.prog X.w H' h')(hg:AllBare g')
  (hch:∀b∈ch,(b∈X.ex\/X.s₀.heap.objs.size<=b)/\b≠X.env.locals/\(∀x c,X.env.cells.lookup x=some c->c≠b)/\∀p∈X.pn++zf,p.1≠b):
  Inv X zf σ H' { s with heap:=h',gens:=g',drawn:=d',toks:=t' }:=by
 obtain⟨m,⟨o,es,ep,ho,r⟩,_⟩:=id I.loc;obtain⟨sl,hL⟩:=u.any ho I.free fun z=>(hch _ z).2.1 rfl;exact I.step (ch:=ch) hch (fun b o hL hb hc e n=>u.keep b o e n (fun z=>(mem_cons.mp (I.stkSub b z)).elim hL hb) hc) (fun b o _ _ hc e n=>u.any e n hc) (fun b o hc e n=>u.free b o e n hc) (fun b o hc e=>u.there b o e hc) u.tups u.frzs u.tbls (fun m' hm=>by
  obtain⟨o',ac,ae,aa,r'⟩:=hm;rw[ho]at aa;cases aa;exact⟨_,ac,ae,hL,r'⟩) hok hg
theorem Inv.turned{t':Nat}{it:Addr}(I:Inv X zf σ H s)(k:∀b o,b≠it->s.heap.get? b=some o->h'.get? b=some o)(hn:H it=none)(hL:it≠X.env.locals)
  (h1:it∈X.ex\/X.s₀.heap.objs.size<=it) (h2:∀x c,X.env.cells.lookup x=some c->c≠it) (h3:∀p∈X.pn++zf,p.1≠it):Inv X zf σ H { s with heap:=h',toks:=t' }:=by
 have aa:∀b u,H b=some u->b≠it:=fun b u e z=>by rw[z,hn]at e;cases e
 refine I.step (g':=s.gens) (d':=s.drawn) (ch:=[it]) (fun b hb=>?_) (fun b o _ _ hc e _=>k b o (fun z=>hc (by simp[z])) e) (fun b o _ _ hc e _=>⟨o.slots,k b o (fun z=>hc (by simp[z])) e⟩) (fun _ _ _ _ n=>n)
  (fun b o hc e=>⟨o,k b o (fun z=>hc (by simp[z])) e⟩) (fun _ _ e=>e) (fun _ _ _ e=>e) (fun _ _ e=>e) (fun m hm=>?_) (fun b u e=>?_) I.bare
 ·have e:b=it:=by simpa using hb
  subst e;exact⟨h1,hL,h2,h3⟩
 ·obtain⟨o,es,ep,ho,r⟩:=hm;exact⟨o,es,ep,k _ o (gs hL) ho,r⟩
 ·refine(I.hok b u e).stay (fun c v hc q=>k c v ?_ q) (fun _ q=>q) fun _ _ q=>q;rcases hc with z|z
  ·rw[z];exact aa b u e
  ·exact aa c _ z
theorem Inv.tok(I:Inv X zf σ H s)(t:Nat):Inv X zf σ H { s with toks:=t }:=I.un (h':=s.heap) (t':=t) Un.refl I.hok
theorem Inv.kept{t':Nat}(I:Inv X zf σ H s)(k:∀b u,s.heap.get? b=some u->h'.get? b=some u):Inv X zf σ H { s with heap:=h',toks:=t' }:=I.un (Un.kept k) (I.hok.kept k)
theorem Inv.laid{a:Addr}{o:HO}{t':Nat}(I:Inv X zf σ H s)(k:∀b u,s.heap.get? b=some u->h'.get? b=some u)(hp:s.heap.objs.size<=a)(z:ObjOk X.prog X.w (upd H a o) h' a o):
  Inv X zf σ (upd H a o) { s with heap:=h',toks:=t' }:=I.un (Un.laid k hp (I.hok.fresh hp)) (I.hok.laid k hp z)
theorem Inv.write{x e:Addr}{o:HO}{t':Nat}(I:Inv X zf σ H s)(mu:Mut (H x))(he:e=x\/H e=some (.own x))(k:∀b u,b≠e->s.heap.get? b=some u->h'.get? b=some u)(z:∃u,h'.get? e=some u)
  (new:ObjOk X.prog X.w (upd H x o) h' x o):Inv X zf σ (upd H x o) { s with heap:=h',toks:=t' }:=I.un (Un.write mu he k z) (I.hok.write mu he k z new)
theorem Inv.pins_of{aa:List (Addr×Obj)}(I:Inv X zf σ H s)(h:∀p∈aa,s.heap.get? p.1=some p.2/\H p.1=none/\p.1≠X.env.locals/\p.1∉X.fs/\∀v,p.2.data≠.cell v):Inv X aa σ H s:=
 ⟨I.ok,I.os,I.bare,I.base,I.loc,I.cell,I.free,I.freeC,fun p hp=>(mem_append.mp hp).elim (fun z=>I.pin p (cq _ z)) (h p),I.hok,I.len⟩
theorem AI{N:List Str}(hN:N.Nodup){i j:Nat}{x:Str}(a:N[i]?=some x)(b:N[j]?=some x):i=j:=by
 obtain⟨h1,e1⟩:=List.getElem?_eq_some_iff.mp a;obtain⟨h2,e2⟩:=List.getElem?_eq_some_iff.mp b;exact(List.getElem_inj hN).mp (e1.trans e2.symm)
theorem Ea{M:Model}{A:cz}{E:bb->be->Prop}{i:Nat}{x:Str}{v:V}{u:bb}{Q:Unit->be->Prop}(I:Inv X zf σ H s)(hN:X.N.Nodup)(hi:X.N[i]?=some x)(hx:Loc X.env.scope x)(r:RelV v u)
  (h:∀s',Inv X zf (σ.set i (some v)) H s'->(∃a,gu a s.heap s'.heap/\(a=X.env.locals\/X.env.cells.lookup x=some a))->Q () s') (hf:X.fn x=true\/X.env.scope.names.lookup x=some .local:=by first|exact .inl rfl|exact .inr rfl|assumption):bo M A (storeName X.env x u) Q E s:=by
 obtain⟨m,hn,hl⟩:=id I.loc;have ag:(X.env.scope.kind==.class||(X.env.scope.kind==.module&&X.env.locals != X.env.globals))=false:=by rw[I.ok.kind];rfl
 have ai:i<σ.length:=by rw[I.len];exact(List.getElem?_eq_some_iff.mp hi).1
 have ae:=I.cne;have aa:∀{a:Addr}{h':Heap},(∃o,s.heap.get? a=some o/\H a=none)->gu a s.heap h'->HOk X.prog X.w H h':=fun {a h'} ha hs b ob e=>by
  obtain⟨_,_,ac⟩:=ha;refine(I.hok b ob e).stay (fun c w' hc q=>(hs.2 c ?_).trans q) (fun _ q=>q) fun _ _ q=>q;rintro rfl;rcases hc with rfl|hc
  ·rw[ac]at e;cases e
  ·rw[ac]at hc;cases hc
 rcases hx with hk|hk
 ·refine wpAny_storeName_local hk hn (fun h' al hs=>?_) ag;obtain⟨oL,_,_,am,_⟩:=id hn;refine h _ ⟨I.ok,I.os,I.bare,⟨fun b o e n hb hx=>?_,fun b o e n hb hx=>?_,I.base.free,fun b o e hx=>?_,I.base.tups,I.base.frzs,I.base.tbls⟩,⟨_,al,fun j y v' e1 e2 e3=>?_⟩,fun y c e=>?_,I.free,I.freeC,fun p hp=>?_,aa ⟨oL,am,I.free⟩ hs,by simpa using I.len⟩ ⟨_,hs,.inl rfl⟩
  ·exact(hs.2 b (gf (fk (dn e) I.ok.above))).trans (I.base.keep b o e n hb hx)
  ·obtain⟨sl,e1⟩:=I.base.slot b o e n hb hx;exact⟨sl,(hs.2 b (gf (fk (dn e) I.ok.above))).trans e1⟩
  ·obtain⟨o',e1⟩:=I.base.there b o e hx;exact⟨o',(hs.2 b (gf (fk (dn e) I.ok.above))).trans e1⟩
  ·by_cases hj:j=i
   ·subst hj;rw[hi]at e1;cases e1;rw[lw ai]at e2;cases e2;exact⟨u,r,.inl ⟨hk,yv⟩⟩
   ·rw[nq (gs hj)]at e2;obtain⟨u',r',q⟩:=hl j y v' e1 e2 e3;refine⟨u',r',?_⟩;rcases q with ⟨k,e⟩|⟨k,c,e,z⟩
    ·refine .inl ⟨k,?_⟩;have:y≠x:=fun e=>hj (AI hN e1 (e▸hi));simp[this,e]
    ·exact .inr ⟨k,c,e,z.sameBut hs (ae y c e)⟩
  ·obtain⟨w',z⟩:=I.cell y c e;exact⟨w',z.sameBut hs (ae y c e)⟩
  ·obtain⟨e,n,ne,nf,d⟩:=I.pin p hp;exact⟨(hs.2 p.1 ne).trans e,n,ne,nf,d⟩
 ·have af:X.fn x=true:=by
   rcases hf with z|z
   ·exact z
   ·rw[z]at hk;cases hk
  obtain⟨c,hc⟩:=I.ok.has x (.inl hk);obtain⟨w',z⟩:=I.cell x c hc;refine wpAny_storeName_cell I.ok.kind hk hc z (fun h' ak hs=>?_);obtain⟨oc,ah,aj⟩:=id z;refine h { s with heap:=h' } ⟨I.ok,I.os,I.bare,⟨fun b o e n hb hx=>?_,fun b o e n hb hx=>?_,I.base.free,fun b o e hx=>?_,I.base.tups,I.base.frzs,I.base.tbls⟩,⟨m,hn.sameBut hs (gs (ae x c hc)),fun j y v' e1 e2 e3=>?_⟩,fun y c' e=>?_,I.free,I.freeC,fun p hp=>?_,aa ⟨oc,ah,I.freeC x c hc⟩ hs,by simpa using I.len⟩ ⟨c,hs,.inr hc⟩
  ·exact(hs.2 b (gf (fk (dn e) (I.ok.cab x c af hc)))).trans (I.base.keep b o e n hb hx)
  ·obtain⟨sl,e1⟩:=I.base.slot b o e n hb hx;exact⟨sl,(hs.2 b (gf (fk (dn e) (I.ok.cab x c af hc)))).trans e1⟩
  ·obtain⟨o',e1⟩:=I.base.there b o e hx;exact⟨o',(hs.2 b (gf (fk (dn e) (I.ok.cab x c af hc)))).trans e1⟩
  ·by_cases hj:j=i
   ·subst hj;rw[hi]at e1;cases e1;rw[lw ai]at e2;cases e2;exact⟨u,r,.inr ⟨.inl hk,c,hc,ak⟩⟩
   ·rw[nq (gs hj)]at e2;obtain⟨u',r',q⟩:=hl j y v' e1 e2 e3;refine⟨u',r',?_⟩;rcases q with q|⟨k,c',e,z'⟩
    ·exact .inl q
    ·refine .inr ⟨k,c',e,z'.sameBut hs ?_⟩;rintro rfl;exact hj (AI hN e1 (I.ok.inj _ _ _ e hc▸hi))
  ·by_cases hcc:c'=c
   ·subst hcc;exact⟨_,ak⟩
   ·obtain⟨w2,z2⟩:=I.cell y c' e;exact⟨w2,z2.sameBut hs hcc⟩
  ·obtain⟨e,n,ne,nf,d⟩:=I.pin p hp;refine⟨(hs.2 p.1 ?_).trans e,n,ne,nf,d⟩;intro q;rw[q,ah]at e;have q':oc=p.2:=fc e;exact d w' (by rw[<- q'];exact aj)
theorem sZ{M:Model}{A:cz}{E:bb->be->Prop}{i:Nat}{x:Str}{v:V}{u:bb}{Q:Unit->be->Prop}(I:Inv X zf σ H s)(hN:X.N.Nodup)(hi:X.N[i]?=some x)(hx:Loc X.env.scope x)(r:RelV v u)
  (h:∀s',Inv X zf (σ.set i (some v)) H s'->Q () s') (hf:X.fn x=true\/X.env.scope.names.lookup x=some .local:=by first|exact .inl rfl|exact .inr rfl|assumption):bo M A (storeName X.env x u) Q E s:=
 Ea I hN hi hx r (fun s' I' _=>h s' I') hf
theorem Inv.call'{s':be}{ch:List Addr}(I:Inv X zf σ H s)(ho:s'.os=s.os)(u:Un (frs X.stack) ch H H' s.heap s'.heap)(hok:HOk X.prog X.w H' s'.heap)(hg:AllBare s'.gens)
  (hch:∀b∈ch,(b∈X.ex\/X.s₀.heap.objs.size<=b)/\b≠X.env.locals/\(∀x c,X.env.cells.lookup x=some c->c≠b)/\∀p∈X.pn++zf,p.1≠b):Inv X zf σ H' s':=by
 obtain⟨h',g',d',t',o'⟩:=s';have e:o'=s.os:=ho;subst e;exact I.call (g':=g') (t':=t') (d':=d') u hok hg hch
end
abbrev XK:=bb->Option Addr->Hp->Prop
abbrev St:=List (Option V)
abbrev VK:=V->Hp->Prop
abbrev TE:=St->Hp->VK->Prop
abbrev TT:=St->Hp->(Bool->Hp->Prop)->Prop
abbrev TA:=St->Hp->(List V->Hp->Prop)->Prop
structure Ends where
 nx:St->Hp->Prop
 rt:VK
 bk:St->Hp->Prop:=fun _ _=>False
 ct:St->Hp->Prop:=fun _ _=>False
abbrev TS:=Ends->St->Hp->Prop
def EP(X:Cx)(zf:List (Addr×Obj))(σ:St)(Q:VK)(u:bb)(s':be):Prop:=∃v H',Inv X zf σ H' s'/\RelV v u/\Q v H'
def TP(X:Cx)(zf:List (Addr×Obj))(σ:St)(Q:Bool->Hp->Prop)(b:Bool)(s':be):Prop:=∃H',Inv X zf σ H' s'/\Q b H'
def AP(X:Cx)(zf:List (Addr×Obj))(σ:St)(Q:List V->Hp->Prop)(us:List bb)(s':be):Prop:=∃vs H',Inv X zf σ H' s'/\Vals vs us/\Q vs H'
def SP(X:Cx)(zf:List (Addr×Obj))(D:Ends)(f:Flow)(s':be):Prop:=
 match f with
 | .next=>∃ σ' H',Inv X zf σ' H' s'/\D.nx σ' H'
 | .brk=>∃ σ' H',Inv X zf σ' H' s'/\D.bk σ' H'
 | .cont=>∃ σ' H',Inv X zf σ' H' s'/\D.ct σ' H'
 | .ret u=>∃v σ' H',Inv X zf σ' H' s'/\RelV v u/\D.rt v H'
def PE(X:Cx)(e:Expr)(t:TE):Prop:=
 ∀(zf:List (Addr×Obj)) (s:be) (σ:St) (H:Hp) (Q:VK),Inv X zf σ H s->t σ H Q->bo (model X.prog X.w) X.A (eval e X.env) (EP X zf σ Q) X.xe s
def PT(X:Cx)(e:Expr)(t:TT):Prop:=
 ∀(zf:List (Addr×Obj)) (s:be) (σ:St) (H:Hp) (Q:Bool->Hp->Prop),Inv X zf σ H s->t σ H Q->bo (model X.prog X.w) X.A (isTrue e X.env (eval e X.env)) (TP X zf σ Q) X.xe s
def PW(X:Cx)(e:Expr)(t:TT):Prop:=
 ∀(whole:Sem bb) (zf:List (Addr×Obj)) (s:be) (σ:St) (H:Hp) (Q:Bool->Hp->Prop),Inv X zf σ H s->t σ H Q->bo (model X.prog X.w) X.A (isTrue e X.env whole) (TP X zf σ Q) X.xe s
theorem PW.pt{X:Cx}{e:Expr}{t:TT}(h:PW X e t):PT X e t:=h _
def PA(X:Cx)(es:List Expr)(t:TA):Prop:=
 ∀(pos:Pos) (zf:List (Addr×Obj)) (s:be) (σ:St) (H:Hp) (Q:List V->Hp->Prop),Inv X zf σ H s->t σ H Q->bo (model X.prog X.w) X.A (spliced (kx pos (cp es X.env))) (AP X zf σ Q) X.xe s
def PS(X:Cx)(st:Stmt)(t:TS):Prop:=
 ∀(zf:List (Addr×Obj)) (s:be) (σ:St) (H:Hp) (D:Ends),Inv X zf σ H s->t D σ H->bo (model X.prog X.w) X.A (exec st X.env) (SP X zf D) X.xe s
def PSs(X:Cx)(st:List Stmt)(t:TS):Prop:=
 ∀(zf:List (Addr×Obj)) (s:be) (σ:St) (H:Hp) (D:Ends),Inv X zf σ H s->t D σ H->bo (model X.prog X.w) X.A (execs st X.env) (SP X zf D) X.xe s
theorem thn{α:Type}{t:Sem α}{Q Q':α->be->Prop}{M:Model}{A:cz}{E:bb->be->Prop}{s:be}(h:bo M A t Q E s)(hQ:∀a s,Q a s->Q' a s):bo M A t Q' E s:=gm h hQ fun _ _ x=>x
end
section
section
variable {X:Cx}
def cO(i:Nat):TE:=fun σ H Q=>∃v,σ[i]?=some (some v)/\Q v H
def tC(v:V):TE:=fun _ H Q=>Q v H
theorem Jz{i:Nat}{x:Str}{pos:Pos}(hN:X.N[i]?=some x)(hv:Vis X.env.scope x)(hd:(x==("__debug__":Str))=false:=by decide)(z:(x==("__classdict__":Str))=false:=by decide):PE X (.Name x pos) (cO i):=by
 intro zf s σ H Q I h;obtain⟨v,e,h⟩:=h;obtain⟨m,hn,hl⟩:=I.loc;obtain⟨u,r,l⟩:=hl i x v hN e hv;have fin:EP X zf σ Q u s:=⟨v,H,I,r,h⟩;rcases l with ⟨hk,hm⟩|⟨hk,c,hc,hcell⟩
 ·exact wpAny_Name (wpAny_loadName_local I.ok.kind hk hn hm fin) hd
 ·rcases hk with hk|hk
  ·exact wpAny_Name (wpAny_loadName_cell I.ok.kind hk hc hcell fin) hd
  ·exact wpAny_Name (wpAny_loadName_free I.ok.kind hk hc hcell fin z) hd
theorem zg{i j pos}:PE X (.Constant (.int i) j pos) (tC (.int i)):=fun _ _ _ H _ I h=>wpAny_Constant_int ⟨.int i,H,I.tok _,⟨_,rfl⟩,h⟩
theorem cK{b j pos}:PE X (.Constant (.bool b) j pos) (tC (.bl b)):=fun _ _ _ H _ I h=>Constant_bool ⟨.bl b,H,I,rfl,h⟩
theorem eW{j pos}:PE X (.Constant .none j pos) (tC .non):=fun _ _ _ H _ I h=>Constant_none ⟨.non,H,I,rfl,h⟩
theorem aW{x j pos}:PE X (.Constant (.str x) j pos) (tC (.str x)):=fun _ _ _ H _ I h=>Calls.Constant_str ⟨.str x,H,I.tok _,⟨_,rfl⟩,h⟩
def Gl(X:Cx)(x:Str):Prop:=X.env.kindOf x=some .globalImplicit
theorem nV{E:bb->be->Prop}{zf:List (Addr×Obj)}{s:be}{σ:St}{H:Hp}{x:Str}{u:bb}{pos:Pos}{Q:bb->be->Prop}(I:Inv X zf σ H s)(hg:Gl X x)(hm:X.mg x=some u)(h:Q u s)
  (hd:(x==("__debug__":Str))=false:=by decide):bo (model X.prog X.w) X.A (eval (.Name x pos) X.env) Q E s:=
 Calls.Name_function_global I.ok.kind hg (Calls.loadGlobal_global (by rw[I.ok.glob];exact I.mod.glob.keeps I.bk) hm h) hd
theorem gG{E:bb->be->Prop}{zf:List (Addr×Obj)}{s:be}{σ:St}{H:Hp}{x:Str}{u:bb}{pos:Pos}{Q:bb->be->Prop}(I:Inv X zf σ H s)(hg:Gl X x)(hm:X.mg x=none)(hv:fy x=some u)(h:Q u s)
  (hn:x ≠ "__name__":=by decide) (hd:(x==("__debug__":Str))=false:=by decide):bo (model X.prog X.w) X.A (eval (.Name x pos) X.env) Q E s:=by
 obtain⟨mb,h1,h2⟩:=I.mod.blt;exact Calls.Name_function_global I.ok.kind hg (Calls.loadGlobal_builtin (by rw[I.ok.glob];exact I.mod.glob.keeps I.bk) hm (by rw[I.ok.blt];exact h1.keeps I.bk) ((h2 x hn).trans hv) h) hd
theorem dR{x:Str}{v:V}{u:bb}{pos:Pos}(hg:Gl X x)(hm:X.mg x=some u)(r:RelV v u)(hd:(x==("__debug__":Str))=false:=by decide):PE X (.Name x pos) (tC v):=
 fun _ _ _ H _ I h=>nV I hg hm ⟨v,H,I,r,h⟩ hd
theorem eP{x:Str}{v:V}{u:bb}{pos:Pos}(hg:Gl X x)(hm:X.mg x=none)(hv:fy x=some u)(r:RelV v u)(hn:x ≠ "__name__":=by decide)(hd:(x==("__debug__":Str))=false:=by decide):PE X (.Name x pos) (tC v):=
 fun _ _ _ H _ I h=>gG I hg hm hv ⟨v,H,I,r,h⟩ hn hd
variable {a b:Expr}{ta tb:TE}{pos:Pos}
def tB(t:TE):TT:=fun σ H Q=>t σ H fun x H1=>∃c,x=.bl c/\Q c H1
variable {tA tB':TT}{rest:List Expr}
def vV(t u:TT):TT:=fun σ H Q=>t σ H fun c H1=>if c=true then u σ H1 Q else Q false H1
def tOr(t u:TT):TT:=fun σ H Q=>t σ H fun c H1=>if c=true then Q true H1 else u σ H1 Q
def Bl(t:TT):TT:=fun σ H Q=>t σ H fun c H1=>Q (!c) H1
theorem rP(ha:PT X a tA):PW X (.BoolOp .And [a] pos) tA:=by
 intro wh zf s σ H Q I h;refine isTrue_and (thn (ha zf s σ H Q I h) fun c s1 e=>?_);cases c with
 |true=>exact isTrue_and_nil e
 |false=>exact e
theorem gW(ha:PT X a tA):PW X (.BoolOp .Or [a] pos) tA:=by
 intro wh zf s σ H Q I h;refine isTrue_or (thn (ha zf s σ H Q I h) fun c s1 e=>?_);cases c with
 |false=>exact isTrue_or_nil e
 |true=>exact e
theorem mO(ha:PT X a tA)(hb:PW X (.BoolOp .And (b::rest) pos) tB'):PW X (.BoolOp .And (a::b::rest) pos) (vV tA tB'):=by
 intro wh zf s σ H Q I h;refine isTrue_and (thn (ha zf s σ H _ I h) fun c s1 ⟨H1,I1,q1⟩=>?_);cases c with
 |true=>exact hb wh zf s1 σ H1 Q I1 q1
 |false=>exact⟨H1,I1,q1⟩
theorem fJ(ha:PT X a tA)(hb:PW X (.BoolOp .Or (b::rest) pos) tB'):PW X (.BoolOp .Or (a::b::rest) pos) (tOr tA tB'):=by
 intro wh zf s σ H Q I h;refine isTrue_or (thn (ha zf s σ H _ I h) fun c s1 ⟨H1,I1,q1⟩=>?_);cases c with
 |true=>exact⟨H1,I1,q1⟩
 |false=>exact hb wh zf s1 σ H1 Q I1 q1
theorem eQ(ha:PT X a tA):PT X (.UnaryOp .Not a pos) (Bl tA):=by
 intro zf s σ H Q I h;exact isTrue_not (ha zf s σ H (fun c H1=>Q (!c) H1) I h)
def EB(ta tb:TE):TE:=fun σ H Q=>ta σ H fun x H1=>∃c,x=.bl c/\if c=true then tb σ H1 Q else Q (.bl false) H1
def DP(ta:TE):TE:=fun σ H Q=>ta σ H fun x H1=>∃c,x=.bl c/\Q (.bl (!c)) H1
theorem hJ{op}{t:TE}(h:PE X a t):PE X (.BoolOp op [a] pos) t:=fun zf s σ H Q I hw=>BoolOp_one (h zf s σ H Q I hw)
theorem iM(ha:PE X a ta)(hb:PE X (.BoolOp .And (b::rest) pos) tb):PE X (.BoolOp .And (a::b::rest) pos) (EB ta tb):=by
 intro zf s σ H Q I h;refine BoolOp_and (thn (ha zf s σ H _ I h) fun v s1 ⟨x,H1,I1,r1,q1⟩=>?_);obtain⟨c,rfl,q1⟩:=q1;cases r1;refine ic ?_;cases c with
 |true=>exact hb zf s1 σ H1 Q I1 q1
 |false=>exact⟨.bl false,H1,I1,rfl,q1⟩
theorem xE(ha:PE X a ta):PE X (.UnaryOp .Not a pos) (DP ta):=by
 intro zf s σ H Q I h;refine UnaryOp_ (thn (ha zf s σ H _ I h) fun v s1 ⟨x,H1,I1,r1,q1⟩=>?_);obtain⟨c,rfl,q1⟩:=q1;cases r1;exact not_of (ic ⟨.bl (!c),H1,I1,rfl,q1⟩)
def tIf(t:TT)(ta tb:TE):TE:=fun σ H Q=>t σ H fun c H1=>if c=true then ta σ H1 Q else tb σ H1 Q
theorem BG{c:Expr}(hc:PT X c tA)(ha:PE X a ta)(hb:PE X b tb):PE X (.IfExp c a b pos) (tIf tA ta tb):=by
 intro zf s σ H Q I h;refine wpAny_IfExp (thn (hc zf s σ H _ I h) fun d s1 ⟨H1,I1,q1⟩=>?_);cases d with
 |true=>exact ha zf s1 σ H1 Q I1 q1
 |false=>exact hb zf s1 σ H1 Q I1 q1
end
end
section
def SqL(K:bj)(H:Hp)(a:Addr)(xs:List V):Prop:=
 Rd H a (.lst xs) \/
  ∃(o:Obj) (its:Array bb) (n:Nat),K.lookup a=some o/\o.cls=.type "list"/\o.dict=none/\o.data=.seq its n/\its.size<=br/\Vals xs its.toList
def SqT(K:bj)(H:Hp)(a:Addr)(xs:List V):Prop:=
 Rd H a (.tup xs) \/
  ∃(o:Obj) (its:Array bb) (n:Nat),K.lookup a=some o/\o.cls=.type "tuple"/\o.data=.seq its n/\its.size<=br/\Vals xs its.toList
def K3:bb->Option V
 | .none=>some .non
 | .bool b=>some (.bl b)
 | .int i _=>some (.int i)
 | .str x _=>some (.str x)
 | .bytes b _=>some (.byt b)
 | .float b _=>some (.flt b)
 | .ref a=>some (.ref a)
 | .type n=>some (.ty n)
 |_=>none
theorem RelV.abs{x:V}{u:bb}(r:RelV x u):K3 u=some x:=by
 cases x with
 |non=>cases r;rfl
 |bl _=>cases r;rfl
 |int _=>obtain⟨t,rfl⟩:=r;rfl
 |str _=>obtain⟨t,rfl⟩:=r;rfl
 |byt _=>obtain⟨t,rfl⟩:=r;rfl
 |flt _=>obtain⟨t,rfl⟩:=r;rfl
 |ref _=>cases r;rfl
 |ty _=>cases r;rfl
theorem RelV.inj{x y:V}{u:bb}(r:RelV x u)(q:RelV y u):x=y:=fc (r.abs.symm.trans q.abs)
theorem Vals.inj:∀{xs ys:List V}{us:List bb},Vals xs us->Vals ys us->xs=ys
 |_,_,_,.nil,.nil=>rfl
 |_,_,_,.cons r t,.cons r' t'=>by rw[r.inj r',Vals.inj t t']
section
variable {X:Cx}{zf:List (Addr×Obj)}{σ:St}{H:Hp}{s:be}{a:Addr}{xs ys:List V}
theorem SqL.of{K:bj}(h:H a=some (.lst xs)):SqL K H a xs:=.inl (.inl h)
theorem SqT.of{K:bj}(h:H a=some (.tup xs)):SqT K H a xs:=.inl (.inl h)
theorem Inv.list(I:Inv X zf σ H s)(h:SqL X.K H a xs):∃aa:List bb,Vals xs aa/\PlainL s.heap a aa.toArray/\xs.length<=br:=by
 rcases h with h|⟨o,aa,n,hk,hc,hd,hs,hz,r⟩
 ·obtain⟨z,aa,n,r,e⟩:=h.ok I.hok;exact⟨aa,r,⟨_,n,e,rfl,rfl,rfl⟩,z⟩
 ·refine⟨aa.toList,r,⟨o,n,I.kIn a o hk,hc,hd,by simpa using hs⟩,?_⟩;have e:=r.length;simp only[jd]at e;omega
theorem Inv.tuple(I:Inv X zf σ H s)(h:SqT X.K H a xs):∃aa:List bb,Vals xs aa/\IsTup s.heap a aa.toArray/\xs.length<=br:=by
 rcases h with h|⟨o,aa,n,hk,hc,hs,hz,r⟩
 ·obtain⟨z,aa,r,p⟩:=h.ok I.hok;exact⟨aa,r,p,z.1⟩
 ·refine⟨aa.toList,r,⟨o,I.kIn a o hk,hc,n,by simpa using hs⟩,?_⟩;have e:=r.length;simp only[jd]at e;omega
theorem Inv.list_inj(I:Inv X zf σ H s)(h:SqL X.K H a xs)(h':SqL X.K H a ys):xs=ys:=by
 obtain⟨z,r,⟨o,n,e,_,_,d⟩,_⟩:=I.list h;obtain⟨its',r',⟨o',n',e',_,_,d'⟩,_⟩:=I.list h';rw[e]at e';cases e';rw[d]at d';injection d' with d1 _
 have:z=its':=by simpa using congrArg Array.toList d1
 subst this;exact r.inj r'
theorem Inv.tuple_inj(I:Inv X zf σ H s)(h:SqT X.K H a xs)(h':SqT X.K H a ys):xs=ys:=by
 obtain⟨z,r,⟨o,e,_,n,d⟩,_⟩:=I.tuple h;obtain⟨its',r',⟨o',e',_,n',d'⟩,_⟩:=I.tuple h';rw[e]at e';cases e';rw[d]at d';injection d' with d1 _
 have:z=its':=by simpa using congrArg Array.toList d1
 subst this;exact r.inj r'
end
abbrev Cx.wish (X:Cx) (E:bb->be->Prop):Cx:={ X with xe:=E }
abbrev Cx.nox (X:Cx):Cx:=X.wish fun _ _=>False
theorem Cx.Ok.wish{X:Cx}(ok:X.Ok)(E:bb->be->Prop):(X.wish E).Ok:=
 ⟨ok.mod,ok.kind,ok.glob,ok.blt,ok.above,ok.inj,ok.has,ok.cab,ok.hd,ok.frames,ok.stk,ok.exf,ok.bs,ok.bsz,ok.noex,ok.exfs,ok.funs,ok.frf⟩
theorem Cx.Ok.unwish{X:Cx}{E:bb->be->Prop}(ok:(X.wish E).Ok):X.Ok:=
 ⟨ok.mod,ok.kind,ok.glob,ok.blt,ok.above,ok.inj,ok.has,ok.cab,ok.hd,ok.frames,ok.stk,ok.exf,ok.bs,ok.bsz,ok.noex,ok.exfs,ok.funs,ok.frf⟩
section
variable {X:Cx}{zf:List (Addr×Obj)}{σ:St}{H:Hp}{s:be}{E:bb->be->Prop}
theorem Inv.wish(I:Inv X zf σ H s)(E:bb->be->Prop):Inv (X.wish E) zf σ H s:=⟨I.ok.wish E,I.os,I.bare,I.base,I.loc,I.cell,I.free,I.freeC,I.pin,I.hok,I.len⟩
theorem Inv.unwish(I:Inv (X.wish E) zf σ H s):Inv X zf σ H s:=⟨I.ok.unwish,I.os,I.bare,I.base,I.loc,I.cell,I.free,I.freeC,I.pin,I.hok,I.len⟩
theorem SP.unwish{D:Ends}{f:Flow}{s':be}(h:SP (X.wish E) zf D f s'):SP X zf D f s':=by
 cases f with
 |next=>obtain⟨σ',H',I,q⟩:=h;exact⟨σ',H',I.unwish,q⟩
 |brk=>obtain⟨σ',H',I,q⟩:=h;exact⟨σ',H',I.unwish,q⟩
 |cont=>obtain⟨σ',H',I,q⟩:=h;exact⟨σ',H',I.unwish,q⟩
 |ret u=>obtain⟨v,σ',H',I,r,q⟩:=h;exact⟨v,σ',H',I.unwish,r,q⟩
theorem PE.nox{e:Expr}{t:TE}(h:PE X.nox e t):PE X e t:=fun zf s σ H Q I hw=>
 gm (h zf s σ H Q (I.wish _) hw) (fun _ _ ⟨v,H',I',r,q⟩=>⟨v,H',I'.unwish,r,q⟩) fun _ _ z=>fu z
theorem PT.nox{e:Expr}{t:TT}(h:PT X.nox e t):PT X e t:=fun zf s σ H Q I hw=>
 gm (h zf s σ H Q (I.wish _) hw) (fun _ _ ⟨H',I',q⟩=>⟨H',I'.unwish,q⟩) fun _ _ z=>fu z
theorem PSs.nox{st:List Stmt}{t:TS}(h:PSs X.nox st t):PSs X st t:=fun zf s σ H D I hw=>
 gm (h zf s σ H D (I.wish _) hw) (fun _ _ q=>q.unwish) fun _ _ z=>fu z
end
section
variable {X:Cx}{st:Stmt}{rest:List Stmt}{t u:TS}{e:Expr}{te:TE}{pos:Pos}
def t9:TS:=fun D σ H=>D.nx σ H
def aR(t u:TS):TS:=fun D σ H=>t { D with nx:=u D } σ H
theorem zM:PSs X [] t9:=fun _ _ σ H _ I h=>li ⟨σ,H,I,h⟩
theorem ze(h1:PS X st t)(h2:PSs X rest u):PSs X (st::rest) (aR t u):=by
 intro zf s σ H D I h;refine wpAny_execs_cons (thn (h1 zf s σ H { D with nx:=u D } I h) fun f s1 q=>?_);cases f with
 |next=>
  obtain⟨σ',H',I',q⟩:=q;exact h2 zf s1 σ' H' D I' q
 |ret v=>exact q
 |brk=>exact q
 |cont=>exact q
theorem zi(h1:PS X st t):PSs X [st] t:=by
 intro zf s σ H D I h;refine wpAny_execs_cons (thn (h1 zf s σ H D I h) fun f s1 q=>?_);cases f with
 |next=>exact li q
 |ret v=>exact q
 |brk=>exact q
 |cont=>exact q
theorem Inv.quiet{zf:List (Addr×Obj)}{σ:St}{H:Hp}{s:be}(I:Inv X zf σ H s):interactive X.env=false:=by simp[interactive,I.ok.kind]
def oO(te:TE):TS:=fun D σ H=>te σ H fun _ H1=>D.nx σ H1
theorem d8(he:PE X e te)(hs:swapsWith e none pos.line X.env=pure false:=by rfl):PS X (.Expr e pos) (oO te):=by
 intro zf s σ H D I h;exact wpAny_Expr_any (thn (he zf s σ H _ I h) fun v s1 ⟨x,H1,I1,r1,q1⟩=>⟨σ,H1,I1,q1⟩) I.quiet hs
def mT(te:TE):TS:=fun D σ H=>te σ H D.rt
theorem zt(he:PE X e te):PS X (.Return (some e) pos) (mT te):=by
 intro zf s σ H D I h;exact wpAny_Return_some (thn (he zf s σ H _ I h) fun v s1 ⟨x,H1,I1,r1,q1⟩=>⟨x,σ,H1,I1,r1,q1⟩)
def nN(c:TT)(t u:TS):TS:=fun D σ H=>c σ H fun b H1=>if b=true then t D σ H1 else u D σ H1
theorem aM{c:Expr}{a b:List Stmt}{tc:TT}(hc:PT X c tc)(ha:PSs X a t)(hb:PSs X b u):PS X (.If c a b pos) (nN tc t u):=by
 intro zf s σ H D I h;refine wpAny_If (thn (hc zf s σ H _ I h) fun d s1 ⟨H1,I1,q1⟩=>?_);cases d with
 |true=>exact ha zf s1 σ H1 D I1 q1
 |false=>exact hb zf s1 σ H1 D I1 q1
def B8:TS:=fun _ _ _=>False
theorem uD:PS X st B8:=fun _ _ _ _ _ _ h=>h.elim
end
abbrev TG:=V->St->Hp->(St->Hp->Prop)->Prop
abbrev TGs:=List V->St->Hp->(St->Hp->Prop)->Prop
def PG(X:Cx)(z:Expr)(t:TG):Prop:=
 ∀(zf:List (Addr×Obj)) (s:be) (σ:St) (H:Hp) (v:V) (u:bb) (Q:St->Hp->Prop),Inv X zf σ H s->RelV v u->t v σ H Q ->
  bo (model X.prog X.w) X.A (assign z X.env u) (fun _ s'=>∃ σ' H',Inv X zf σ' H' s'/\Q σ' H') X.xe s
def PGs(X:Cx)(ts:List Expr)(t:TGs):Prop:=
 ∀(zf:List (Addr×Obj)) (s:be) (σ:St) (H:Hp) (vs:List V) (us:List bb) (Q:St->Hp->Prop),Inv X zf σ H s->Vals vs us->t vs σ H Q ->
  bo (model X.prog X.w) X.A (assignInOrder ((assignEach ts X.env).map (·.2)) us) (fun _ s'=>∃ σ' H',Inv X zf σ' H' s'/\Q σ' H') X.xe s
abbrev TSet:=V->V->V->Hp->(Hp->Prop)->Prop
def PSet(X:Cx)(t:TSet):Prop:=
 ∀(zf:List (Addr×Obj)) (s:be) (σ:St) (H:Hp) (o i v:V) (ov iv u:bb) (Q:Hp->Prop),Inv X zf σ H s->RelV o ov->RelV i iv->RelV v u->t o i v H Q ->
  bo (model X.prog X.w) X.A (setItem ov iv u) (fun _ s'=>∃H',Inv X zf σ H' s'/\Q H') X.xe s
section
variable {X:Cx}{pos:Pos}
def g0(i:Nat):TG:=fun v σ H Q=>Q (σ.set i (some v)) H
theorem zB{i:Nat}{x:Str}(hN:X.N.Nodup)(hi:X.N[i]?=some x)(hx:Loc X.env.scope x)(hf:X.fn x=true\/X.env.scope.names.lookup x=some .local:=by first|exact .inl rfl|exact .inr rfl|assumption):PG X (.Name x pos) (g0 i):=by
 intro zf s σ H v u Q I r h;exact wpAny_assign_Name (sZ I hN hi hx r (fun s' I'=>⟨_,H,I',h⟩) hf)
def Am:TGs:=fun vs σ H Q=>vs=[]/\Q σ H
def B1(t:TG)(u:TGs):TGs:=fun vs σ H Q=>∃v r,vs=v::r/\t v σ H fun σ' H'=>u r σ' H' Q
theorem g9:PGs X [] Am:=by
 intro zf s σ H vs us Q I r h;obtain⟨e,h⟩:=h;subst e;cases r;exact assignInOrder_nil ⟨σ,H,I,h⟩
theorem b8{e:Expr}{es:List Expr}{t:TG}{u:TGs}(h1:PG X e t)(h2:PGs X es u)
  (hs:(assignEach (e::es) X.env).map (·.2)=assign e X.env::(assignEach es X.env).map (·.2):=by rfl):PGs X (e::es) (B1 t u):=by
 intro zf s σ H vs us Q I r h;obtain⟨v,vr,e1,h⟩:=h;subst e1;cases r with
 |cons r rr=>
  rw[hs];refine assignInOrder_cons (thn (h1 zf s σ H _ _ _ I r h) fun _ s1 ⟨σ1,H1,I1,q1⟩=>?_);exact h2 zf s1 σ1 H1 _ _ Q I1 rr q1
def y6(K:bj)(n:Nat)(t:TGs):TG:=fun v σ H Q=>∃a xs,v=.ref a/\SqT K H a xs/\xs.length=n/\t xs σ H Q
theorem iO{es:List Expr}{k:Nat}{t:TGs}{n:Nat}(hc:X.calm=true)(h:PGs X es t)
  (hn:(assignEach es X.env).length=n:=by rfl) (hst:(assignEach es X.env).findIdx? (·.1)=none:=by rfl):PG X (.Tuple es k pos) (y6 X.K n t):=by
 intro zf s σ H v u Q I r hw;obtain⟨a,xs,e1,hq,hl,hw⟩:=hw;subst e1;cases r;obtain⟨z,rv,ht,hz⟩:=I.tuple hq;refine assign_Tuple_tuple (I.ok.hd hc) ht (by simp[hn,<- hl,rv.length]) hst fun h' hx=>?_;have I1:Inv X zf σ H { s with heap:=h' }:=I.kept (t':=s.toks) fun b o e=>hx b o (gf (dn e)) e;exact h zf _ σ H xs _ Q I1 (by simpa using rv) hw
def C5(to ti:TE)(t:TSet):TG:=fun v σ H Q=>to σ H fun o H1=>ti σ H1 fun i H2=>t o i v H2 fun H3=>Q σ H3
theorem CB{o i:Expr}{to ti:TE}{t:TSet}(ho:PE X o to)(hi:PE X i ti)(hs:PSet X t)
  (ha:∀v,assign (.Subscript o i pos) X.env v=(do
   let ov <- holding [v] (eval o X.env)
   let iv <- holding [v,ov] (eval i X.env)
   standAt pos
   holding [v,ov,iv] (setItem ov iv v)
   release [v,ov,iv] []):=by intro _;rfl):PG X (.Subscript o i pos) (C5 to ti t):=by
 intro zf s σ H v u Q I r h;rw[ha];refine bc (je (thn (ho zf s σ H _ I h) fun ov s1 ⟨x,H1,I1,r1,q1⟩=>?_));refine bc (je (thn (hi zf s1 σ H1 _ I1 q1) fun iv s2 ⟨y,H2,I2,r2,q2⟩=>?_));refine bc (wpAny_standAt (bc (je (thn (hs zf s2 σ H2 x y v ov iv u _ I2 r1 r2 r q2) fun _ s3 ⟨H3,I3,q3⟩=>?_))));exact wpAny_release ⟨σ,H3,I3,q3⟩
def iN(te:TE)(g:TG):TS:=fun D σ H=>te σ H fun x H1=>g x σ H1 D.nx
theorem sS{tg e:Expr}{te:TE}{g:TG}(he:PE X e te)(hg:PG X tg g)(hs:swapsWithSole [tg] e pos.line X.env=pure false:=by rfl)(hw:swappedStores [tg] e X.env=pure none:=by rfl)
  (h1:(assignEach [tg] X.env).map (·.2)=[assign tg X.env]:=by rfl):PS X (.Assign [tg] e pos) (iN te g):=by
 intro zf s σ H D I h;refine wpAny_Assign_stores (thn (he zf s σ H _ I h) fun v s1 ⟨x,H1,I1,r1,q1⟩=>?_) hs hw;rw[h1];exact thn (hg zf s1 σ H1 x v _ I1 r1 q1) fun _ s2 q=>q
theorem zr{i:Nat}{x:Str}{e:Expr}{te:TE}{pos':Pos}(hN:X.N.Nodup)(hi:X.N[i]?=some x)(hx:Loc X.env.scope x)(he:PE X e te)(hs:swapsWith e (some (.Name x pos')) pos.line X.env=pure false:=by rfl)(hf:X.fn x=true\/X.env.scope.names.lookup x=some .local:=by first|exact .inl rfl|exact .inr rfl|assumption):
  PS X (.Assign [.Name x pos'] e pos) (iN te (g0 i)):=by
 intro zf s σ H D I h;refine wpAny_Assign_Name (thn (he zf s σ H _ I h) fun v s1 ⟨y,H1,I1,r1,q1⟩=>?_) hs;exact sZ I1 hN hi hx r1 (fun s2 I2=>⟨_,H1,I2,q1⟩) hf
end
section
variable {X:Cx}{pos:Pos}
def Cj(c:TT)(tb:TS):TS:=fun D σ H=>∃W:Nat->St->Hp->Prop,(∃m,W m σ H)/\∀m σ H,W m σ H ->
 c σ H fun b H1=>if b=true then ∃N:St->Hp->Prop,(∀ σ' H',N σ' H'->∃m',m'<m/\W m' σ' H')/\tb { D with nx:=N,ct:=N,bk:=D.nx } σ H1 else D.nx σ H1
theorem yB{c:Expr}{z:List Stmt}{tc:TT}{tb:TS}(hp:PassesOwn (model X.prog X.w) X.A X.env X.xe)(hc:PT X c tc)(hb:PSs X z tb):PS X (.While c z [] pos) (Cj tc tb):=by
 intro zf s σ H D I h;obtain⟨W,⟨m0,w0⟩,aa⟩:=h;refine wpAny_While (codeAny_whileLoop (fun n s'=>∃ σ' H',Inv X zf σ' H' s'/\W n σ' H') ?_ m0 ⟨σ,H,I,w0⟩);rintro n s1 ⟨σ1,H1,I1,w1⟩;refine jw hp (thn (hc zf s1 σ1 H1 _ I1 (aa n σ1 H1 w1)) fun b s2 ⟨H2,I2,q2⟩=>?_);cases b with
 |true=>
  obtain⟨N,hN,q2⟩:=q2;rw[cy rfl];refine jw hp (thn (hb zf s2 σ1 H2 _ I2 q2) fun f s3 q3=>?_);cases f with
  |next=>
   obtain⟨σ3,H3,I3,n3⟩:=q3;obtain⟨m',hm,w3⟩:=hN σ3 H3 n3;exact⟨m',hm,σ3,H3,I3,w3⟩
  |cont=>
   obtain⟨σ3,H3,I3,n3⟩:=q3;obtain⟨m',hm,w3⟩:=hN σ3 H3 n3;exact⟨m',hm,σ3,H3,I3,w3⟩
  |brk=>exact q3
  |ret v=>exact q3
 |false=>
  rw[bv gc];exact li ⟨σ1,H2,I2,q2⟩
end
structure It where
 go:Nat->Hp->Prop
 yld:Nat->Hp->V->Hp->Prop
 stop:Nat->Hp->Prop
def FpOk(X:Cx)(zf:List (Addr×Obj))(H:Hp)(b:Addr):Prop:=
 H b=none/\b≠X.env.locals/\b∉X.fs/\(b∈X.ex\/X.s₀.heap.objs.size<=b)/\(∀x c,X.env.cells.lookup x=some c->c≠b)/\∀p∈X.pn++zf,p.1≠b
theorem Inv.fpOk{X:Cx}{zf:List (Addr×Obj)}{σ:St}{H H':Hp}{s:be}{b:Addr}(I:Inv X zf σ H s)(hb:s.heap.objs.size<=b)(hn:H' b=none):FpOk X zf H' b:=by
 refine⟨hn,ne_of_gt (fk I.lt hb),I.nofs hb,.inr (ip I.sz hb),fun x c e z=>?_,fun p hp z=>?_⟩
 ·obtain⟨v,q⟩:=I.cell x c e;exact absurd (fk q.lt (by rw[z];exact hb)) (jp _)
 ·exact absurd (fk (dn (I.pin p hp).1) (by rw[z];exact hb)) (jp _)
structure Turn(P:bz)(w:dh)(K:bj)(tg:Expr)(J:It)(fp:List Addr)(it:Addr)(tn:Nat->Heap->Prop):Prop where
 mem:it∈fp
 obj:∀i h,tn i h->∀b∈fp,∃o,h.get? b=some o/\∀v,o.data≠.cell v
 keep:∀i h h',tn i h->(∀b∈fp,∀o,h.get? b=some o->h'.get? b=some o)->tn i h'
 item:∀(X:Cx),X.prog=P->X.w=w->X.K=K->X.calm=true->∀(i:Nat) (zf:List (Addr×Obj)) (s:be) (σ:St) (H:Hp) (E:bb->be->Prop),Inv X zf σ H s->(∀b∈fp,FpOk X zf H b)->tn i s.heap->J.go i H ->
  bo (model P w) X.A (pyNext (.ref it)) (fun r s1=>∃u,r=some u /\
   bo (model P w) X.A (letOwnedTupleGo tg (.ref it) u) (fun _ s2=>∃x H',Inv X zf σ H' s2/\RelV x u/\J.yld i H x H'/\tn (i+1) s2.heap/\∀b∈fp,H' b=none) E s1) E s
 done:∀(X:Cx),X.prog=P->X.w=w->X.K=K->X.calm=true->∀(i:Nat) (zf:List (Addr×Obj)) (s:be) (σ:St) (H:Hp) (E:bb->be->Prop),Inv X zf σ H s->(∀b∈fp,FpOk X zf H b)->tn i s.heap->J.stop i H ->
  bo (model P w) X.A (pyNext (.ref it)) (fun r s1=>r=none/\Inv X zf σ H s1) E s
 self:∀(A:cz) (i:Nat) (s:be) (Q:bb->be->Prop) (E:bb->be->Prop),tn i s.heap->Q (.ref it) s->bo (model P w) A (pyIter (.ref it)) Q E s
abbrev TI:=St->Hp->(It->Hp->Prop)->Prop
def PIE(X:Cx)(zf:List (Addr×Obj))(σ:St)(tg:Expr)(R:It->Hp->Prop)(z:bb)(s2:be):Prop:=
 ∃(it:Addr) (fp:List Addr) (tn:Nat->Heap->Prop) (J:It) (H':Hp),z=.ref it/\Inv X zf σ H' s2/\Turn X.prog X.w X.K tg J fp it tn/\tn 0 s2.heap/\(∀b∈fp,FpOk X zf H' b)/\R J H'
def PI(X:Cx)(tg iter:Expr)(wi:TI):Prop:=
 ∀(zf:List (Addr×Obj)) (s:be) (σ:St) (H:Hp) (R:It->Hp->Prop),Inv X zf σ H s->wi σ H R ->
  bo (model X.prog X.w) X.A (eval iter X.env) (fun v s1=>bo (model X.prog X.w) X.A (pyIter v) (PIE X zf σ tg R) X.xe s1) X.xe s
theorem sG{M:Model}{A:cz}{E:bb->be->Prop}{s:be}{tg:Expr}{it:Addr}{u:bb}{o:Obj}{n:String}{vs:Array bb}{Q:Unit->be->Prop}(ho:s.heap.get? it=some o)(hc:o.cls=.type n)(hd:o.data=.fields vs)
    (hn:["enumerate","zip","dict_itemiterator","dict_reverseitemiterator","odict_iterator","itertools.zip_longest","itertools.pairwise"].contains n=false) (hQ:Q () s):bo M A (letOwnedTupleGo tg (.ref it) u) Q E s:=by
  unfold letOwnedTupleGo;cases tg<;>first
    |exact bh hQ
    | (cases u<;>first
        |exact bh hQ
        | (refine bc (wpAny_load ho ?_)
           rw[hc,hd];show bo M A (if (["enumerate","zip","dict_itemiterator","dict_reverseitemiterator","odict_iterator","itertools.zip_longest","itertools.pairwise"].contains n&&vs[0]?==some (nc _))=true then _ else _) Q E s;rw[bv (by intro h;rw[hn,Bool.false_and]at h;cases h)];exact bh hQ))
def Itl(K:bj)(a:Addr):It:=
 ⟨fun i H=>∃xs x,SqL K H a xs/\xs[i]?=some x,fun i H x H'=>H'=H/\∀xs,SqL K H a xs->xs[i]?=some x,fun i H=>∃xs,SqL K H a xs/\xs.length<=i⟩
def Itt(K:bj)(a:Addr):It:=
 ⟨fun i H=>∃xs x,SqT K H a xs/\xs[i]?=some x,fun i H x H'=>H'=H/\∀xs,SqT K H a xs->xs[i]?=some x,fun i H=>∃xs,SqT K H a xs/\xs.length<=i⟩
def Itr(lo:Int)(n:Nat):It:=⟨fun i _=>i<n,fun i H x H'=>H'=H/\x=.int (lo+i),fun i _=>n<=i⟩
theorem B2{P:bz}{w:dh}{K:bj}{tg:Expr}(a it:Addr):Turn P w K tg (Itl K a) [it] it (fun i h=>h.IsListIter it a i) where
 mem:=by simp
 obj:=fun i h st b hb=>by
  have e:b=it:=by simpa using hb
  subst e;obtain⟨o,e,c,d⟩:=st;exact⟨o,e,fun v z=>by rw[d]at z;cases z⟩
 keep:=fun i h h' st k=>st.at fun o e=>k it yv o e
 item:=by
  intro X hP hw hK hc i zf s σ H E I hf st hg;subst hP hw hK;obtain⟨xs,x,hq,hx⟩:=hg;obtain⟨ac,rv,p,hz⟩:=I.list hq;obtain⟨u,hu,ru⟩:=rv.get hx;obtain⟨f0,f1,f2,f3,f4,f5⟩:=hf it yv;refine wpAny_pyNext_list_item st p.isList (x:=u) (by simpa using hu) fun h' aa sb=>?_;have I1:Inv X zf σ H { s with heap:=h' }:=I.turned (t':=s.toks) (fun b o hb e=>(sb.2 b hb).trans e) f0 f1 f3 f4 f5;obtain⟨o,e,c,d⟩:=id aa;exact⟨u,rfl,sG (s:={ s with heap:=h' }) e c d dz ⟨x,H,I1,ru,⟨rfl,fun ys hy=>by rw[I.list_inj hy hq];exact hx⟩,aa,fun b hb=>(hf b hb).1⟩⟩
 done:=by
  intro X hP hw hK hc i zf s σ H E I hf st hg;subst hP hw hK;obtain⟨xs,hq,hx⟩:=hg;obtain⟨ac,rv,p,hz⟩:=I.list hq;obtain⟨f0,f1,f2,f3,f4,f5⟩:=hf it yv;have hl:=rv.length;exact wpAny_pyNext_list_end (I.ok.hd hc) st p.isList (by simp;omega) fun h' eb=>⟨rfl,I.turned (t':=s.toks) (fun b o hb e=>eb b o hb e) f0 f1 f3 f4 f5⟩
 self:=fun _ _ _ _ _ st h=>wpAny_pyIter_listiter st h
theorem HQ{P:bz}{w:dh}{K:bj}{tg:Expr}(a it:Addr):Turn P w K tg (Itt K a) [it] it (fun i h=>h.IsTupleIter it a i) where
 mem:=by simp
 obj:=fun i h st b hb=>by
  have e:b=it:=by simpa using hb
  subst e;obtain⟨o,e,c,d⟩:=st;exact⟨o,e,fun v z=>by rw[d]at z;cases z⟩
 keep:=fun i h h' st k=>st.at fun o e=>k it yv o e
 item:=by
  intro X hP hw hK hc i zf s σ H E I hf st hg;subst hP hw hK;obtain⟨xs,x,hq,hx⟩:=hg;obtain⟨aa,rv,p,hz⟩:=I.tuple hq;obtain⟨u,hu,ru⟩:=rv.get hx;obtain⟨f0,f1,f2,f3,f4,f5⟩:=hf it yv;refine wpAny_pyNext_tuple_item st (show s.heap.IsTuple a aa.toArray from p) (x:=u) (by simpa using hu) fun h' ac sb=>?_;have I1:Inv X zf σ H { s with heap:=h' }:=I.turned (t':=s.toks) (fun b o hb e=>(sb.2 b hb).trans e) f0 f1 f3 f4 f5;obtain⟨o,e,c,d⟩:=id ac;exact⟨u,rfl,sG (s:={ s with heap:=h' }) e c d dz ⟨x,H,I1,ru,⟨rfl,fun ys hy=>by rw[I.tuple_inj hy hq];exact hx⟩,ac,fun b hb=>(hf b hb).1⟩⟩
 done:=by
  intro X hP hw hK hc i zf s σ H E I hf st hg;subst hP hw hK;obtain⟨xs,hq,hx⟩:=hg;obtain⟨aa,rv,p,hz⟩:=I.tuple hq;obtain⟨f0,f1,f2,f3,f4,f5⟩:=hf it yv;have hl:=rv.length;exact wpAny_pyNext_tuple_end (I.ok.hd hc) st (show s.heap.IsTuple a aa.toArray from p) (by simp;omega) fun h' eb=>⟨rfl,I.turned (t':=s.toks) (fun b o hb e=>eb b o hb e) f0 f1 f3 f4 f5⟩
 self:=fun _ _ _ _ _ st h=>wpAny_pyIter_tupleiter st h
theorem HG{P:bz}{w:dh}{K:bj}{tg:Expr}(it:Addr)(lo:Int)(n:Nat):Turn P w K tg (Itr lo n) [it] it (fun i h=>IsRangeIter h it (lo+(i:Nat)*1) ((n:Int)-(i:Nat)) 1) where
 mem:=by simp
 obj:=fun i h st b hb=>by
  have e:b=it:=by simpa using hb
  subst e;exact⟨_,st,fun v z=>by
   have z':Data.fields _=Data.cell v:=z;cases z'⟩
 keep:=fun i h h' st k=>k it yv _ st
 item:=by
  intro X hP hw hK hc i zf s σ H E I hf st hg;subst hP hw hK;obtain⟨f0,f1,f2,f3,f4,f5⟩:=hf it yv;have W:=Walks.range (prog:=X.prog) (w:=X.w) (I.ok.hd hc) it lo 1 n;refine W.item i s _ _ hg st fun v h' tk hv aa kk=>?_;obtain⟨t,rfl⟩:=hv;have I1:Inv X zf σ H { s with heap:=h',toks:=tk }:=I.turned (fun b o hb e=>kk b o (by simpa using hb) e) f0 f1 f3 f4 f5;refine⟨_,rfl,sG (s:={ s with heap:=h',toks:=tk }) (n:="range_iterator") aa rfl rfl dz ⟨.int (lo+i),H,I1,⟨t,?_⟩,⟨rfl,rfl⟩,aa,fun b hb=>(hf b hb).1⟩⟩;rw[Int.mul_one]
 done:=by
  intro X hP hw hK hc i zf s σ H E I hf st hg;subst hP hw hK;obtain⟨f0,f1,f2,f3,f4,f5⟩:=hf it yv;exact wpAny_pyNext_range_end (I.ok.hd hc) st (by have:n<=i:=hg;omega) fun h' eb=>⟨rfl,I.turned (t':=s.toks) (fun b o hb e=>eb b o hb e) f0 f1 f3 f4 f5⟩
 self:=fun _ _ _ _ _ st h=>wpAny_pyIter_rangeiter st h
end
section
section
variable {X:Cx}{tg:Expr}
def vK(K:bj)(tl:TE):TI:=fun σ H R=>tl σ H fun x H1=>∃a,x=.ref a/\(∃xs,SqL K H1 a xs)/\R (Itl K a) H1
theorem Il{l:Expr}{tl:TE}(hl:PE X l tl):PI X tg l (vK X.K tl):=by
 intro zf s σ H R I h;refine thn (hl zf s σ H _ I h) fun v s1 ⟨x,H1,I1,r1,q1⟩=>?_;obtain⟨a,e,⟨xs,hq⟩,q⟩:=q1;subst e;cases r1;obtain⟨z,rv,p,hz⟩:=I1.list hq;refine wpAny_pyIter_list p.isList ?_;refine⟨s1.heap.objs.size,[s1.heap.objs.size],_,_,H1,rfl,I1.kept (t':=s1.toks) fun b o e=>bi _ e,B2 a _,⟨_,cf _ rfl,rfl,rfl⟩,fun b hb=>?_,q⟩;have e:b=s1.heap.objs.size:=by simpa using hb
 subst e;exact I1.fpOk (cw _) (I1.hok.fresh (cw _))
def k7(wi:TI)(g:TG)(tb:TS):TS:=fun D σ H=>wi σ H fun J H1=>∃W:Nat->Nat->St->Hp->Prop,(∃m,W 0 m σ H1)/\∀i m σ H,W i m σ H ->
 (J.stop i H/\D.nx σ H)\/(J.go i H/\∃N:St->Hp->Prop,(∀ σ' H',N σ' H'->∃m',m'<m/\W (i+1) m' σ' H')/\∀x H',J.yld i H x H'->g x σ H' fun σ2 H2=>tb { D with nx:=N,ct:=N,bk:=D.nx } σ2 H2)
def p0(fp:List Addr)(h:Heap):List (Addr×Obj):=fp.filterMap fun b=>(h.get? b).map fun o=>(b,o)
theorem sR{fp:List Addr}{h:Heap}{b:Addr}{o:Obj}(hb:b∈fp)(e:h.get? b=some o):(b,o)∈p0 fp h:=List.mem_filterMap.mpr ⟨b,hb,by rw[e];rfl⟩
theorem FS{fp:List Addr}{h:Heap}{p:Addr×Obj}(hp:p∈p0 fp h):p.1∈fp/\h.get? p.1=some p.2:=by
 obtain⟨b,hb,e⟩:=List.mem_filterMap.mp hp;cases q:h.get? b with
 |none=>rw[q]at e;cases e
 |some o=>
  rw[q]at e;have e':(b,o)=p:=fc e;subst e';exact⟨hb,q⟩
theorem Inv.pinned{zf:List (Addr×Obj)}{σ:St}{H:Hp}{s:be}{fp:List Addr}(I:Inv X zf σ H s)(hf:∀b∈fp,FpOk X zf H b)(ho:∀b∈fp,∃o,s.heap.get? b=some o/\∀v,o.data≠.cell v):Inv X (zf++p0 fp s.heap) σ H s:=
 I.pins_of fun p hp=>(mem_append.mp hp).elim (fun z=>I.pin p (cv _ z)) fun z=>by
  obtain⟨hb,e⟩:=FS z;obtain⟨f0,f1,f2,_⟩:=hf p.1 hb;obtain⟨o,e',d⟩:=ho p.1 hb;rw[e]at e';cases e';exact⟨e,f0,f1,f2,d⟩
theorem Inv.unpinned{zf pl:List (Addr×Obj)}{σ:St}{H:Hp}{s:be}(I:Inv X (zf++pl) σ H s):Inv X zf σ H s:=I.pins_of fun p hp=>I.pin p (cv _ (cq _ hp))
theorem bT{iter:Expr}{ac:List Stmt}{wi:TI}{g:TG}{tb:TS}{pos:Pos}(hp:PassesOwn (model X.prog X.w) X.A X.env X.xe)(hc:X.calm=true)(hi:PI X tg iter wi)(hg:PG X tg g)(hb:PSs X ac tb)
  (hs:∀x,foldedSetIterable iter X.env x=pure x:=by intro _;rfl):PS X (.For tg iter ac [] pos) (k7 wi g tb):=by
 intro zf s σ H D I h;refine wpAny_For (thn (hi zf s σ H _ I h) fun v s1 h1=>thn h1 fun ak s2 h2=>?_) hs;obtain⟨it,fp,tn,J,H2,e,I2,T,ai,f2,W,⟨m0,w0⟩,ag⟩:=h2;subst e
 have aa:∀{H':Hp},(∀b∈fp,H' b=none)->∀b∈fp,FpOk X zf H' b:=fun hn b hb=>⟨hn b hb,(f2 b hb).2⟩;refine codeAny_forLoop_any (fun n s'=>∃i σ' H',Inv X zf σ' H' s'/\tn i s'.heap/\(∀b∈fp,H' b=none)/\W i n σ' H') ?_ m0 ⟨0,σ,H2,I2,ai,fun b hb=>(f2 b hb).1,w0⟩;rintro n s3 ⟨i,σ3,H3,I3,af,ah,w3⟩;rcases ag i n σ3 H3 w3 with ⟨stop,qn⟩|⟨go,N,hN,step⟩
 ·refine jw hp (thn (T.done X rfl rfl rfl hc i zf s3 σ3 H3 X.xe I3 (aa ah) af stop) fun r s4 ⟨hr,I4⟩=>?_);subst hr;exact li ⟨σ3,H3,I4,qn⟩
 ·refine jw hp (thn (T.item X rfl rfl rfl hc i zf s3 σ3 H3 X.xe I3 (aa ah) af go) fun r s4 ⟨u,hr,h4⟩=>?_);subst hr;refine jw hp (thn h4 fun _ s5 ⟨x,H5,I5,r5,y5,ae,aj⟩=>?_);have I5':=I5.pinned (aa aj) (T.obj _ _ ae);refine jw hp (thn (hg _ s5 σ3 H5 x u _ I5' r5 (step x H5 y5)) fun _ s6 ⟨σ6,H6,I6,q6⟩=>?_);refine jw hp (thn (hb _ s6 σ6 H6 _ I6 q6) fun f s7 q7=>?_);have z:∀{σ7:St}{H7:Hp},Inv X (zf++p0 fp s5.heap) σ7 H7 s7->N σ7 H7->∃m,m<n/\∃i σ' H',Inv X zf σ' H' s7/\tn i s7.heap/\(∀b∈fp,H' b=none)/\W i m σ' H':=fun {σ7 H7} I7 n7=>by
   obtain⟨m',hm,w7⟩:=hN σ7 H7 n7;refine⟨m',hm,i+1,σ7,H7,I7.unpinned,T.keep _ _ _ ae fun b hb o e=>(I7.pin (b,o) (cv _ (cv _ (sR hb e)))).1,fun b hb=>?_,w7⟩;obtain⟨o,e,d⟩:=T.obj _ _ ae b hb;exact(I7.pin (b,o) (cv _ (cv _ (sR hb e)))).2.1
  cases f with
  |next=>obtain⟨σ7,H7,I7,n7⟩:=q7;exact z I7 n7
  |cont=>obtain⟨σ7,H7,I7,n7⟩:=q7;exact z I7 n7
  |brk=>obtain⟨σ7,H7,I7,q7⟩:=q7;exact⟨σ7,H7,I7.unpinned,q7⟩
  |ret v=>obtain⟨x7,σ7,H7,I7,r7,q7⟩:=q7;exact⟨x7,σ7,H7,I7.unpinned,r7,q7⟩
end
theorem Io{K:bj}{a:Addr}{xs:List V}{g:TG}{tb:TS}{D:Ends}{σ:St}{H:Hp}(Pv:Nat->St->Hp->Prop)(h0:Pv 0 σ H)(hl:∀i σ H,i<=xs.length->Pv i σ H->SqL K H a xs)
  (hs:∀i x σ H,xs[i]?=some x->Pv i σ H->g x σ H fun σ2 H2=>tb { D with nx:=Pv (i+1),ct:=Pv (i+1),bk:=D.nx } σ2 H2) (hd:∀ σ H,Pv xs.length σ H->D.nx σ H):
  ∃W:Nat->Nat->St->Hp->Prop,(∃m,W 0 m σ H)/\∀i m σ H,W i m σ H ->
   ((Itl K a).stop i H/\D.nx σ H)\/((Itl K a).go i H/\∃N:St->Hp->Prop,(∀ σ' H',N σ' H'->∃m',m'<m/\W (i+1) m' σ' H')/\∀x H',(Itl K a).yld i H x H'->g x σ H' fun σ2 H2=>tb { D with nx:=N,ct:=N,bk:=D.nx } σ2 H2):=by
 refine⟨fun i m σ H=>m=xs.length-i/\i<=xs.length/\Pv i σ H,⟨xs.length,yv,mj _,h0⟩,?_⟩;rintro i m σ H ⟨rfl,hi,p⟩;have q:=hl i σ H hi p;by_cases hlt:i<xs.length
 ·refine .inr ⟨⟨xs,xs[i],q,by simp[hlt]⟩,Pv (i+1),fun σ' H' p'=>⟨xs.length-(i+1),yw,rfl,hlt,p'⟩,fun x H' y=>?_⟩;obtain⟨e,y⟩:=y;subst e;exact hs i x σ _ (y xs q) p
 ·have e:i=xs.length:=yw
  subst e;exact .inl ⟨⟨xs,q,cw _⟩,hd σ H p⟩
end
section
abbrev R2:=V->V->Hp->VK->Prop
def OpR(X:Cx)(f:bb->bb->Sem bb)(r:R2):Prop:=
 ∀(zf:List (Addr×Obj)) (s:be) (σ:St) (H:Hp) (x y:V) (v u:bb) (Q:VK),Inv X zf σ H s->RelV x v->RelV y u->r x y H Q ->
  bo (model X.prog X.w) X.A (f v u) (EP X zf σ Q) X.xe s
def UnR(X:Cx)(f:bb->Sem bb)(r:V->Hp->VK->Prop):Prop:=
 ∀(zf:List (Addr×Obj)) (s:be) (σ:St) (H:Hp) (x:V) (v:bb) (Q:VK),Inv X zf σ H s->RelV x v->r x H Q ->
  bo (model X.prog X.w) X.A (f v) (EP X zf σ Q) X.xe s
def CallR(X:Cx)(f:bb)(r:List V->Hp->VK->Prop):Prop:=
 ∀(zf:List (Addr×Obj)) (s:be) (σ:St) (H:Hp) (xs:List V) (us:List bb) (Q:VK),Inv X zf σ H s->Vals xs us->r xs H Q ->
  bo (model X.prog X.w) X.A (call f us) (EP X zf σ Q) X.xe s
def TruR(X:Cx)(r:V->Hp->(Bool->Hp->Prop)->Prop):Prop:=
 ∀(zf:List (Addr×Obj)) (s:be) (σ:St) (H:Hp) (x:V) (v:bb) (Q:Bool->Hp->Prop),Inv X zf σ H s->RelV x v->r x H Q ->
  bo (model X.prog X.w) X.A (truthy v) (TP X zf σ Q) X.xe s
def tOp(r:R2)(ta tb:TE):TE:=fun σ H Q=>ta σ H fun x H1=>tb σ H1 fun y H2=>r x y H2 Q
def tUn(r:V->Hp->VK->Prop)(ta:TE):TE:=fun σ H Q=>ta σ H fun x H1=>r x H1 Q
def rI(C:Int->Int->Prop)(g:Int->Int->V):R2:=fun x y H Q=>∃i j,x=.int i/\y=.int j/\C i j/\Q (g i j) H
def rI0(g:Int->Int->V):R2:=fun x y H Q=>∃i j,x=.int i/\y=.int j/\Q (g i j) H
def rU(g:Int->V):V->Hp->VK->Prop:=fun x H Q=>∃i,x=.int i/\Q (g i) H
section
variable {X:Cx}{a b c:Expr}{ta tb tc:TE}{pos:Pos}
theorem wS(ha:PE X a ta)(hb:PE X b tb){zf:List (Addr×Obj)}{s:be}{σ:St}{H:Hp}{R:V->V->Hp->Prop}(I:Inv X zf σ H s)
  (h:ta σ H fun x H1=>tb σ H1 fun y H2=>R x y H2) {Q:bb->be->Prop}{f:bb->bb->Sem bb}
  (hf:∀v u s2 x y H2,Inv X zf σ H2 s2->RelV x v->RelV y u->R x y H2->bo (model X.prog X.w) X.A (f v u) Q X.xe s2):
  bo (model X.prog X.w) X.A (eval a X.env) (fun v s₁=>bo (model X.prog X.w) X.A (eval b X.env) (fun u s₂=>bo (model X.prog X.w) X.A (f v u) Q X.xe s₂) X.xe s₁) X.xe s:=by
 refine thn (ha zf s σ H _ I h) fun v s1 ⟨x,H1,I1,r1,q1⟩=>?_;refine thn (hb zf s1 σ H1 _ I1 q1) fun u s2 ⟨y,H2,I2,r2,q2⟩=>?_;exact hf v u s2 x y H2 I2 r1 r2 q2
theorem zD{op:Operator}{r:R2}(ho:OpR X (jf op) r)(ha:PE X a ta)(hb:PE X b tb):PE X (.BinOp a op b pos) (tOp r ta tb):=by
 intro zf s σ H Q I h;exact wpAny_BinOp (wS ha hb I h fun v u s2 x y H2 I2 rx ry q=>ho zf s2 σ H2 x y v u Q I2 rx ry q)
theorem i5{op:UnaryOp}{r:V->Hp->VK->Prop}(ho:UnR X (unaryOp op) r)(ha:PE X a ta):PE X (.UnaryOp op a pos) (tUn r ta):=by
 intro zf s σ H Q I h;exact UnaryOp_ (thn (ha zf s σ H _ I h) fun v s1 ⟨x,H1,I1,r1,q1⟩=>ho zf s1 σ H1 x v Q I1 r1 q1)
theorem opI{f:bb->bb->Sem bb}{C:Int->Int->Prop}{g:Int->Int->Int}
  (rule:∀(i j:Int) (t u:Tok) (s:be) (Q:bb->be->Prop) (E:bb->be->Prop),C i j->Q (.int (g i j) s.toks) { s with toks:=s.toks+1 }->bo (model X.prog X.w) X.A (f (.int i t) (.int j u)) Q E s):
  OpR X f (rI C fun i j=>.int (g i j)):=by
 intro zf s σ H x y v u Q I rx ry h;obtain⟨i,j,rfl,rfl,hc,q⟩:=h;obtain⟨t,rfl⟩:=rx;obtain⟨t',rfl⟩:=ry;exact rule i j t t' s _ _ hc ⟨.int (g i j),H,I.tok _,⟨_,rfl⟩,q⟩
theorem Cf{f:bb->bb->Sem bb}{g:Int->Int->Int}
  (rule:∀(i j:Int) (t u:Tok) (s:be) (Q:bb->be->Prop) (E:bb->be->Prop),Q (.int (g i j) s.toks) { s with toks:=s.toks+1 }->bo (model X.prog X.w) X.A (f (.int i t) (.int j u)) Q E s):
  OpR X f (rI0 fun i j=>.int (g i j)):=by
 intro zf s σ H x y v u Q I rx ry h;obtain⟨i,j,rfl,rfl,q⟩:=h;obtain⟨t,rfl⟩:=rx;obtain⟨t',rfl⟩:=ry;exact rule i j t t' s _ _ ⟨.int (g i j),H,I.tok _,⟨_,rfl⟩,q⟩
theorem qO{f:bb->bb->Sem bb}{g:Int->Int->Bool}
  (rule:∀(i j:Int) (t u:Tok) (s:be) (Q:bb->be->Prop) (E:bb->be->Prop),Q (.bool (g i j)) s->bo (model X.prog X.w) X.A (f (.int i t) (.int j u)) Q E s):
  OpR X f (rI0 fun i j=>.bl (g i j)):=by
 intro zf s σ H x y v u Q I rx ry h;obtain⟨i,j,rfl,rfl,q⟩:=h;obtain⟨t,rfl⟩:=rx;obtain⟨t',rfl⟩:=ry;exact rule i j t t' s _ _ ⟨.bl (g i j),H,I,rfl,q⟩
def CDivN(i j:Int):Prop:=j≠0/\j.natAbs<1073741824
def CPow(i j:Int):Prop:=0<=j/\j<=1000000/\i.natAbs<2 ^ 64
theorem Ge:OpR X (jf .Add) (rI0 fun i j=>.int (i+j)):=Cf fun _ _ _ _ _ _ _ q=>add_int q
theorem eA:OpR X (jf .Sub) (rI0 fun i j=>.int (i-j)):=Cf fun _ _ _ _ _ _ _ q=>sub_int q
theorem JJ:OpR X (jf .FloorDiv) (rI CDivN fun i j=>.int (i.fdiv j)):=opI fun _ _ _ _ _ _ _ hc q=>floordiv_int hc.1 q (.inl (PyProof.noPylong_small hc.2))
theorem gV:OpR X (jf .Mod) (rI (fun _ j=>0<j) fun i j=>.int (i % j)):=opI fun i j _ _ _ _ _ hc q=>by
 have h1:(0:Int)<j:=hc;exact mod_int' yw (by rw[Int.fmod_eq_emod_of_nonneg i yw];exact q)
theorem mB:OpR X (jf .Pow) (rI CPow fun i j=>.int (i ^ j.toNat)):=opI fun _ _ _ _ _ _ _ hc q=>pow_int_small hc.1 hc.2.1 hc.2.2 q
theorem unI{f:bb->Sem bb}{g:Int->Int}
  (rule:∀(i:Int) (t:Tok) (s:be) (Q:bb->be->Prop) (E:bb->be->Prop),Q (.int (g i) s.toks) { s with toks:=s.toks+1 }->bo (model X.prog X.w) X.A (f (.int i t)) Q E s):
  UnR X f (rU fun i=>.int (g i)):=by
 intro zf s σ H x v Q I rx h;obtain⟨i,rfl,q⟩:=h;obtain⟨t,rfl⟩:=rx;exact rule i t s _ _ ⟨.int (g i),H,I.tok _,⟨_,rfl⟩,q⟩
theorem jR:UnR X (unaryOp .USub) (rU fun i=>.int (-i)):=unI fun _ _ _ _ _ q=>neg_int q
end
section
variable {X:Cx}{a b c:Expr}{ta tb tc:TE}{pos:Pos}
theorem wM{zf:List (Addr×Obj)}{σ:St}{H:Hp}{s:be}{Q:VK}{k k':Bool}(I:Inv X zf σ H s)(q:Q (.bl k) H)(e:k=k'):EP X zf σ Q (.bool k') s:=by
 subst e;exact⟨.bl k,H,I,rfl,q⟩
theorem sA:OpR X (fw .Lt) (rI0 fun i j=>.bl (decide (i<j))):=qO fun _ _ _ _ _ _ _ q=>lt_int q
theorem mX:OpR X (fw .LtE) (rI0 fun i j=>.bl (decide (i<=j))):=qO fun _ _ _ _ _ _ _ q=>le_int q
theorem C3:OpR X (fw .Gt) (rI0 fun i j=>.bl (decide (j<i))):=qO fun _ _ _ _ _ _ _ q=>gt_int q
theorem Ky:OpR X (fw .GtE) (rI0 fun i j=>.bl (decide (j<=i))):=qO fun _ _ _ _ _ _ _ q=>ge_int q
theorem Gk:OpR X (fw .Is) (fun x y H Q=>y=.non/\Q (.bl (decide (x=.non))) H):=by
 intro zf s σ H x y v u Q I rx ry h;obtain⟨rfl,q⟩:=h;cases ry;refine is_none_gen (wM I q ?_);cases x<;>first
  | (cases rx;rfl)
  | (obtain⟨t,rfl⟩:=rx;rfl)
theorem Eu:OpR X (fw .IsNot) (fun x y H Q=>y=.non/\Q (.bl (!decide (x=.non))) H):=by
 intro zf s σ H x y v u Q I rx ry h;obtain⟨rfl,q⟩:=h;cases ry;refine isnot_none_gen (wM I q ?_);cases x<;>first
  | (cases rx;rfl)
  | (obtain⟨t,rfl⟩:=rx;rfl)
theorem Kt:OpR X (fw .NotIn) (fun x y H Q=>∃i j,x=.str i/\y=.str j/\Q (.bl (!(!(Builtin.Str.occurrences j i 0 j.length 1).isEmpty))) H):=by
 intro zf s σ H x y v u Q I rx ry h;obtain⟨i,j,rfl,rfl,q⟩:=h;obtain⟨t,rfl⟩:=rx;obtain⟨t',rfl⟩:=ry;exact notIn_str (wM I q rfl)
theorem OpR.or{f:bb->bb->Sem bb}{r r':R2}(h:OpR X f r)(h':OpR X f r'):OpR X f (fun x y H Q=>r x y H Q\/r' x y H Q):=by
 intro zf s σ H x y v u Q I rx ry q;rcases q with q|q
 ·exact h zf s σ H x y v u Q I rx ry q
 ·exact h' zf s σ H x y v u Q I rx ry q
theorem nomark(b:Expr){op:CmpOp}(h:op≠.In:=by decide)(h2:op≠.NotIn:=by decide):behindInMarks op b=false:=by
 have e1:(op==CmpOp.In)=false:=by cases op<;>first|rfl|exact absurd rfl h
 have e2:(op==CmpOp.NotIn)=false:=by cases op<;>first|rfl|exact absurd rfl h2
 cases b<;>simp[behindInMarks,e1,e2]
theorem eF{op:CmpOp}{r:R2}(ho:OpR X (fw op) r)(ha:PE X a ta)(hb:PE X b tb)(hm:behindInMarks op b=false):PE X (.Compare a [op] [b] pos) (tOp r ta tb):=by
 intro zf s σ H Q I h;exact wpAny_Compare1 (wS ha hb I h fun v u s2 x y H2 I2 rx ry q=>ho zf s2 σ H2 x y v u Q I2 rx ry q) hm
def oH(t:TE):TT:=fun σ H Q=>t σ H fun x H'=>∃k,x=.bl k/\Q k H'
theorem zH{op:CmpOp}{r:R2}(ho:OpR X (fw op) r)(ha:PE X a ta)(hb:PE X b tb)(hm:behindInMarks op b=false):PT X (.Compare a [op] [b] pos) (oH (tOp r ta tb)):=by
 intro zf s σ H Q I h;refine wpAny_isTrue_Compare1 (thn (ha zf s σ H _ I h) fun v s1 ⟨x,H1,I1,r1,q1⟩=>thn (hb zf s1 σ H1 _ I1 q1) fun u s2 ⟨y,H2,I2,r2,q2⟩=>
  thn (ho zf s2 σ H2 x y v u _ I2 r1 r2 q2) fun c s3 ⟨z,H3,I3,r3,k,e,q3⟩=>?_) hm
 subst e;cases r3;exact ic ⟨H3,I3,q3⟩
def vF(r r':R2)(ta tb tc:TE):TE:=fun σ H Q=>ta σ H fun x H1=>tb σ H1 fun y H2=>r x y H2 fun z H3=>∃k,z=.bl k /\
 (if k=true then tc σ H3 fun w' H4=>r' y w' H4 Q else Q (.bl false) H3)
theorem Dq{op aa:CmpOp}{r r':R2}(ho:OpR X (fw op) r)(ac:OpR X (fw aa) r')(ha:PE X a ta)(hb:PE X b tb)(hc:PE X c tc)
  (hm:lastMarks [op,aa] [b,c]=false:=by with_unfolding_all rfl):PE X (.Compare a [op,aa] [b,c] pos) (vF r r' ta tb tc):=by
 intro zf s σ H Q I h;refine Compare_chain (thn (ha zf s σ H _ I h) fun v s1 ⟨x,H1,I1,r1,q1⟩=>chain_link (thn (hb zf s1 σ H1 _ I1 q1) fun u s2 ⟨y,H2,I2,r2,q2⟩=>
  thn (ho zf s2 σ H2 x y v u _ I2 r1 r2 q2) fun d s3 ⟨z,H3,I3,r3,k,e,q3⟩=>?_)) hm
 subst e;cases r3;refine ic ?_;cases k with
 |false=>exact ite_ff ⟨.bl false,H3,I3,rfl,q3⟩
 |true=>exact ite_tt (chain_last (thn (hc zf s3 σ H3 _ I3 q3) fun w' s4 ⟨z',H4,I4,r4,q4⟩=>ac zf s4 σ H4 y z' u w' Q I4 r2 r4 q4))
theorem EJ{op aa:CmpOp}{r r':R2}(ho:OpR X (fw op) r)(ac:OpR X (fw aa) r')(ha:PE X a ta)(hb:PE X b tb)(hc:PE X c tc)
  (hm:lastMarks [op,aa] [b,c]=false:=by with_unfolding_all rfl):PT X (.Compare a [op,aa] [b,c] pos) (oH (vF r r' ta tb tc)):=by
 intro zf s σ H Q I h;refine isTrue_chain (thn (ha zf s σ H _ I h) fun v s1 ⟨x,H1,I1,r1,q1⟩=>test_link (thn (hb zf s1 σ H1 _ I1 q1) fun u s2 ⟨y,H2,I2,r2,q2⟩=>
  thn (ho zf s2 σ H2 x y v u _ I2 r1 r2 q2) fun d s3 ⟨z,H3,I3,r3,k,e,q3⟩=>?_)) hm
 subst e;cases r3;refine ic ?_;cases k with
 |false=>
  obtain⟨k',e',q'⟩:=q3;cases e';exact ite_ff ⟨H3,I3,q'⟩
 |true=>
  refine ite_tt (test_last (thn (hc zf s3 σ H3 _ I3 q3) fun w' s4 ⟨z',H4,I4,r4,q4⟩=>thn (ac zf s4 σ H4 y z' u w' _ I4 r2 r4 q4) fun d' s5 ⟨z2,H5,I5,r5,k2,e2,q5⟩=>?_));subst e2;cases r5;exact ic ⟨H5,I5,q5⟩
def TruV(K:bj)(x:V)(H:Hp)(k:Bool):Prop:=
 match x with
 | .non=>k=false
 | .bl b=>k=b
 | .int i=>k=(i != 0)
 | .str y=>y.length<=br/\k=((y.length:Int) != 0)
 | .byt y=>y.size<=br/\k=((y.size:Int) != 0)
 | .ref p=>(∃xs,SqL K H p xs/\k=!xs.isEmpty)\/(∃xs,SqT K H p xs/\k=!xs.isEmpty)\/∃kvs,H p=some (.dK kvs)/\k=!kvs.isEmpty
 |_=>False
theorem Fg{κ:Type}{z:List (κ×V)}{vs:List (κ×bb)}(r:KV z vs):(!vs.isEmpty)=!z.isEmpty:=by
 cases r<;>rfl
theorem Dg{xs:List V}{z:List bb}(r:Vals xs z):(!z.toArray.isEmpty)=!xs.isEmpty:=by
 cases r<;>simp
theorem line63:(br:Nat)<2 ^ 63:=by rw[jg];decide
theorem E5:TruR X (fun x H Q=>∃k,TruV X.K x H k/\Q k H):=by
 intro zf s σ H x v Q I rx h;obtain⟨k,e,q⟩:=h;have hl:=line63;have hs:br=16777216:=jg;cases x with
 |non=>
  cases rx;have e':k=false:=e;subst e';exact truthy_none ⟨H,I,q⟩
 |bl b=>
  cases rx;have e':k=b:=e;subst e';exact ic ⟨H,I,q⟩
 |int i=>
  obtain⟨t,rfl⟩:=rx;have e':k=(i != 0):=e;subst e';exact PySem.P.truthy_int ⟨H,I,q⟩
 |str y=>
  obtain⟨t,rfl⟩:=rx;obtain⟨hy,e'⟩:y.length<=br/\k=((y.length:Int) != 0):=e;subst e';exact PySem.P.truthy_str yw ⟨H,I.tok _,q⟩
 |byt y=>
  obtain⟨t,rfl⟩:=rx;obtain⟨hy,e'⟩:y.size<=br/\k=((y.size:Int) != 0):=e;subst e';exact W.truthy_bytes yw ⟨H,I.tok _,q⟩
 |ref p=>
  cases rx;have e':(∃xs,SqL X.K H p xs/\k=!xs.isEmpty)\/(∃xs,SqT X.K H p xs/\k=!xs.isEmpty)\/∃kvs,H p=some (.dK kvs)/\k=!kvs.isEmpty:=e;rcases e' with ⟨xs,hx,e'⟩|⟨xs,hx,e'⟩|⟨kvs,hx,e'⟩
  ·subst e';obtain⟨aa,r,pl,hz⟩:=I.list hx;have z:=r.length;exact wpAny_truthy_list pl.isList (by simp only[cr];omega) ⟨H,I.tok _,by rw[Dg r];exact q⟩
  ·subst e';obtain⟨aa,r,pl,hz⟩:=I.tuple hx;have z:=r.length;exact truthy_tuple pl (by simp only[cr];omega) ⟨H,I.tok _,by rw[Dg r];exact q⟩
  ·subst e';obtain⟨hz,hS,vs,r,m⟩:kvs.length<=br/\(p==gb)=false/\∃vs,KV kvs vs/\s.heap.DictOf (c6 X.prog X.w) p vs:=I.hok p _ hx;have z:kvs.length=vs.length:=Paired.length r;exact wpAny_truthy_dict hS m yw ⟨H,I.tok _,by rw[Fg r];exact q⟩
 |_=>exact(show False from e).elim
theorem cG(ha:PE X a ta)(he:∀whole,isTrue a X.env whole=(do let v <- whole;standAt a.pos;holding [v] (truthy v))):
  PT X a (fun σ H Q=>ta σ H fun x H'=>∃k,TruV X.K x H' k/\Q k H'):=by
 intro zf s σ H Q I h;exact isTrue_plain (thn (ha zf s σ H _ I h) fun v s1 ⟨x,H1,I1,r1,q1⟩=>E5 zf s1 σ H1 x v Q I1 r1 q1) (he _)
theorem Ik:OpR X (jf .Add) (fun x y H Q=>∃i j,x=.str i/\y=.str j/\i.length+j.length<=br/\Q (.str (i++j)) H):=by
 intro zf s σ H x y v u Q I rx ry h;obtain⟨i,j,rfl,rfl,hz,q⟩:=h;obtain⟨t,rfl⟩:=rx;obtain⟨t',rfl⟩:=ry;exact add_str (fun t' tk=>⟨.str (i++j),H,I.tok _,⟨_,rfl⟩,q⟩) hz
theorem vals1{x:V}{us:List bb}(r:Vals [x] us):∃u,us=[u]/\RelV x u:=by
 cases r with
 |cons r1 r2=>cases r2;exact⟨_,rfl,r1⟩
theorem vals2{x y:V}{us:List bb}(r:Vals [x,y] us):∃u w',us=[u,w']/\RelV x u/\RelV y w':=by
 cases r with
 |cons r1 r2=>
  cases r2 with
  |cons r3 r4=>cases r4;exact⟨_,_,rfl,r1,r3⟩
theorem Ji(hc:X.calm=true):CallR X (.builtin "max") (fun xs H Q=>∃i j,xs=[.int i,.int j]/\Q (.int (if j>i then j else i)) H):=by
 intro zf s σ H xs us Q I r h;obtain⟨i,j,rfl,q⟩:=h;obtain⟨u,w',rfl,⟨t,rfl⟩,⟨t',rfl⟩⟩:=vals2 r;refine max_two_ints (I.ok.hd hc) fun h' tk k=>⟨_,H,I.kept k,?_,q⟩;by_cases hj:j>i
 ·rw[cy hj,cy hj];exact⟨_,rfl⟩
 ·rw[bv hj,bv hj];exact⟨_,rfl⟩
theorem F9:CallR X (.type "int") (fun xs H Q=>(∃i,xs=[.int i]/\Q (.int i) H)\/∃k,xs=[.bl k]/\Q (.int (if k then 1 else 0)) H):=by
 intro zf s σ H xs us Q I r h;rcases h with ⟨i,rfl,q⟩|⟨k,rfl,q⟩
 ·obtain⟨u,rfl,t,rfl⟩:=vals1 r;exact call_int_int ⟨.int i,H,I,⟨_,rfl⟩,q⟩
 ·obtain⟨u,rfl,r1⟩:=vals1 r;cases r1;exact call_int_bool ⟨.int (if k then 1 else 0),H,I.tok _,⟨_,rfl⟩,q⟩
end
end
section
structure ObjM(h:Heap)(x dx C:Addr)(mA:Str->Option bb):Prop where
 obj:h.get? x=some (W.instObj C dx)
 ns:h.Ns1 dx mA
 ne:dx≠x
theorem D4{h:Heap}{dx:Addr}{mA:Str->Option bb}(n:h.Ns1 dx mA):∃od,h.get? dx=some od/\∀name,W.lookIn name od=some (mA name):=by
 obtain⟨o,es,ep,ho,hd,hk,_,hm⟩:=n;refine⟨o,ho,fun name=>?_⟩;have e:=hm name;unfold nsFind findBy at e;rw[<- Array.find?_toList]at e;unfold W.lookIn;rw[hd];dsimp only;split
 ·rename_i y q;rw[q]at e;exact congrArg some e
 ·rename_i q;rw[q]at e;have a:es.toList.any (·.refKey)=false:=by
   rw[List.any_eq_false];intro y hy;obtain⟨z,t,aa⟩:=hk y (Array.mem_toList_iff.mp hy);simp[DictEntry.refKey,aa]
  have a':¬ es.toList.any (·.refKey)=true:=by rw[a];exact gc
  rw[bv a'];exact congrArg some e
theorem ObjM.look{h:Heap}{x dx C:Addr}{mA:Str->Option bb}(I:ObjM h x dx C mA):∃od,W.InstAt h x (W.instObj C dx) C (some od)/\∀name,W.lookIn name od=some (mA name):=
 let ⟨od,ho,hl⟩:=D4 I.ns
 ⟨od,⟨I.obj,rfl,rfl,ho⟩,hl⟩
def cW(f:Str)(v:V):List (Str×V)->List (Str×V)
 | []=>[(f,v)]
 | (g,x)::r=>if g=f then (g,v)::r else (g,x)::cW f v r
theorem wN(f g:Str)(v:V):∀fs:List (Str×V),(cW f v fs).lookup g=if g=f then some v else fs.lookup g
 | []=>by
  show kr g [(f,v)]=_;by_cases h:g=f
  ·have hb:(g==f)=true:=beq_iff_eq.mpr h;simp only[kr,hb,cy h]
  ·have hb:(g==f)=false:=beq_eq_false_iff_ne.mpr h;simp only[kr,hb,bv h]
 | (k,x)::r=>by
  have ih:=wN f g v r;rw[show cW f v ((k,x)::r)=(if k=f then (k,v)::r else (k,x)::cW f v r)from rfl];by_cases hk:k=f
  ·rw[cy hk];by_cases h:g=k
   ·have hb:(g==k)=true:=beq_iff_eq.mpr h;simp only[kr,hb,cy (h.trans hk)]
   ·have hb:(g==k)=false:=beq_eq_false_iff_ne.mpr h;simp only[kr,hb,bv (fun e:g=f=>h (e.trans hk.symm))]
  ·rw[bv hk];by_cases h:g=k
   ·have hb:(g==k)=true:=beq_iff_eq.mpr h;simp only[kr,hb,bv (fun e:g=f=>hk (h.symm.trans e))]
   ·have hb:(g==k)=false:=beq_eq_false_iff_ne.mpr h;simp only[kr,hb];exact ih
theorem v6(f:Str)(v:V):∀fs:List (Str×V),f∈(cW f v fs).map (·.1)/\∀g,g∈fs.map (·.1)->g∈(cW f v fs).map (·.1)
 | []=>⟨by simp[cW],fun g h=>by simp at h⟩
 | (k,x)::r=>by
  obtain⟨i1,i2⟩:=v6 f v r;rw[show cW f v ((k,x)::r)=(if k=f then (k,v)::r else (k,x)::cW f v r)from rfl];by_cases hk:k=f
  ·rw[cy hk];subst hk;exact⟨yv,fun g h=>by simpa using h⟩
  ·rw[bv hk];refine⟨?_,fun g h=>?_⟩
   ·rw[dq];exact bw _ i1
   ·rw[dq]at h ⊢;rcases mem_cons.mp h with e|e
    ·exact mem_cons.mpr (.inl e)
    ·exact bw _ (i2 g e)
theorem RelO.some_of{v:V}{o:Option bb}(r:RelO (some v) o):∃u,o=some u/\RelV v u:=by
 cases o with
 |none=>exact(show False from r).elim
 |some u=>exact⟨u,rfl,r⟩
theorem JG{v:V}{u:bb}(r:RelV v u):W.handedIn u=true:=by
 cases v with
 |non=>cases (show u=gh from r);rfl
 |bl b=>cases (show u=oj b from r);rfl
 |int i=>obtain⟨t,e⟩:=(show ∃t,u=Value.int i t from r);cases e;rfl
 |str x=>obtain⟨t,e⟩:=(show ∃t,u=Value.str x t from r);cases e;rfl
 |byt b=>obtain⟨t,e⟩:=(show ∃t,u=Value.bytes b t from r);cases e;rfl
 |flt b=>obtain⟨t,e⟩:=(show ∃t,u=Value.float b t from r);cases e;rfl
 |ref a=>cases (show u=bu a from r);rfl
 |ty n=>cases (show u=nv n from r);rfl
section
variable {P:bz}{w:dh}{H H':Hp}{h h':Heap}{a C dx:Addr}{fs fs':List (Str×V)}
theorem GH(hok:HOk P w H h)(e:H a=some (.ins C dx fs)):∃mA,ObjM h a dx C mA/\(∀f,RelO (fs.lookup f) (mA f))/\PySem.Within mA (fs.map (·.1))/\fs.length<=1000/\H dx=some (.own a):=by
 obtain⟨d,z,ne,ob,mA,n,r,q⟩:=(show ObjOk P w H h a (.ins C dx fs)from hok a _ e);exact⟨mA,⟨ob,n,ne⟩,r,q,z,d⟩
end
structure Cls(K:bj)(C:Addr):Prop where
 pg:W.plainGet K C Str.empty=true
 hd:W.hasDictIn K C=true
 po:W.plainOver K C=true
 sa:nj K (.ref C) "__setattr__" = some (some (.builtin "object.__setattr__"))
theorem Cls.get{K:bj}{C:Addr}(c:Cls K C)(f:Str):W.plainGet K C f=true:=c.pg
def NoAttr(K:bj)(C:Addr)(f:Str):Prop:=nj K (.ref C) f=some none
section
variable {X:Cx}{zf:List (Addr×Obj)}{σ:St}{H:Hp}{s:be}{a C dx:Addr}{fs:List (Str×V)}{f:Str}{v:V}{A:cz}{E:bb->be->Prop}
theorem IB{prog:bz}{w:dh}{env:Env}{e:Expr}{f:Str}{pos:Pos}{s:be}{Q:bb->be->Prop}(hb:ls e f env (eval e env)=eval e env)
  (h:bo (model prog w) A (eval e env) (fun o s₁=>bo (model prog w) A (getAttr o f true) Q E s₁) E s):bo (model prog w) A (eval (.Attribute e f pos) env) Q E s:=
 Attribute_any_ h (by rw[arm_eval_Attribute,hb])
end
section
variable {X:Cx}{zf:List (Addr×Obj)}{σ:St}{H:Hp}{s:be}{A:cz}{E:bb->be->Prop}{Q:bb->be->Prop}{c:bb}{b:Bool}
inductive TyOf (K:bj) (H:Hp):V->bb->Prop where
 |non:TyOf K H .non (.type "NoneType")
 |bl (x:Bool):TyOf K H (.bl x) (.type "bool")
 |int (i:Int):TyOf K H (.int i) (.type "int")
 |str (x:Str):TyOf K H (.str x) (.type "str")
 |flt (x:UInt64):TyOf K H (.flt x) (.type "float")
 |lst {a:Addr}{xs:List V} (e:H a=some (.lst xs)):TyOf K H (.ref a) (.type "list")
 |frz {a:Addr}{o:Obj}{xs:List V} (e:H a=some (.frz o (.lst xs))):TyOf K H (.ref a) (.type "list")
 |tup {a:Addr}{xs:List V} (e:H a=some (.tup xs)):TyOf K H (.ref a) (.type "tuple")
 |dK {a:Addr}{kvs:List (Key×V)} (e:Rd H a (.dK kvs)):TyOf K H (.ref a) (.type "dict")
 |dT {a:Addr}{kvs:List (List Key×V)} (e:Rd H a (.dT kvs)):TyOf K H (.ref a) (.type "dict")
 |ins {a C dx:Addr}{fs:List (Str×V)} (e:H a=some (.ins C dx fs)) (cl:Cls K C) (ha:nj K (.ref C) "__class__" = some (some (.builtin "object.__class__")))
   (hn:W.specialIn K (.builtin "object.__class__") "__get__" = some (some (.builtin "getset_descriptor.__get__"))) (htk:W.takesIn K (.builtin "object.__class__")=some true)
   (hm:W.mroIn K C (.type "object")=some true):TyOf K H (.ref a) (.ref C)
theorem Ja{x:V}{u t:bb}(I:Inv X zf σ H s)(rx:RelV x u)(ty:TyOf X.K H x t)(e:W.kitOne X.K t c=some b)(h:∀tk,Q (.bool b) { s with toks:=tk }):
  bo (model X.prog X.w) A (call (.builtin "isinstance") [u,c]) Q E s:=by
 cases ty with
 |non=>cases (show u=gh from rx);exact kl W.kitx_none I.kIn jj e (fun z=>nomatch z) h
 |bl y=>cases (show u=oj y from rx);exact kl W.kitx_bool I.kIn jj e (fun z=>nomatch z) h
 |int i=>obtain⟨t,q⟩:=(show ∃t,u=Value.int i t from rx);cases q;exact kl W.kitx_int I.kIn jj e (fun z=>nomatch z) h
 |str y=>obtain⟨t,q⟩:=(show ∃t,u=Value.str y t from rx);cases q;exact kl W.kitx_str I.kIn jj e (fun z=>nomatch z) h
 |flt y=>obtain⟨t,q⟩:=(show ∃t,u=Value.float y t from rx);cases q;exact kl W.kitx_float I.kIn jj e (fun z=>nomatch z) h
 | @lst a xs ea=>
  cases (show u=bu a from rx);obtain⟨_,_,n,_,h1⟩:=(show ObjOk X.prog X.w H s.heap a (.lst xs)from I.hok a _ ea);exact kl W.kitx_list I.kIn ⟨_,h1,rfl⟩ e (fun z=>nomatch z) h
 | @frz a ob xs ea=>
  cases (show u=bu a from rx);obtain⟨_,_,_,n,_,h1⟩:=(show ObjOk X.prog X.w H s.heap a (.frz ob (.lst xs))from I.hok a _ ea);exact kl W.kitx_list I.kIn ⟨_,h1,rfl⟩ e (fun z=>nomatch z) h
 | @tup a xs ea=>
  cases (show u=bu a from rx);obtain⟨_,_,_,p⟩:=(show ObjOk X.prog X.w H s.heap a (.tup xs)from I.hok a _ ea);obtain⟨o,h1,h2,_⟩:=p;exact kl W.kitx_tuple I.kIn ⟨o,h1,h2⟩ e (fun z=>nomatch z) h
 | @dK a kvs ea=>
  cases (show u=bu a from rx);obtain⟨_,_,vs,_,p⟩:=(show ObjOk X.prog X.w H s.heap a (.dK kvs)from ea.ok I.hok);obtain⟨o,es,ep,h1,h2,_⟩:=p;exact kl W.kitx_dict I.kIn ⟨o,h1,h2.1⟩ e (fun z=>nomatch z) h
 | @dT a kvs ea=>
  cases (show u=bu a from rx);obtain⟨_,_,xs,_,o,es,ep,h1,h2,_⟩:=(show ObjOk X.prog X.w H s.heap a (.dT kvs)from ea.ok I.hok);exact kl W.kitx_dict I.kIn ⟨o,h1,h2.1⟩ e (fun z=>nomatch z) h
 | @ins a C dx fs ea cl ha hn htk hm=>
  cases (show u=bu a from rx);obtain⟨mA,O,_⟩:=GH I.hok ea;obtain⟨od,J,_⟩:=O.look;exact kl (W.kitx_own (cl.get _) cl.hd ha hn htk hm) I.kIn J e (fun z=>nomatch z) h
end
end
section
structure Room(k:Nat)(A:cz):Prop where
 hd:A.handled=none
 dp:A.depth+3*k+5<recursionLimit
 un:A.units+16*k+200<gz
theorem Room.mono{j k:Nat}{A:cz}(r:Room k A)(h:j<=k):Room j A:=⟨r.hd,by have:=r.dp;omega,by have:=r.un;omega⟩
theorem Room.deeper{k:Nat}{A:cz}(r:Room (k+1) A)(env:Env):Room k (A.deeper env):=
 ⟨r.hd,by have:=r.dp;show A.depth+1+3*k+5<_;omega,by have:=r.un;show A.units+3+16*k+200<_;omega⟩
theorem G8{A:cz}{C:Addr}{us:List bb}{kw:List (Str×bb)}:(A.under (.builtin "type.__call__" ⟨.ref C::us,kw⟩)).depth=A.depth+1:=by
 first|rfl|simp[Around.under,Code.weight,Code.isCreation,Code.isGuard,Code.isCaller,Code.frames,Code.isFrame,guardIds]
theorem Ha{A:cz}{C:Addr}{us:List bb}{kw:List (Str×bb)}:(A.under (.builtin "type.__call__" ⟨.ref C::us,kw⟩)).units=A.units+1:=by
 first|rfl|simp[Around.under,Code.cUnits,Code.frames,Code.isFrame]
theorem Room.make{k:Nat}{A:cz}(r:Room (k+1) A)(C:Addr)(us:List bb)(kw:List (Str×bb)):Room k (A.under (.builtin "type.__call__" ⟨.ref C::us,kw⟩)):=
 ⟨r.hd,by have:=r.dp;rw[G8];omega,by have:=r.un;rw[Ha];omega⟩
theorem Room.depth{k:Nat}{A:cz}(r:Room k A):A.depth<recursionLimit:=by have:=r.dp;omega
theorem Room.units{k:Nat}{A:cz}(r:Room k A):A.units+64<gz:=by have:=r.un;omega
def kP:TA:=fun _ H Q=>Q [] H
def jH(ta:TE)(tr:TA):TA:=fun σ H Q=>ta σ H fun x H1=>tr σ H1 fun xs H2=>Q (x::xs) H2
section
variable {X:Cx}{e:Expr}{es:List Expr}{te:TE}{t:TA}{pos:Pos}
theorem zd:PA X [] kP:=fun _ _ _ _ H Q I h=>lz ⟨[],H,I,.nil,h⟩
theorem za(ha:PE X e te)(hr:PA X es t)(hs:cp (e::es) X.env=(false,eval e X.env)::cp es X.env:=by rfl):PA X (e::es) (jH te t):=by
 intro pos zf s σ H Q I h;rw[hs];show bo _ _ (spliced ((false,eval e X.env)::kx pos (cp es X.env))) _ _ s;refine jt (thn (ha zf s σ H _ I h) fun u s1 ⟨x,H1,I1,r1,q1⟩=>?_);exact thn (hr pos zf s1 σ H1 _ I1 q1) fun us s2 ⟨xs,H2,I2,r2,q2⟩=>⟨x::xs,H2,I2,.cons r1 r2,q2⟩
def w4(t:TA):TE:=fun σ H Q=>t σ H fun xs H1=>xs.length<=br/\∀p,H1 p=none->Q (.ref p) (upd H1 p (.tup xs))
def lA(t:TA):TE:=fun σ H Q=>t σ H fun xs H1=>xs.length<=br/\∀p,H1 p=none->Q (.ref p) (upd H1 p (.lst xs))
theorem aP{x1}(h:PA X es t):PE X (.Tuple es x1 pos) (w4 t):=by
 intro zf s σ H Q I hq;refine wpAny_Tuple_spliced (thn (h pos zf s σ H _ I hq) fun us s1 ⟨xs,H1,I1,r,z,q⟩=>⟨by rw[<- r.length];exact z,?_⟩);have hf:H1 s1.heap.objs.size=none:=I1.hok.fresh (cw _);refine⟨.ref s1.heap.objs.size,upd H1 s1.heap.objs.size (.tup xs),I1.laid (t':=s1.toks) (fun b u e=>bi _ e) (cw _) ?_,rfl,q _ hf⟩;exact⟨⟨z,_,cf _ rfl,rfl⟩,us,r,⟨_,cf _ rfl,rfl,_,rfl⟩⟩
theorem aU(h:PA X es t):PE X (.List es pos) (lA t):=by
 intro zf s σ H Q I hq;refine wpAny_List_spliced (thn (h pos zf s σ H _ I hq) fun us s1 ⟨xs,H1,I1,r,z,q⟩=>⟨by rw[<- r.length];exact z,?_⟩);have hf:H1 s1.heap.objs.size=none:=I1.hok.fresh (cw _);refine⟨.ref s1.heap.objs.size,upd H1 s1.heap.objs.size (.lst xs),I1.laid (t':=s1.toks) (fun b u e=>bi _ e) (cw _) ?_,rfl,q _ hf⟩;exact⟨z,us,0,r,cf _ rfl⟩
end
abbrev Sp:=List V->Hp->VK->XK->Prop
abbrev CXT:=List Env->Hp->be->XK->bb->be->Prop
structure Env0(P:bz)(w:dh)(K:bj)(mg:Str->Option bb)(base:Heap)(A:cz)(outer:List Env)(s:be)(H:Hp):Prop where
 frames:A.frames=some outer
 mod:Mod K mg base
 bs:∀b o,base.get? b=some o->s.heap.get? b=some o/\H b=none
 bsz:base.objs.size<=s.heap.objs.size
 funs:s.heap.FunFrames base outer
 frf:Frf (frs outer) H
 hok:HOk P w H s.heap
 bare:AllBare s.gens
def CE(outer:List Env)(P:bz)(w:dh)(H:Hp)(s:be)(Q:VK)(u:bb)(s':be):Prop:=
 ∃v H',s'.os=s.os/\AllBare s'.gens/\Un (frs outer) [] H H' s.heap s'.heap/\HOk P w H' s'.heap/\RelV v u/\Q v H'
def CR(CX:CXT)(outer:List Env)(P:bz)(w:dh)(H:Hp)(s:be)(Q:VK)(E:XK)(r:Result)(s':be):Prop:=
 match r with
 | .ok (.ret u)=>CE outer P w H s Q u s'
 | .ok _=>False
 | .error e=>CX outer H s E e s'
structure FnOk(P:bz)(w:dh)(K:bj)(mg:Str->Option bb)(base:Heap)(CX:CXT)(k:Nat)(f:Addr)(fd:jm)(ps:List Str)(sp:Sp):Prop where
 len:∀vs H Q E,sp vs H Q E->vs.length=ps.length
 run:∀(A:cz) (outer:List Env) (s:be) (H:Hp) (args:Args) (us:List bb) (vs:List V) (Q:VK) (E:XK),Room k A->Env0 P w K mg base A outer s H->BindsTo s fd args (ps.zip us)->Vals vs us->sp vs H Q E ->
  me (model P w) A (.call (.ref f) args) (CR CX outer P w H s Q E) s
theorem Env0.make{P:bz}{w:dh}{K:bj}{mg:Str->Option bb}{base:Heap}{A:cz}{outer:List Env}{s:be}{H:Hp}(e:Env0 P w K mg base A outer s H)(C:Addr)(us:List bb)(kw:List (Str×bb)):
  Env0 P w K mg base (A.under (.builtin "type.__call__" ⟨.ref C::us,kw⟩)) outer s H:=⟨by first|exact e.frames|(simpa[Around.under,Code.envs,Code.isFrame,pushEnvs]using e.frames),e.mod,e.bs,e.bsz,e.funs,e.frf,e.hok,e.bare⟩
section
variable {X:Cx}{zf:List (Addr×Obj)}{σ:St}{H:Hp}{s s':be}
theorem Inv.env0(I:Inv X zf σ H s):Env0 X.prog X.w X.K X.mg X.base X.A X.stack s H:=
 ⟨I.ok.frames,I.ok.mod,I.bs,ip I.ok.bsz I.sz,I.stack,I.stkFree,I.hok,I.bare⟩
theorem Inv.after{Q:VK}{u:bb}(I:Inv X zf σ H s)(h:CE X.stack X.prog X.w H s Q u s'):EP X zf σ Q u s':=by
 obtain⟨v,H',os,bare,un,hok,r,q⟩:=h;obtain⟨hh,g,d,t,aa⟩:=s';obtain rfl:aa=s.os:=os;exact⟨v,H',I.call (h':=hh) (g':=g) (d':=d) (t':=t) (ch:=[]) un hok bare (fun b z=>absurd z yv),r,q⟩
end
def fQ(sp:Sp)(dvs:List V)(E:XK)(t:TA):TE:=fun σ H Q=>t σ H fun vs H1=>sp (vs++dvs) H1 Q E
def Binds(K:bj)(fd:jm)(ps:List Str)(ds:List bb):Prop:=
 ∀(s:be) (us:List bb),K.In s.heap->(us++ds).length=ps.length->BindsTo s fd ⟨us,[]⟩ (ps.zip (us++ds))
theorem Binds.all{K:bj}{fd:jm}{ps:List Str}(h:∀us:List bb,us.length=ps.length->bindArgs fd ⟨us,[]⟩=pure (ps.zip us)):Binds K fd ps []:=fun s us _ hl=>by
 rw[gq]at hl ⊢;exact .of_eq (h us hl)
def Passes(CX:CXT)(X:Cx)(E:XK):Prop:=∀(zf:List (Addr×Obj)) (σ:St) (H:Hp) (s:be) (e:bb) (s':be),Inv X zf σ H s->CX X.stack H s E e s'->X.xe e s'
section
variable {X:Cx}{CX:CXT}{k:Nat}{f C:Addr}{fd:jm}{ps:List Str}{sp:Sp}{dvs:List V}{ds:List bb}{E:XK}{x m:Str}{p pos apos:Pos}{e o:Expr}{es:List Expr}{ta:TE}{t:TA}
theorem HX{zf:List (Addr×Obj)}{σ:St}{H:Hp}{s:be}{Q:VK}{us:List bb}{vs:List V}(F:FnOk X.prog X.w X.K X.mg X.base CX k f fd ps sp)(hr:Room k X.A)(hb:Binds X.K fd ps ds)(hd:Vals dvs ds)(hx:Passes CX X E)
  (I:Inv X zf σ H s) (r:Vals vs us) (h:sp (vs++dvs) H Q E):bo (model X.prog X.w) X.A (call (.ref f) us) (EP X zf σ Q) X.xe s:=by
 have r2:Vals (vs++dvs) (us++ds):=r.append hd;have hl:(us++ds).length=ps.length:=by rw[<- r2.length];exact F.len _ _ _ _ h
 refine wpAny_call (ml (F.run X.A X.stack s H ⟨us,[]⟩ (us++ds) (vs++dvs) Q E hr I.env0 (hb s us I.kIn hl) r2 h) fun r s' hq=>?_);cases r with
 |error e=>exact hx zf σ H s e s' I hq
 |ok fl=>
  cases fl with
  |ret u=>exact I.after hq
  |next=>exact fu hq
  |brk=>exact fu hq
  |cont=>exact fu hq
theorem wW(F:FnOk X.prog X.w X.K X.mg X.base CX k f fd ps sp)(hr:Room k X.A)(hg:Gl X x)(hm:X.mg x=some (.ref f))(hk:mf X.K (.ref f)=true)(hb:Binds X.K fd ps ds)(hd:Vals dvs ds)(hx:Passes CX X E)
  (ha:PA X (e::es) t) (hdb:(x==("__debug__":Str))=false:=by decide) (he:cp (e::es) X.env=(false,eval e X.env)::cp es X.env:=by rfl) (hpl:(kx pos (cp es X.env)).any (·.1)=false:=by rfl):
  PE X (.Call (.Name x p) (e::es) [] pos) (fQ sp dvs E t):=by
 intro zf s σ H Q I h;refine jb (nV I hg hm ?_ hdb);refine W.callWith_K (h₀:=X.base) I.ok.mod.kin hk (thn (ha pos zf s σ H _ I h) fun us s1 ⟨vs,H1,I1,r,q⟩=>⟨I1.kIn,?_⟩) he hpl;exact HX F hr hb hd hx I1 r q
end
structure FnScope(N P:List Str)(sc:Scope):Prop where
 kind:sc.kind=.function
 co:sc.isCoroutine=false
 gen:sc.isGenerator=false
 nd:N.Nodup
 pre:N.take P.length=P
 par:∀x∈P,sc.names.lookup x=some .local\/sc.names.lookup x=some .cell
 nofree:∀y∈sc.names,y.2≠.free
theorem CY{z:Str->Option jy}{x:Str}:∀{binds:List (Str×bb)}{m:Str->Option bb},(∀v,(x,v)∉binds)->bindL z binds m x=m x
 | [],_,_=>rfl
 | (n,v)::r,m,h=>by
  unfold bindL;rw[CY fun w hw=>h w (bw _ hw)];split
  ·have:x≠n:=by rintro rfl;exact h v ck
   simp[this]
  ·rfl
theorem y9{z:Str->Option jy}{x:Str}:∀{binds:List (Str×bb)}{m:Str->Option bb},(∀v,(x,v)∉binds)->bindC z binds m x=m x
 | [],_,_=>rfl
 | (n,v)::r,m,h=>by
  unfold bindC;rw[y9 fun w hw=>h w (bw _ hw)];split
  ·rfl
  ·have:x≠n:=by rintro rfl;exact h v ck
   simp[this]
theorem xZ{z:Str->Option jy}{x:Str}{v:bb}:∀{P:List Str}{vs:List bb}{i:Nat}{m:Str->Option bb},P.Nodup->P[i]?=some x->vs[i]?=some v->z x=some .local ->
  bindL z (P.zip vs) m x=some v
 | [],_,_,_,_,h,_,_=>by simp at h
 |_::_,[],_,_,_,_,h,_=>by simp at h
 |p::P,w::vs,0,m,nd,h1,h2,hk=>by
  simp at h1 h2;subst h1;subst h2;show bindL z ((p,w)::P.zip vs) m p=_;unfold bindL;rw[CY fun v hv=>(nodup_cons.mp nd).1 (of_mem_zip hv).1,cy hk];simp
 |p::P,w::vs,i+1,m,nd,h1,h2,hk=>by
  show bindL z ((p,w)::P.zip vs) m x=_;unfold bindL;exact xZ (i:=i) (nodup_cons.mp nd).2 (by simpa using h1) (by simpa using h2) hk
theorem xQ{z:Str->Option jy}{x:Str}{v:bb}:∀{P:List Str}{vs:List bb}{i:Nat}{m:Str->Option bb},P.Nodup->P[i]?=some x->vs[i]?=some v->z x≠some .local ->
  bindC z (P.zip vs) m x=some v
 | [],_,_,_,_,h,_,_=>by simp at h
 |_::_,[],_,_,_,_,h,_=>by simp at h
 |p::P,w::vs,0,m,nd,h1,h2,hk=>by
  simp at h1 h2;subst h1;subst h2;show bindC z ((p,w)::P.zip vs) m p=_;unfold bindC;rw[y9 fun v hv=>(nodup_cons.mp nd).1 (of_mem_zip hv).1,bv hk];simp
 |p::P,w::vs,i+1,m,nd,h1,h2,hk=>by
  show bindC z ((p,w)::P.zip vs) m x=_;unfold bindC;exact xQ (i:=i) (nodup_cons.mp nd).2 (by simpa using h1) (by simpa using h2) hk
def start(N:List Str)(vs:List V):St:=vs.map some++bg (N.length-vs.length) none
def cE(CX:CXT)(P:bz)(w:dh)(K:bj)(mg:Str->Option bb)(base:Heap)(N:List Str)(qual:Str)(scope:Scope)(f:Addr)(cd:bb)(A:cz)(outer:List Env)(s:be)(H:Hp)(E:XK):Cx where
 prog:=P
 w:=w
 K:=K
 mg:=mg
 base:=base
 A:=A.deeper (ij qual scope s.heap.objs.size f cd)
 N:=N
 s₀:=s
 H₀:=H
 env:=ij qual scope s.heap.objs.size f cd
 outer:=outer
 stack:=ij qual scope s.heap.objs.size f cd::outer
 ex:=[]
 calm:=true
 fn:=fun _=>true
 pn:=[]
 xe:=fun e s'=>bo (model P w) (A.deeper (ij qual scope s.heap.objs.size f cd)) (leaving (ij qual scope s.heap.objs.size f cd) e) (fun _ s''=>CX outer H s E e s'') (fun e' s''=>CX outer H s E e' s'') s'
theorem Aq{sc:Scope}{n:Nat}{x:Str}(h:sc.names.lookup x=some .cell):∃c,(cellsFrom n sc.names []).lookup x=some c:=by
 have q:=W.cellsFrom_some sc.names n [] (.inl h);exact isSome_iff_exists.mp q
theorem AF{CX:CXT}{P:bz}{w:dh}{K:bj}{mg:Str->Option bb}{base:Heap}{N ps:List Str}{qual:Str}{scope:Scope}{f:Addr}{cd:bb}{A:cz}{outer:List Env}{s s1:be}{H:Hp}{E:XK}{us:List bb}{vs:List V}
  (S:FnScope N ps scope) (hd:A.handled=none) (e0:Env0 P w K mg base A outer s H) (hl:vs.length=ps.length) (r:Vals vs us)
  (x:InCallC s s.heap.objs.size (bindL (ij qual scope s.heap.objs.size f cd).kindOf (ps.zip us) fun _=>none) (cellsFrom (s.heap.objs.size+1) scope.names []) (bindC (ij qual scope s.heap.objs.size f cd).kindOf (ps.zip us) fun _=>none) s1):
  Inv (cE CX P w K mg base N qual scope f cd A outer s H E) [] (start N vs) H s1:=by
 have ae:ps.length<=N.length:=by have:=congrArg List.length S.pre;rw[iy]at this;omega
 obtain⟨h1,tk,rfl,hk⟩:=x.done;have aa:∀b:Addr,b∉(cE CX P w K mg base N qual scope f cd A outer s H E).ex:=fun b z=>absurd (show b∈([]:List Addr)from z) yv;refine⟨⟨e0.mod,S.kind,rfl,rfl,cw _,fun y z c h1 h2=>?_,fun y hy=>?_,fun y c _ h=>?_,fun _=>hd,Around.frames_deeper e0.frames,.inr ⟨rfl,rfl⟩,fun b z=>absurd z (aa b),e0.bs,e0.bsz,fun b _ _=>aa b,fun b z=>absurd z (aa b),e0.funs,e0.frf⟩,
  rfl,e0.bare,Un.kept hk,⟨_,x.toInCall.ns,fun i y v h1 h2 h3=>?_⟩,fun y c h=>⟨_,x.cell y c h⟩,e0.hok.fresh (cw _),fun y c h=>?_,fun p hp=>absurd (show p∈([]:List (Addr×Obj))from hp) yv,e0.hok.kept hk,?_⟩
 ·exact name_of_addr x.apart (PySem.mem_of_lookup h1) (PySem.mem_of_lookup h2)
 ·have hy:scope.names.lookup y=some .cell\/scope.names.lookup y=some .free:=hy;rcases hy with hy|hy
  ·exact Aq hy
  ·exact absurd rfl (S.nofree _ (PySem.mem_of_lookup hy))
 ·exact im (x.above y c (PySem.mem_of_lookup h))
 ·have hi:i<vs.length:=by
   unfold start at h2;by_cases hi:i<vs.length
   ·exact hi
   ·rw[List.getElem?_append_right (by simpa using hi)]at h2;rw[List.getElem?_replicate]at h2;split at h2<;>cases h2
  have ha:vs[i]?=some v:=by
   unfold start at h2;rw[dm (by simpa using hi),gi]at h2;cases e:vs[i]? with
   |none=>rw[e]at h2;cases h2
   |some a=>rw[e]at h2;cases h2;rfl
  obtain⟨u,hu,rv⟩:=r.get ha;have hp:ps[i]?=some y:=by
   rw[<- S.pre,List.getElem?_take_of_lt yw];exact h1
  have ac:ps.Nodup:=by rw[<- S.pre];exact S.nd.sublist (List.take_sublist _ _)
  refine⟨u,rv,?_⟩;rcases S.par y (cj hp)with k|k
  ·exact .inl ⟨k,xZ ac hp hu k⟩
  ·obtain⟨c,e⟩:=Aq (n:=s.heap.objs.size+1) k;refine .inr ⟨.inl k,c,e,?_⟩;have q:=x.cell y c e;rw[xQ ac hp hu (by show scope.names.lookup y≠_;rw[k];decide)]at q;exact q
 ·exact e0.hok.fresh (im (x.above y c (PySem.mem_of_lookup h)))
 ·unfold start;show _=N.length;rw[bx,cg,List.length_replicate];omega
theorem AN{CX:CXT}{P:bz}{w:dh}{K:bj}{mg:Str->Option bb}{base:Heap}{k:Nat}{f:Addr}{name qual:Str}{aa:Arguments}{ac:List Stmt}{scope:Scope}{dV kV ag pm z ct oc:bb}{an od:Option Addr}
  {osl:Array (Option bb)}{N ps:List Str}{sp:Sp} (lk:K.lookup f=some ⟨oc,od,.func (W.fnOf name qual aa ac scope dV kV ag pm an z ct),osl⟩) (hcd:W.codeIn K z qual=true) (S:FnScope N ps scope)
  (len:∀vs H Q E,sp vs H Q E->vs.length=ps.length)
  (hbody:∀(A:cz) (outer:List Env) (s:be) (H:Hp) (vs:List V) (Q:VK) (E:XK),Room k (A.deeper (ij qual scope s.heap.objs.size f z))->sp vs H Q E ->
   ∃t,PSs (cE CX P w K mg base N qual scope f z A outer s H E) ac t/\t { nx:=fun _ H'=>Q .non H',rt:=Q } (start N vs) H):
  FnOk P w K mg base CX (k+1) f (W.fnOf name qual aa ac scope dV kV ag pm an z ct) ps sp:=by
 refine⟨len,fun A outer s H args us vs Q E hr e0 hb r af=>?_⟩;have hl:=len _ _ _ _ af;have KX:K.In s.heap:=e0.mod.kin.keeps fun b o e=>(e0.bs b o e).1;have ah:s.heap.NoLimit:=e0.mod.nolimit.keeps fun b o e=>(e0.bs b o e).1;have ae:∀y∈ps.zip us,scope.names.lookup y.1=some .local\/(scope.names.lookup y.1=some .cell/\((cellsFrom (s.heap.objs.size+1) scope.names []).lookup y.1).isSome=true):=fun⟨n,v⟩ hy=>by
  rcases S.par n (of_mem_zip hy).1 with q|q
  ·exact .inl q
  ·exact .inr ⟨q,W.cellsFrom_some _ _ _ (.inl q)⟩
 refine codeAny_call_function hr.depth (KX _ _ lk) rfl S.co S.gen rfl (W.codeRec_of KX hcd) (hb _ _ _ _ ?_);refine wpAny_newFunctionEnv_cells S.kind ae fun env he s1 x=>?_;subst he;refine⟨ah.keeps x.toInCall.keep,codeAny_func ?_⟩;obtain⟨t,ht,hq⟩:=hbody A outer s H vs Q E (hr.deeper _) af;have I:Inv (cE CX P w K mg base N qual scope f z A outer s H E) [] (start N vs) H s1:=AF S hr.hd e0 hl r x;refine gm (ht [] s1 (start N vs) H _ I hq) (fun fl s' hs=>?_) fun e s' hs=>hs;have fin:∀{σ':St}{H':Hp}{v:V}{u:bb},Inv (cE CX P w K mg base N qual scope f z A outer s H E) [] σ' H' s'->RelV v u->Q v H'->CE outer P w H s Q u s':=
  fun {σ' H' v u} J rv q=>⟨v,H',J.os,J.bare,J.base,J.hok,rv,q⟩
 cases fl with
 |ret u=>
  obtain⟨v,σ',H',J,rv,q⟩:=hs;exact fin J rv q
 |next=>
  obtain⟨σ',H',J,q⟩:=hs;exact fin (v:=V.non) (u:=gh) J rfl q
 |brk=>
  obtain⟨_,_,_,q⟩:=hs;exact fu q
 |cont=>
  obtain⟨_,_,_,q⟩:=hs;exact fu q
end
section
section
variable {X:Cx}{x:Str}{p pos:Pos}{e:Expr}{es:List Expr}{t:TA}{id T:String}{r:List V->Hp->VK->Prop}
def tCB(r:List V->Hp->VK->Prop)(t:TA):TE:=fun σ H Q=>t σ H fun vs H1=>r vs H1 Q
theorem zq(hc:CallR X (.builtin id) r)(hg:Gl X x)(hm:X.mg x=none)(hv:fy x=some (.builtin id))(ha:PA X (e::es) t)(hn:x ≠ "__name__":=by decide)(z:(x==("__debug__":Str))=false:=by decide)
  (he:cp (e::es) X.env=(false,eval e X.env)::cp es X.env:=by rfl) (hpl:(kx pos (cp es X.env)).any (·.1)=false:=by rfl):PE X (.Call (.Name x p) (e::es) [] pos) (tCB r t):=by
 intro zf s σ H Q I h;refine jb (gG I hg hm hv ?_ hn z);exact PyProof.Rows.callWith_builtin1 (thn (ha pos zf s σ H _ I h) fun us s1 ⟨vs,H1,I1,r1,q1⟩=>hc zf s1 σ H1 vs us Q I1 r1 q1) he hpl
theorem i4(hc:CallR X (.type T) r)(hg:Gl X x)(hm:X.mg x=none)(hv:fy x=some (.type T))(ha:PA X (e::es) t)(hn:x ≠ "__name__":=by decide)(z:(x==("__debug__":Str))=false:=by decide)
  (he:cp (e::es) X.env=(false,eval e X.env)::cp es X.env:=by rfl) (hpl:(kx pos (cp es X.env)).any (·.1)=false:=by rfl):PE X (.Call (.Name x p) (e::es) [] pos) (tCB r t):=by
 intro zf s σ H Q I h;refine jb (gG I hg hm hv ?_ hn z);exact ge (thn (ha pos zf s σ H _ I h) fun us s1 ⟨vs,H1,I1,r1,q1⟩=>hc zf s1 σ H1 vs us Q I1 r1 q1) he hpl
end
end
end L2
namespace HT
open PySem PyProof.Rows
def lexLt:List Int->List Int->Bool
 | [],[]=>false
 | [],_::_=>true
 |_::_,[]=>false
 |x::xs,y::ys=>if x=y then lexLt xs ys else decide (x<y)
theorem lexLt_cons(x y:Int)(xs ys:List Int):lexLt (x::xs) (y::ys)=if x=y then lexLt xs ys else decide (x<y):=rfl
theorem LJ:lexLt [] []=false:=rfl
theorem Fz(y:Int)(ys:List Int):lexLt [] (y::ys)=true:=rfl
theorem Kn(x:Int)(xs:List Int):lexLt (x::xs) []=false:=rfl
theorem EU(A:cz)(s:be)(a:Int)(t:Tok)(c:Int)(u:Tok):∃e,SeqAt.EqAt A s (.int a t) (.int c u) e/\(e=true↔a=c):=
 ⟨(a==c),SeqAt.EqAt.int_int a t c u,yv⟩
theorem Hq(A:cz)(s:be)(a:Int)(t:Tok)(c:Int)(u:Tok)(prog:bz)(w:dh)(E:bb->be->Prop)(Q:bb->be->Prop)(h:Q (.bool (decide (a<c))) s):
  bo (model prog w) A (richCompare .Lt (.int a t) (.int c u)) Q E s:=
 (PyProof.Rows.lt_int h:bo (model prog w) A (fw .Lt (.int a t) (.int c u)) Q E s)
section
open PySem.SeqAt
open PySem.AutoSeq1 (wpAny_loadPart')
open PySem.MeetsSeq PySem.MeetsSeq2 PySem.MeetsSeq3
theorem Ep(l b:Addr)(aa z:Array bb)(n n2:Nat)(dd af:Option Addr)(sl ag:Array (Option bb))(ns ms:List Int)(hi:nu aa.toList ns)(hj:nu z.toList ms):
  Meets (jn.«tuple.__lt__» ⟨[.ref l,.ref b],[]⟩)
   (fun _ R s=>s.heap.get? l=some { cls:=.type "tuple",dict:=dd,data:=.seq aa n,slots:=sl }/\s.heap.get? b=some { cls:=.type "tuple",dict:=af,data:=.seq z n2,slots:=ag } /\
    R (.ok (.ret (.bool (lexLt ns ms)))) s):=
 .of_wp fun prog w A R s h=>by
  obtain⟨hp,g,d,tk,os⟩:=s;obtain⟨hl,hb,h⟩:=h;have f2:=AutoSeq1.sub_tuple_tuple;have z1:aa.size=ns.length:=by rw[<- hi.length];simp
  have z2:z.size=ms.length:=by rw[<- hj.length];simp
  wp_walk using wpAny_loadPart' hl,wpAny_loadPart' hb,wpAny_forIn_list _ (fun rest b s'=>b.1=none/\s'=⟨hp,g,d,tk,os⟩/\∃(vs ws:List bb) (ns' ms':List Int),rest=vs.zip ws /\
   nu vs ns'/\nu ws ms'/\ns'.length+z.size=ms'.length+aa.size/\R (.ok (.ret (.bool (lexLt ns' ms')))) ⟨hp,g,d,tk,os⟩) _
  case turn=>
   rintro⟨y,x⟩ rest b s' ⟨hb',rfl,vs,ws,ns',ms',hz,hvi,hwi,hlen,hR⟩;cases hvi with
   |nil=>rw[List.zip_nil_left]at hz;cases hz
   |cons a t hvi'=>
    cases hwi with
    |nil=>rw[List.zip_nil_right]at hz;cases hz
    |cons c u hwi'=>
     rw[zip_cons_cons]at hz;injection hz with hyx hrest
     injection hyx with hy hx
     subst hy hx;rw[lexLt_cons]at hR;simp only[cn]at hlen;obtain⟨e,he,ac⟩:=EU A.in1 ⟨hp,g,d,tk,os⟩ a t c u;refine bc (he prog w _ _ ?_);cases e with
     |true=>
      rw[cy (ac.mp rfl)]at hR
      wp_walk
      exact⟨rfl,rfl,_,_,_,_,hrest,hvi',hwi',yw,hR⟩
     |false=>
      rw[bv (fun q=>absurd (ac.mpr q) gc)]at hR;have ae:=Hq A.in1 ⟨hp,g,d,tk,os⟩ a t c u prog w
      wp_walk using ae
      exact⟨_,rfl,by simpa using hR⟩
  case fin=>
   rintro⟨b1,b2⟩ s' ⟨hb',rfl,vs,ws,ns',ms',hz,hvi,hwi,hlen,hR⟩;simp only at hb';subst hb';have hv:lexLt ns' ms'=decide (aa.size<z.size):=by
    cases hvi with
    |nil=>
     cases hwi with
     |nil=>
      simp only[length_nil]at hlen;rw[LJ];exact(fx yw).symm
     |cons c u hw=>
      simp only[length_nil,cn]at hlen;rw[Fz];exact(ju yw).symm
    |cons a t hv=>
     cases hwi with
     |nil=>
      simp only[length_nil,cn]at hlen;rw[Kn];exact(fx yw).symm
     |cons c u hw=>
      rw[zip_cons_cons]at hz;cases hz
   rw[hv]at hR
   wp_walk
   exact⟨_,rfl,by simpa[Builtin.Tuple.tupleCompareSizes]using hR⟩
  case h=>
   exact⟨rfl,rfl,aa.toList,z.toList,ns,ms,rfl,hi,hj,yw,h⟩
end
section
variable {prog:bz}{w:dh}{A:cz}{E:bb->be->Prop}{s:be}
theorem lt_tupInts{l b:Addr}{aa z:Array bb}{ns ms:List Int}{Q:bb->be->Prop}(hl:IsTup s.heap l aa)(hb:IsTup s.heap b z)(hi:nu aa.toList ns)(hj:nu z.toList ms)
  (hu:A.units<gz) (h:Q (.bool (lexLt ns ms)) s):bo (model prog w) A (fw .Lt (.ref l) (.ref b)) Q E s:=by
 obtain⟨⟨cls,dd,data,sl⟩,ho,hc,n,hd⟩:=id hl;obtain⟨⟨aj,ag,ah,ai⟩,af,ae,n2,ac⟩:=id hb;simp only at hc hd ae ac;subst hc hd ae ac;exact richCompare_meets_room (op:=.Lt) ⟨_,ho,rfl⟩ ⟨_,af,rfl⟩ PySem.F.slot_tuple_lt PySem.F.entry_tuple_lt (PySem.F.args_tuple_lt_2 _ _) (Ep l b aa z n n2 dd ag sl ai ns ms hi hj)
  ⟨ho,af,show oj (lexLt ns ms)≠Value.notImplemented/\Q (.bool (lexLt ns ms)) s from⟨(fun x=>nomatch x),h⟩⟩ hu
theorem cat_tup{t b:Addr}{vs ws:List bb}{Q:bb->be->Prop}(ht:IsTup s.heap t vs.toArray)(hb:IsTup s.heap b ws.toArray)(hv:vs≠[])
  (h1:ws=[]->Q (.ref t) s) (h2:ws≠[]->Q (.ref s.heap.objs.size) { s with heap:=s.heap.push { cls:=.type "tuple",data:=.seq (vs++ws).toArray } })
  (hsz:vs.length+ws.length<=br):bo (model prog w) A (jf .Add (.ref t) (.ref b)) Q E s:=by
 obtain⟨⟨cls,dd,data,sl⟩,ho,hc,n,hd⟩:=id ht;obtain⟨⟨ah,aa,ag,af⟩,z,ae,n2,ac⟩:=id hb;simp only at hc hd ae ac;subst hc hd ae ac;have e:vs.toArray++ws.toArray=(vs++ws).toArray:=by simp
 by_cases hw:ws=[]
 ·exact concat_meets ⟨_,ho,rfl⟩ ⟨_,z,rfl⟩ noFill_tuple_add seq_tuple_add PySem.F.slot_tuple_add PySem.F.entry_tuple_add (PySem.F.args_tuple_add_2 _ _)
   (tuple_addW1 t b vs.toArray ws.toArray n n2 dd aa sl af (by simpa using hv) (by simp[hw])) ⟨ho,z,h1 hw⟩
 ·refine concat_meets ⟨_,ho,rfl⟩ ⟨_,z,rfl⟩ noFill_tuple_add seq_tuple_add PySem.F.slot_tuple_add PySem.F.entry_tuple_add (PySem.F.args_tuple_add_2 _ _)
   (tuple_addW2 t b vs.toArray ws.toArray n n2 dd aa sl af (by simpa using hv) (by simpa using hw) (by rw[cr,cr];exact hsz)) ⟨ho,z,?_⟩
  rw[e];exact h2 hw
def sIx(n d:Nat):Option Int->Nat
 |none=>d
 |some v=>if v<0 then (v+(n:Int)).toNat else min v.toNat n
theorem sIx_nat(n d k:Nat):sIx n d (some (k:Int))=min k n:=by
 show (if (k:Int)<0 then ((k:Int)+(n:Int)).toNat else min (k:Int).toNat n)=min k n;rw[bv yw,Int.toNat_natCast]
theorem FP(n d:Nat)(hd:d<=n)(o:Option Int):sIx n d o<=n:=by
 cases o with
 |none=>exact hd
 |some v=>
  show (if v<0 then (v+(n:Int)).toNat else min v.toNat n)<=n;by_cases hv:v<0
  ·rw[cy hv];omega
  ·rw[bv hv];exact Nat.min_le_right _ _
theorem AR(v:Int)(n d:Nat):(if v<0 then max (v+(n:Int)) 0 else min v (n:Int))=((sIx n d (some v):Nat):Int):=by
 show (if v<0 then max (v+(n:Int)) 0 else min v (n:Int))=(((if v<0 then (v+(n:Int)).toNat else min v.toNat n):Nat):Int);by_cases hv:v<0
 ·simp only[cy hv];omega
 ·simp only[bv hv];omega
theorem Gm(lo hi:Option Int)(n:Nat):Builtin.Slice.sliceAdjust lo hi 1 (n:Int)=(((sIx n 0 lo:Nat):Int),((sIx n n hi:Nat):Int)):=by
 have h1:¬((1:Int)<0):=yw
 unfold Builtin.Slice.sliceAdjust;simp only[h1,if_false];refine Prod.ext ?_ ?_
 ·cases lo with
  |none=>rfl
  |some v=>exact AR v n 0
 ·cases hi with
  |none=>rfl
  |some v=>exact AR v n n
theorem K2(i j:Nat):Builtin.Slice.slicePlaces (i:Int) (j:Int) 1=j-i:=by
 unfold Builtin.Slice.slicePlaces;have h1:(1:Int)>0:=yw
 simp only[h1,if_true,Int.ediv_one];split<;>omega
theorem Au{v:bb}{o:Option Int}{Q:Option Int->be->Prop}(p:IsPart v o)(h:Q o s):bo (model prog w) A (Builtin.Slice.slicePartIndex v) Q E s:=by
 cases p with
 |none=>exact slicePart_none h
 |int i t=>exact slicePart_int h
theorem Kb{sl:Addr}{vl vu:bb}{lo hi:Option Int}{n:Nat}{Q:Int×Int×Nat->be->Prop}(hs:s.heap.IsSliceOf sl vl vu .none)(pl:IsPart vl lo)(pu:IsPart vu hi)
  (h:Q (((sIx n 0 lo:Nat):Int),1,sIx n n hi-sIx n 0 lo) s):bo (model prog w) A (Builtin.Slice.sliceApplied (.ref sl) (pure (n:Int))) Q E s:=by
 obtain⟨os,aa,ac,z⟩:=id hs;unfold Builtin.Slice.sliceApplied Builtin.Slice.sliceFields;refine bc (bc (jo aa z (x:=vl) rfl (bc (jo aa z (x:=vu) rfl (bc (jo aa z (x:=.none) rfl (bh ?_)))))));refine bc (slicePart_none ?_);show bo _ _ (if ((1:Int)==0)=true then _ else _) _ _ s;rw[bv dz];refine bc (Au pl (bc (Au pu (bc (bh ?_)))));show bo _ _ (match Builtin.Slice.sliceAdjust lo hi 1 (n:Int)with|(lo,hi)=>pure (lo,(1:Int),Builtin.Slice.slicePlaces lo hi 1)) _ _ s;rw[Gm lo hi n];show bo _ _ (pure (((sIx n 0 lo:Nat):Int),(1:Int),Builtin.Slice.slicePlaces ((sIx n 0 lo:Nat):Int) ((sIx n n hi:Nat):Int) 1)) _ _ s;rw[K2];exact bh h
theorem GC(xs:Array bb)(i k:Nat):((dj k).filterMap fun(m:Nat)=>xs[((i:Int)+(m:Int)*1).toNat]?).toArray=((xs.toList.drop i).take k).toArray:=by
 have e:(fun(m:Nat)=>xs[((i:Int)+(m:Int)*1).toNat]?)=fun m=>xs[i+m]?:=by
  funext m;have:((i:Int)+(m:Int)*1).toNat=i+m:=yw
  rw[this]
 rw[e];have:=pick_run xs i k;rw[List.filterMap_map]at this;have e2:((fun x=>xs[x]?)∘fun x=>i+x)=fun m=>xs[i+m]?:=rfl;rw[e2]at this;rw[this]
theorem getItem_tuple_cut{t sl:Addr}{z:Array bb}{vl vu:bb}{lo hi:Option Int}{Q:bb->be->Prop}(ht:IsTup s.heap t z)(hs:s.heap.IsSliceOf sl vl vu .none)(pl:IsPart vl lo)(pu:IsPart vu hi)
  (hw:¬(sIx z.size 0 lo=0/\sIx z.size z.size hi=z.size))
  (h:Q (.ref s.heap.objs.size) { s with heap:=s.heap.push { cls:=.type "tuple",data:=.seq ((z.toList.drop (sIx z.size 0 lo)).take (sIx z.size z.size hi-sIx z.size 0 lo)).toArray } })
  (hsz:z.size<=br):bo (model prog w) A (getItem (.ref t) (.ref sl)) Q E s:=by
 have aa:sizeOk (.seq ((z.toList.drop (sIx z.size 0 lo)).take (sIx z.size z.size hi-sIx z.size 0 lo)).toArray):=by
  show ((z.toList.drop (sIx z.size 0 lo)).take (sIx z.size z.size hi-sIx z.size 0 lo)).toArray.size<=br;rw[cr,iy,length_drop,jd];omega
 have hj:sIx z.size z.size hi<=z.size:=FP _ _ (cw _) hi;obtain⟨os,ag,af,ah⟩:=id hs;have ae:s.TypeIs (.ref sl) "slice":=⟨os,ag,af⟩;unfold getItem
 try with_reducible refine je ?_
 first|refine bc (bh ?_)|skip
 refine bc (wpAny_sequenceKey ht.typeIs dz ?_);refine bc (wpAny_callSpecial?_slot (name:=Str.ofString "__getitem__") ht.typeIs PyProof.Rows.slot_tuple_getitem
  (ko PyProof.Rows.slot_tuple_getitem ht.typeIs entry_tuple_getitem ?_ (args_tuple_getitem _ _)))
 show bo _ _ (Builtin.Tuple.tupleItemsOf (.ref t) >>= _) _ _ s;refine bc (tupleItemsOf_ ht ?_);refine bc (wpAny_typeOf ae ?_);rw[cy dz];refine bc (Kb hs pl pu ?_);have ac:¬((((sIx z.size 0 lo:Nat):Int)==0&&(1:Int)==1&&(sIx z.size z.size hi-sIx z.size 0 lo)==z.size)=true):=by
  intro q;rw[jq,jq]at q;have q1:((sIx z.size 0 lo:Nat):Int)=0:=eq_of_beq q.1.1;have q2:sIx z.size z.size hi-sIx z.size 0 lo=z.size:=eq_of_beq q.2;exact hw ⟨yw,yw⟩
 show bo _ _ (if (((sIx z.size 0 lo:Nat):Int)==0&&(1:Int)==1&&(sIx z.size z.size hi-sIx z.size 0 lo)==z.size)=true then _ else _) _ _ s;rw[bv ac,GC]
 first
  |exact bc (m:=ii _) (ft (bh ⟨_,rfl,bh h⟩) aa)
  |exact bc (m:=ii _) (ft (bc (bh (bh ⟨_,rfl,bh h⟩))) aa)
  |exact bc (bc (m:=ii _) (ft (bh (bh ⟨_,rfl,bh h⟩)) aa))
  |exact bc (bc (m:=ii _) (ft (bh ⟨_,rfl,bh h⟩) aa))
end
end HT
namespace L2
open PySem PySem.Spec PyProof.Rows
section
abbrev TO:=St->Hp->(Option Int->Hp->Prop)->Prop
def PO(X:Cx)(e:Option Expr)(t:TO):Prop:=
 ∀(zf:List (Addr×Obj)) (s:be) (σ:St) (H:Hp) (Q:Option Int->Hp->Prop),Inv X zf σ H s->t σ H Q ->
  bo (model X.prog X.w) X.A (evalPart e X.env) (fun u s'=>∃o H',Inv X zf σ H' s'/\IsPart u o/\Q o H') X.xe s
def yK:TO:=fun _ H Q=>Q none H
def kE(t:TE):TO:=fun σ H Q=>t σ H fun x H1=>∃i,x=.int i/\Q (some i) H1
theorem jP{ns:List Int}:∀{us:List bb},Vals (ns.map V.int) us->nu us ns:=by
 induction ns with
 |nil=>intro us r;rw[map_nil]at r;cases r;exact .nil
 |cons n ns ih=>
  intro us r;rw[dq]at r;cases r with
  |cons r1 r2=>
   obtain⟨t,e⟩:=r1;subst e;exact .cons n t (ih r2)
section
variable {X:Cx}{e:Expr}{te:TE}{lo hi:Option Expr}{tl th:TO}{pos p2:Pos}
theorem tF:PO X none yK:=by
 intro zf s σ H Q I h;rw[evalPart_none];exact bh ⟨none,H,I,.none,h⟩
theorem kJ(h:PE X e te):PO X (some e) (kE te):=by
 intro zf s σ H Q I hw;rw[evalPart_some];refine thn (h zf s σ H _ I hw) fun u s1 ⟨x,H1,I1,r1,q1⟩=>?_;obtain⟨i,rfl,q⟩:=q1;obtain⟨t,rfl⟩:=r1;exact⟨some i,H1,I1,.int i t,q⟩
def SlR(X:Cx)(r:V->Option Int->Option Int->Hp->VK->Prop):Prop:=
 ∀(zf:List (Addr×Obj)) (s:be) (σ:St) (H:Hp) (x:V) (v vl vu:bb) (lo hi:Option Int) (sl:Addr) (Q:VK),Inv X zf σ H s->RelV x v->s.heap.IsSliceOf sl vl vu .none->IsPart vl lo->IsPart vu hi->r x lo hi H Q ->
  ∃T id,typeLookup (.type T) "__getitem__" = pure (some (.builtin id))/\s.TypeIs v T/\bo (model X.prog X.w) X.A (getItem v (.ref sl)) (EP X zf σ Q) X.xe s
theorem SlR.or{r r':V->Option Int->Option Int->Hp->VK->Prop}(h:SlR X r)(h':SlR X r'):SlR X (fun x lo hi H Q=>r x lo hi H Q\/r' x lo hi H Q):=by
 intro zf s σ H x v vl vu lo hi sl Q I rx hs pl pu q;rcases q with q|q
 ·exact h zf s σ H x v vl vu lo hi sl Q I rx hs pl pu q
 ·exact h' zf s σ H x v vl vu lo hi sl Q I rx hs pl pu q
def tSl(r:V->Option Int->Option Int->Hp->VK->Prop)(te:TE)(tl th:TO):TE:=fun σ H Q=>te σ H fun x H1=>tl σ H1 fun l H2=>th σ H2 fun u H3=>r x l u H3 Q
theorem oC{r:V->Option Int->Option Int->Hp->VK->Prop}(hr:SlR X r)(he:PE X e te)(hl:PO X lo tl)(hu:PO X hi th):PE X (.Subscript e (.Slice lo hi none p2) pos) (tSl r te tl th):=by
 intro zf s σ H Q I h;refine Subscript_ (thn (he zf s σ H _ I h) fun v s1 ⟨x,H1,I1,r1,q1⟩=>?_);refine wpAny_Slice (thn (hl zf s1 σ H1 _ I1 q1) fun vl s2 ⟨l,H2,I2,pl,q2⟩=>thn (hu zf s2 σ H2 _ I2 q2) fun vu s3 ⟨u,H3,I3,pu,q3⟩=>?_);rw[evalPart_none];refine bh ?_;have I4:Inv X zf σ H3 { s3 with heap:=s3.heap.push { cls:=.type "slice",data:=.fields #[vl,vu,.none] } }:=I3.kept (t':=s3.toks) fun b ob q=>bi _ q;obtain⟨T,id,hT,ht,hg⟩:=hr zf { s3 with heap:=s3.heap.push { cls:=.type "slice",data:=.fields #[vl,vu,.none] } } σ H3 x v vl vu l u s3.heap.objs.size Q I4 r1 (Heap.IsSliceOf.new ..) pl pu q3;show bo (model X.prog X.w) X.A (subscriptTail e (.Slice lo hi none p2) v (.ref s3.heap.objs.size)) (EP X zf σ Q) X.xe { s3 with heap:=s3.heap.push { cls:=.type "slice",data:=.fields #[vl,vu,.none] } };exact tail_any (ops:=[.ref s3.heap.objs.size,v]) ht hT hg (by with_unfolding_all rfl)
def dY(xs:List V)(lo hi:Option Int):List V:=(xs.drop (HT.sIx xs.length 0 lo)).take (HT.sIx xs.length xs.length hi-HT.sIx xs.length 0 lo)
theorem xD(xs:List V)(lo hi:Option Int):(dY xs lo hi).length<=xs.length:=by
 unfold dY;rw[iy,length_drop];omega
def uJ(K:bj):V->Option Int->Option Int->Hp->VK->Prop:=fun x lo hi H Q=>∃a xs,x=.ref a/\SqT K H a xs /\
 ¬(HT.sIx xs.length 0 lo=0/\HT.sIx xs.length xs.length hi=xs.length)/\∀p,H p=none->Q (.ref p) (upd H p (.tup (dY xs lo hi)))
theorem Kw:SlR X (uJ X.K):=by
 intro zf s σ H x v vl vu lo hi sl Q I rx hs pl pu h;obtain⟨a,xs,rfl,hx,hw,q⟩:=h;cases rx;obtain⟨aa,r,ht,hz⟩:=I.tuple hx;have z:aa.toArray.size=xs.length:=by rw[cr];exact r.length.symm
 refine⟨"tuple",_,PyProof.Rows.slot_tuple_getitem.lookup,ht.typeIs,?_⟩;refine HT.getItem_tuple_cut ht hs pl pu (by rw[z];exact hw) ?_ (by rw[z];exact hz);rw[z];refine⟨.ref s.heap.objs.size,_,I.laid (t':=s.toks) (o:=.tup (dY xs lo hi)) (fun b ob q=>bi _ q) (cw _) ?_,rfl,q _ (I.hok.fresh (cw _))⟩;exact⟨⟨ip (xD xs lo hi) hz,_,cf _ rfl,rfl⟩,_,(r.drop (HT.sIx xs.length 0 lo)).take (HT.sIx xs.length xs.length hi-HT.sIx xs.length 0 lo),IsTup.new _ _⟩
def uX(K:bj):R2:=fun x y H Q=>∃a b xs ys,x=.ref a/\y=.ref b/\SqT K H a xs/\SqT K H b ys/\xs≠[]/\xs.length+ys.length<=br /\
 (ys=[]->Q (.ref a) H)/\(ys≠[]->∀p,H p=none->Q (.ref p) (upd H p (.tup (xs++ys))))
theorem Vals.nil_iff{xs:List V}{us:List bb}(r:Vals xs us):us=[]↔xs=[]:=by
 cases r with
 |nil=>simp
 |cons _ _=>simp
theorem EK:OpR X (jf .Add) (uX X.K):=by
 intro zf s σ H x y v u Q I rx ry h;obtain⟨a,b,xs,ys,rfl,rfl,ha,hb,hx,hz,q1,q2⟩:=h;cases rx;cases ry;obtain⟨ac,r1,p1,_⟩:=I.tuple ha;obtain⟨aa,r2,p2,_⟩:=I.tuple hb;refine HT.cat_tup p1 p2 (fun z=>hx (r1.nil_iff.mp z)) (fun z=>⟨.ref a,H,I,rfl,q1 (r2.nil_iff.mp z)⟩) (fun z=>?_) (by rw[<- r1.length,<- r2.length];exact hz);refine⟨.ref s.heap.objs.size,_,I.laid (t':=s.toks) (o:=.tup (xs++ys)) (fun b ob q=>bi _ q) (cw _) ?_,rfl,q2 (fun w=>z (r2.nil_iff.mpr w)) _ (I.hok.fresh (cw _))⟩;exact⟨⟨by rw[bx];exact hz,_,cf _ rfl,rfl⟩,_,r1.append r2,IsTup.new _ _⟩
end
end
section
def ixN(n:Nat)(i:Int):Option Nat:=if 0<=i then (if i<n then some i.toNat else none)else if -(n:Int)<=i then some (i+n).toNat else none
def atI{α:Type}(xs:List α)(i:Int):Option α:=(ixN xs.length i).bind fun j=>xs[j]?
theorem A0{n:Nat}{i:Int}{j:Nat}(h:ixN n i=some j):seqIndex? i n=some j/\j<n/\-(n:Int)<=i/\i<n:=by
 unfold ixN at h;by_cases h0:0<=i
 ·rw[cy h0]at h;by_cases h1:i<n
  ·rw[cy h1]at h;have e:i.toNat=j:=fc h;exact⟨by rw[seqIndex_of h0 h1,e],yw,yw,h1⟩
  ·rw[bv h1]at h;cases h
 ·rw[bv h0]at h;by_cases h1:-(n:Int)<=i
  ·rw[cy h1]at h;have e:(i+n).toNat=j:=fc h;exact⟨by rw[seqIndex_neg yw h1,e],yw,h1,yw⟩
  ·rw[bv h1]at h;cases h
theorem xA{α:Type}{xs:List α}{i:Int}{v:α}(h:atI xs i=some v):∃j,seqIndex? i xs.length=some j/\xs[j]?=some v/\j<xs.length/\-(xs.length:Int)<=i/\i<xs.length:=by
 unfold atI at h;cases e:ixN xs.length i with
 |none=>rw[e]at h;cases h
 |some j=>
  rw[e]at h;obtain⟨h1,h2,h3,h4⟩:=A0 e;exact⟨j,h1,h,h2,h3,h4⟩
theorem gN{α:Type}{xs:List α}{j:Nat}{v:α}(h:xs[j]?=some v):atI xs (j:Int)=some v:=by
 have hj:j<xs.length:=(List.getElem?_eq_some_iff.mp h).1;have e:ixN xs.length (j:Int)=some j:=by
  unfold ixN;rw[cy yw,cy yw];simp
 unfold atI;rw[e];exact h
theorem Gj{α:Type}(xs:List α)(v:α):atI (xs++[v]) (-1)=some v:=by
 have hl:(xs++[v]).length=xs.length+1:=by simp
 have e:ixN (xs++[v]).length (-1)=some xs.length:=by
  unfold ixN;rw[hl,bv dz,cy yw];congr 1;omega
 unfold atI;rw[e];show (xs++[v])[xs.length]?=some v;simp
def PlainIx(b:Expr):Prop:=∀o i,subscripted b false o i=operate [o,i] (getItem o i)
def IxR(X:Cx)(r:R2):Prop:=
 ∀(value slice:Expr) (zf:List (Addr×Obj)) (s:be) (σ:St) (H:Hp) (x y:V) (v u:bb) (Q:VK),Inv X zf σ H s->RelV x v->RelV y u->r x y H Q ->
  subscripted slice false v u=operate [v,u] (getItem v u)->bo (model X.prog X.w) X.A (subscriptTail value slice v u) (EP X zf σ Q) X.xe s
def MtR(X:Cx)(id:String)(r:V->List V->Hp->VK->Prop):Prop:=
 ∀(zf:List (Addr×Obj)) (s:be) (σ:St) (H:Hp) (x:V) (xs:List V) (v:bb) (us:List bb) (Q:VK),Inv X zf σ H s->RelV x v->Vals xs us->r x xs H Q ->
  bo (model X.prog X.w) X.A (call (.builtin id) (v::us)) (EP X zf σ Q) X.xe s
section
variable {X:Cx}{a b:Expr}{ta tb:TE}{pos:Pos}
theorem IxR.or{r r':R2}(h:IxR X r)(h':IxR X r'):IxR X (fun x y H Q=>r x y H Q\/r' x y H Q):=by
 intro value z zf s σ H x y v u Q I rx ry q hs;rcases q with q|q
 ·exact h value z zf s σ H x y v u Q I rx ry q hs
 ·exact h' value z zf s σ H x y v u Q I rx ry q hs
theorem zN{r:R2}(hr:IxR X r)(ha:PE X a ta)(hb:PE X b tb)(hs:PlainIx b):PE X (.Subscript a b pos) (tOp r ta tb):=by
 intro zf s σ H Q I h;exact Subscript_ (wS ha hb I h fun v u s2 x y H2 I2 rx ry q=>hr a b zf s2 σ H2 x y v u Q I2 rx ry q (hs _ _))
def tR(K:bj):R2:=fun x y H Q=>∃p xs i v,x=.ref p/\y=.int i/\SqL K H p xs/\atI xs i=some v/\Q v H
def uI(K:bj):R2:=fun x y H Q=>∃p xs i v,x=.ref p/\y=.int i/\SqT K H p xs/\atI xs i=some v/\Q v H
def wT:R2:=fun x y H Q=>∃z i c,x=.str z/\y=.int i/\z.length<=br/\atI z.cps.toList i=some c/\Q (.str ⟨#[c]⟩) H
theorem DZ:IxR X (tR X.K):=by
 intro value ae zf s σ H x y v u Q I rx ry h hs;obtain⟨p,xs,i,z,rfl,rfl,hq,he,q⟩:=h;cases rx;obtain⟨t,rfl⟩:=ry;obtain⟨ac,r,pl,hz⟩:=I.list hq;obtain⟨j,h1,h2,h3,h4,h5⟩:=xA he;obtain⟨w,ew,aa⟩:=r.get h2;have hl:=r.length;have hn:=line63;have fin:EP X zf σ Q w s:=⟨z,H,I,aa,q⟩;by_cases h0:0<=i
 ·have hj:i.toNat=j:=by
   rw[seqIndex_of h0 h5]at h1;exact fc h1
  exact item_listR pl.isList h0 yw (by rw[hj];simpa using ew) fin hs
 ·have hj:(i+(ac.toArray.size:Int)).toNat=j:=by
   rw[seqIndex_neg yw h4]at h1;rw[cr,<- hl];exact fc h1
  exact subscriptTail_builtinR (x:=w) pl.isList.typeIs slot_list_getitem.lookup
   (wpAny_getItem_list_neg (Q:=fun r s'=>r=w/\EP X zf σ Q r s') pl.isList yw (by rw[cr]<;>omega) yw (by rw[hj];simpa using ew) ⟨rfl,fin⟩) hs
theorem JA:IxR X (uI X.K):=by
 intro value ac zf s σ H x y v u Q I rx ry h hs;obtain⟨p,xs,i,z,rfl,rfl,hq,he,q⟩:=h;cases rx;obtain⟨t,rfl⟩:=ry;obtain⟨ae,r,pl,hz⟩:=I.tuple hq;obtain⟨j,h1,h2,h3,h4,h5⟩:=xA he;obtain⟨w,ew,aa⟩:=r.get h2;have hl:=r.length;have hn:=line63;have fin:EP X zf σ Q w s:=⟨z,H,I,aa,q⟩;exact subscriptTail_builtinR (x:=w) pl.typeIs slot_tuple_getitem.lookup
  (getItem_tuple (j:=j) (Q:=fun r s'=>r=w/\EP X zf σ Q r s') pl yw yw (by rw[cr,<- hl];exact h1) (by simpa using ew) ⟨rfl,fin⟩) hs
theorem F1:IxR X wT:=by
 intro value aa zf s σ H x y v u Q I rx ry h hs;obtain⟨z,i,c,rfl,rfl,hz,he,q⟩:=h;obtain⟨t,rfl⟩:=rx;obtain⟨t',rfl⟩:=ry;obtain⟨j,h1,h2,h3,h4,h5⟩:=xA he;have hl:z.cps.toList.length=z.length:=by simp[Str.length]
 rw[hl]at h1 h4 h5;have hn:=line63;exact tail_any (typeIs_str s z t) slot_str_getitem.lookup (getItem_str (c:=c) (by
  have e1:decide (i < -(2 ^ 63:Int))=false:=fx yw;have e2:decide (i≥2 ^ 63)=false:=fx yw;rw[e1,e2,Bool.or_false]) (by rw[h1];simpa using h2) ⟨.str ⟨#[c]⟩,H,I.tok _,⟨_,rfl⟩,q⟩) hs
def rIx(K:bj):R2:=fun x y H Q=>tR K x y H Q\/uI K x y H Q\/wT x y H Q
theorem zA:IxR X (rIx X.K):=DZ.or (JA.or F1)
theorem Fh(z:List bb)(n j:Nat)(u:bb):jk (·.setIfInBounds j u) { cls:=.type "list",data:=.seq z.toArray n } = { cls:=.type "list",data:=.seq (z.set j u).toArray n }:=by
 simp[jk]
theorem Inv.lst{zf:List (Addr×Obj)}{σ:St}{H:Hp}{s:be}{p:Addr}{xs:List V}(I:Inv X zf σ H s)(h:H p=some (.lst xs)):
  ∃(aa:List bb) (n:Nat),Vals xs aa/\s.heap.get? p=some { cls:=.type "list",data:=.seq aa.toArray n }/\xs.length<=br:=by
 obtain⟨z,aa,n,r,e⟩:=I.hok p _ h;exact⟨aa,n,r,e,z⟩
theorem Inv.lstUpd{zf:List (Addr×Obj)}{σ:St}{H:Hp}{s:be}{p:Addr}{xs ys:List V}{z its':List bb}{n n':Nat}{f:Obj->Obj}(I:Inv X zf σ H s)(h:H p=some (.lst xs))
  (ho:s.heap.get? p=some { cls:=.type "list",data:=.seq z.toArray n }) (hf:f { cls:=.type "list",data:=.seq z.toArray n } = { cls:=.type "list",data:=.seq its'.toArray n' }) (r:Vals ys its') (hz:ys.length<=br) (t:Nat):
  Inv X zf σ (upd H p (.lst ys)) { s with heap:=s.heap.update p f,toks:=t }:=by
 have e:(s.heap.update p f).get? p=some { cls:=.type "list",data:=.seq its'.toArray n' }:=by
  rw[gl f ho (by rw[hf]<;>rfl),hf]
 refine I.write (x:=p) (e:=p) (by rw[h];trivial) (.inl rfl) (fun b u hb q=>(fh _ _ (gs hb)).trans q) ⟨_,e⟩ ?_;exact⟨hz,its',n',r,e⟩
def yA:V->V->V->Hp->(Hp->Prop)->Prop:=fun o i v H Q=>∃p xs k j,o=.ref p/\i=.int k/\H p=some (.lst xs)/\ixN xs.length k=some j/\Q (upd H p (.lst (xs.set j v)))
theorem BP:PSet X yA:=by
 intro zf s σ H o i v ov iv u Q I ro ri rv h;obtain⟨p,xs,k,j,rfl,rfl,hp,hj,q⟩:=h;cases ro;obtain⟨t,rfl⟩:=ri;obtain⟨z,n,r,ho,hz⟩:=I.lst hp;obtain⟨h1,h2,h3,h4⟩:=A0 hj;have hl:=r.length;have hn:=line63;have I':Inv X zf σ (upd H p (.lst (xs.set j v))) { s with heap:=s.heap.update p (jk (·.setIfInBounds j u)) } :=
  I.lstUpd hp ho (Fh z n j u) (r.set rv j) (by rw[length_set];exact hz) s.toks
 by_cases h0:0<=k
 ·have hk:k.toNat=j:=by
   rw[seqIndex_of h0 h4]at h1;exact fc h1
  exact W.ki_setAt ho h0 yw (by rw[cr,<- hl];exact h4) (by rw[hk];exact⟨_,I',q⟩)
 ·have hk:(k+(z.toArray.size:Int)).toNat=j:=by
   rw[seqIndex_neg yw h3]at h1;rw[cr,<- hl];exact fc h1
  exact W.ki_setBack ho yw (by rw[cr,<- hl];exact h3) yw (by rw[hk];exact⟨_,I',q⟩)
theorem IN(lo hi:Option Int)(n:Nat):(og lo hi none n).1=((HT.sIx n 0 lo:Nat):Int)/\(og lo hi none n).2.1=((HT.sIx n n hi:Nat):Int)/\(og lo hi none n).2.2=1:=by
 refine⟨?_,?_,rfl⟩
 ·cases lo with
  |none=>simp[og,HT.sIx]
  |some i=>
   simp only[og,HT.sIx,Option.getD_none,show (1:Int)>0 by decide,if_true];by_cases h:i<0
   ·simp only[h,if_true]<;>omega
   ·simp only[h,if_false]<;>omega
 ·cases hi with
  |none=>simp[og,HT.sIx]
  |some i=>
   simp only[og,HT.sIx,Option.getD_none,show (1:Int)>0 by decide,if_true];by_cases h:i<0
   ·simp only[h,if_true]<;>omega
   ·simp only[h,if_false]<;>omega
theorem HL(z:List bb)(lo hi:Option Int):slicePick z.toArray lo hi none=((z.drop (HT.sIx z.length 0 lo)).take (HT.sIx z.length z.length hi-HT.sIx z.length 0 lo)).toArray:=by
 obtain⟨h1,h2,h3⟩:=IN lo hi z.toArray.size;unfold slicePick;rw[h1,h2,h3];simp only[sliceRange_one,pick_run,cr]<;>rfl
def nX(K:bj):V->Option Int->Option Int->Hp->VK->Prop:=fun x lo hi H Q=>∃a xs,x=.ref a/\SqL K H a xs/\∀p,H p=none->Q (.ref p) (upd H p (.lst (dY xs lo hi)))
theorem AA:SlR X (nX X.K):=by
 intro zf s σ H x v vl vu lo hi sl Q I rx hs pl pu h;obtain⟨a,xs,rfl,hx,q⟩:=h;cases rx;obtain⟨aa,r,ht,hz⟩:=I.list hx;have z:=r.length;refine⟨"list",_,slot_list_getitem.lookup,ht.isList.typeIs,?_⟩;refine wpAny_getItem_list_slice ht.isList hs pl pu .none yv ?_ (by rw[cr]<;>omega);rw[HL,<- z];refine⟨.ref s.heap.objs.size,_,I.laid (t':=s.toks) (o:=.lst (dY xs lo hi)) (fun b ob q=>bi _ q) (cw _) ?_,rfl,q _ (I.hok.fresh (cw _))⟩;exact⟨ip (xD xs lo hi) hz,_,0,(r.drop (HT.sIx xs.length 0 lo)).take (HT.sIx xs.length xs.length hi-HT.sIx xs.length 0 lo),cf _ rfl⟩
theorem Db:CallR X (.builtin "len") (fun xs H Q=>∃p ys,xs=[.ref p]/\(SqL X.K H p ys\/SqT X.K H p ys)/\Q (.int ys.length) H):=by
 intro zf s σ H xs us Q I r h;obtain⟨p,ys,rfl,hq,q⟩:=h;obtain⟨u,rfl,rx⟩:=vals1 r;cases rx;have hn:=line63;rcases hq with hq|hq
 ·obtain⟨aa,r',pl,hz⟩:=I.list hq;have z:=r'.length;exact Calls.call_len_list pl.isList (by simp only[cr]<;>omega) ⟨.int ys.length,H,I.tok _,⟨s.toks+1,by rw[cr,z]⟩,q⟩
 ·obtain⟨aa,r',pl,hz⟩:=I.tuple hq;have z:=r'.length;exact len_tuple pl (by simp only[cr]<;>omega) ⟨.int ys.length,H,I.tok _,⟨s.toks+1,by rw[cr,z]⟩,q⟩
theorem Ie:CallR X (.builtin "len") (fun xs H Q=>∃z,xs=[.str z]/\z.length<=br/\Q (.int z.length) H):=by
 intro zf s σ H xs us Q I r h;obtain⟨z,rfl,hz,q⟩:=h;obtain⟨u,rfl,t,rfl⟩:=vals1 r;have hn:=line63;exact len_str yw ⟨.int z.length,H,I.tok _,⟨_,rfl⟩,q⟩
theorem CallR.or{f:bb}{r r':List V->Hp->VK->Prop}(h:CallR X f r)(h':CallR X f r'):CallR X f (fun xs H Q=>r xs H Q\/r' xs H Q):=by
 intro zf s σ H xs us Q I rs q;rcases q with q|q
 ·exact h zf s σ H xs us Q I rs q
 ·exact h' zf s σ H xs us Q I rs q
theorem kU:CallR X (.type "tuple") (fun xs H Q=>∃p ys,xs=[.ref p]/\((SqL X.K H p ys/\∀l,H l=none->Q (.ref l) (upd H l (.tup ys)))\/(SqT X.K H p ys/\Q (.ref p) H))):=by
 intro zf s σ H xs us Q I r h;obtain⟨p,ys,rfl,h⟩:=h;obtain⟨u,rfl,rx⟩:=vals1 r;cases rx;rcases h with ⟨hq,q⟩|⟨hq,q⟩
 ·obtain⟨z,r',pl,hz⟩:=I.list hq;have aa:=r'.length;refine call_tuple_list pl.isList (fun h' kp=>?_) (by simp only[cr]<;>omega);have I1:Inv X zf σ H { s with heap:=h' }:=I.kept (t':=s.toks) kp;have I2:Inv X zf σ (upd H h'.objs.size (.tup ys)) { s with heap:=h'.push { cls:=.type "tuple",data:=.seq z.toArray } } :=
   I1.laid (t':=s.toks) (fun b o e=>bi _ e) (cw _) (show ObjOk X.prog X.w _ _ _ (.tup ys)from⟨⟨hz,_,cf _ rfl,rfl⟩,z,r',IsTup.new _ _⟩)
  exact⟨.ref h'.objs.size,_,I2,rfl,q _ (I1.hok.fresh (cw _))⟩
 ·obtain⟨z,r',pl,hz⟩:=I.tuple hq;exact call_tuple_same pl ⟨.ref p,H,I,rfl,q⟩
def tyV(K:bj)(T:String)(x:V)(H:Hp):Prop:=match x with
 | .str _=>T = "str"
 | .int _=>T = "int"
 | .ref p=>(T = "list"/\∃xs,SqL K H p xs)\/(T = "tuple"/\∃o,K.lookup p=some o/\o.cls=.type "tuple"/\o.dict=none) \/
   (T = "dict"/\((∃kvs,H p=some (.dK kvs))\/∃kvs,H p=some (.dT kvs)))\/(T = "set"/\∃S n,H p=some (.set S n))
 |_=>False
theorem BO{zf:List (Addr×Obj)}{σ:St}{H:Hp}{s:be}{T:String}{x:V}{v:bb}(I:Inv X zf σ H s)(r:RelV x v)(ty:tyV X.K T x H):
  s.TypeIs v T/\∀a,v=.ref a->∃ob,s.heap.get? a=some ob/\ob.dict=none:=by
 cases x with
 |str z=>
  obtain⟨t,rfl⟩:=r;cases (show T = "str" from ty);exact⟨typeIs_str s z t,fun _ e=>nomatch e⟩
 |int i=>
  obtain⟨t,rfl⟩:=r;cases (show T = "int" from ty);exact⟨typeIs_int s i t,fun _ e=>nomatch e⟩
 |ref p=>
  cases r;rcases ty with ⟨rfl,xs,hq⟩|⟨rfl,o,hk,hc,hd⟩|⟨rfl,hk⟩|⟨rfl,S,n,hk⟩
  ·obtain⟨aa,_,pl,_⟩:=I.list hq;refine⟨pl.isList.typeIs,fun a e=>?_⟩;cases e;obtain⟨o,n,e,c,hd,_⟩:=pl;exact⟨o,e,hd⟩
  ·refine⟨⟨o,I.kIn p o hk,hc⟩,fun a e=>?_⟩;cases e;exact⟨o,I.kIn _ o hk,hd⟩
  ·have z:∃o,s.heap.get? p=some o/\o.ExactDict:=by
    rcases hk with ⟨kvs,hk⟩|⟨kvs,hk⟩
    ·obtain⟨_,_,_,_,o,_,_,e,ex,_⟩:=I.hok p _ hk;exact⟨o,e,ex⟩
    ·obtain⟨_,_,_,_,o,_,_,e,ex,_⟩:=I.hok p _ hk;exact⟨o,e,ex⟩
   obtain⟨o,e,ex⟩:=z;refine⟨⟨o,e,ex.1⟩,fun a e2=>?_⟩;cases e2;exact⟨o,e,ex.2.1⟩
  ·obtain⟨o,_,_,_,e,ex,_⟩:=I.hok p _ hk;refine⟨⟨o,e,ex.1⟩,fun a e2=>?_⟩;cases e2;exact⟨o,e,ex.2.1⟩
 |_=>exact fu ty
def yM(K:bj)(T:String)(r:V->List V->Hp->VK->Prop)(to:TE):TE:=fun σ H Q=>to σ H fun x H1=>tyV K T x H1/\r x [] H1 Q
def tBM(K:bj)(T:String)(r:V->List V->Hp->VK->Prop)(to:TE)(t:TA):TE:=fun σ H Q=>to σ H fun x H1=>tyV K T x H1/\t σ H1 fun xs H2=>r x xs H2 Q
variable {o e:Expr}{es:List Expr}{to:TE}{t:TA}{name:Str}{apos cpos:Pos}{T id:String}{r:V->List V->Hp->VK->Prop}
theorem Bn(pa:PlainAttrs T)(slot:Slot T name id)(z:typeOf (.builtin id)=pure (.type "method_descriptor"))(hm:MtR X id r)(ho:PE X o to)
  (hbase:ls o name X.env (eval o X.env)=eval o X.env:=by rfl) (hline:(apos.endLine==cpos.line)=true:=by rfl):PE X (.Call (.Attribute o name apos) [] [] cpos) (yM X.K T r to):=by
 intro zf s σ H Q I h;refine wpAny_Call_method0_late hbase hline (thn (ho zf s σ H _ I h) fun v s1 ⟨x,H1,I1,r1,ty,q1⟩=>?_);obtain⟨h1,h2⟩:=BO I1 r1 ty;exact⟨T,id,pa,slot,z,h1,h2,Calls.callWith_builtin rfl (PySem.evalArgs_none (hm zf s1 σ H1 x [] v [] Q I1 r1 .nil q1))⟩
theorem fP(pa:PlainAttrs T)(slot:Slot T name id)(z:typeOf (.builtin id)=pure (.type "method_descriptor"))(hm:MtR X id r)(ho:PE X o to)(ha:PA X (e::es) t)
  (hbase:ls o name X.env (eval o X.env)=eval o X.env:=by rfl)
  (hfew:((kx cpos (cp (e::es) X.env)).all (fun x=>!x.1)&&(backToKw cpos (keywordEach [] X.env)).all (fun x=>x.1.isSome)
   && decide ((e::es).length+([]:List Keyword).length+(if ([]:List Keyword).isEmpty then 0 else 1)<30))=true:=by rfl)
  (hline:(apos.endLine==cpos.line)=true:=by rfl) (hs:cp (e::es) X.env=(false,eval e X.env)::cp es X.env:=by rfl) (hplain:(kx cpos (cp es X.env)).any (·.1)=false:=by rfl):
  PE X (.Call (.Attribute o name apos) (e::es) [] cpos) (tBM X.K T r to t):=by
 intro zf s σ H Q I h;refine wpAny_Call_method_late hbase hfew hline rfl (thn (ho zf s σ H _ I h) fun v s1 ⟨x,H1,I1,r1,ty,q1⟩=>?_);obtain⟨h1,h2⟩:=BO I1 r1 ty;refine⟨T,id,pa,slot,z,h1,h2,?_⟩;have hA:=ha cpos zf s1 σ H1 _ I1 q1;rw[hs]at hA ⊢;refine Calls.callWith_builtin (by show (false||(kx cpos (cp es X.env)).any (·.1))=false;rw[hplain]<;>rfl) (Calls.evalArgs_plain ?_);exact thn hA fun us s2 ⟨vs,H2,I2,r2,q2⟩=>hm zf s2 σ H2 x vs v us Q I2 r1 r2 q2
end
end
section
def MtM(X:Cx)(id:String)(r:V->List V->Hp->VK->Prop):Prop:=
 ∀(zf:List (Addr×Obj)) (s:be) (σ:St) (H:Hp) (x:V) (xs:List V) (v:bb) (us:List bb) (Q:VK),Inv X zf σ H s->RelV x v->Vals xs us->r x xs H Q ->
  bo (model X.prog X.w) X.A (call (.builtin id) (v::us)) (EP X zf σ Q) X.xe s
theorem Vals.one:∀{x:V}{us:List bb},Vals [x] us->∃u,us=[u]/\RelV x u
 |_,_,.cons r .nil=>⟨_,rfl,r⟩
theorem Vals.zero:∀{us:List bb},Vals [] us->us=[]
 |_,.nil=>rfl
theorem Vals.dropLast{xs:List V}{us:List bb}(h:Vals xs us):Vals xs.dropLast us.dropLast:=by
 induction h with
 |nil=>exact .nil
 |cons r t ih=>
  cases t with
  |nil=>exact .nil
  |cons q t'=>exact .cons r ih
theorem Vals.reverse{xs:List V}{us:List bb}(h:Vals xs us):Vals xs.reverse us.reverse:=by
 induction h with
 |nil=>exact .nil
 |cons r t ih=>rw[reverse_cons,reverse_cons];exact Vals.append ih (.cons r .nil)
theorem Vals.rep{xs:List V}{us:List bb}(h:Vals xs us):∀k:Nat,Vals (bg k xs).flatten (bg k us).flatten
 | 0=>.nil
 |k+1=>by
  rw[kq,kq,flatten_cons,flatten_cons];exact Vals.append h (Vals.rep h k)
theorem HC{α:Type}(l:List α):l.eraseIdx (l.length-1)=l.dropLast:=by
 induction l with
 |nil=>rfl
 |cons a r ih=>
  cases r with
  |nil=>rfl
  |cons b r=>
   have e:(a::b::r).length-1=((b::r).length-1)+1:=by
    have h1:(a::b::r).length=r.length+2:=rfl;have h2:(b::r).length=r.length+1:=rfl;omega
   rw[e,List.eraseIdx_cons_succ,ih]
   all_goals rfl
theorem Ch(z:List bb):∀(k:Nat) (acc:List bb),
  List.foldl (fun x1 x2=>x1++x2) acc.toArray (bg k z.toArray)=(acc++(bg k z).flatten).toArray
 | 0,acc=>by simp
 |k+1,acc=>by
  have e:acc.toArray++z.toArray=(acc++z).toArray:=by simp
  have e2:(acc++z)++(bg k z).flatten=acc++(bg (k+1) z).flatten:=by
   rw[kq,flatten_cons,fz]
  rw[<- e2,<- Ch z k (acc++z),<- e,kq,foldl_cons]
section
variable {X:Cx}{zf:List (Addr×Obj)}{σ:St}{H:Hp}{s:be}{l b:Addr}{xs ys zs:List V}
theorem Inv.lset{z its':List bb}{n:Nat}{f:Array bb->Array bb}{t':Nat}(I:Inv X zf σ H s)(hH:H l=some (.lst xs))
  (e:s.heap.get? l=some { cls:=.type "list",data:=.seq z.toArray n }) (hf:f z.toArray=its'.toArray) (hv:Vals ys its') (hz:ys.length<=br):
  Inv X zf σ (upd H l (.lst ys)) { s with heap:=s.heap.update l (jk f),toks:=t' }:=by
 have q:=PySem.IsL.update e f;rw[hf]at q;refine I.write (x:=l) (e:=l) (by rw[hH];exact trivial) (.inl rfl) (fun b' u hb hu=>(fh s.heap (jk f) (gs hb)).trans hu) ⟨_,q⟩ ?_;exact⟨hz,its',_,hv,q⟩
theorem Inv.lnew{z:List bb}{t':Nat}(I:Inv X zf σ H s)(hv:Vals ys z)(hz:ys.length<=br):
  Inv X zf σ (upd H s.heap.objs.size (.lst ys)) { s with heap:=s.heap.push { cls:=.type "list",data:=.seq z.toArray },toks:=t' } :=
 I.laid (fun _ _ q=>bi _ q) (cw _) ⟨hz,z,0,hv,cf _ rfl⟩
theorem Inv.fresh(I:Inv X zf σ H s):H s.heap.objs.size=none:=I.hok.fresh (cw _)
theorem Inv.lstM(I:Inv X zf σ H s)(hH:H l=some (.lst xs)):xs.length<=br/\∃(aa:List bb) (n:Nat),Vals xs aa/\xs.length=aa.length/\s.heap.get? l=some { cls:=.type "list",data:=.seq aa.toArray n }:=by
 obtain⟨z,aa,n,r,e⟩:=I.hok l _ hH;exact⟨z,aa,n,r,r.length,e⟩
theorem AO{n:Nat}(h:n<=br):Builtin.List.listTooLong n=false:=by
 unfold Builtin.List.listTooLong;exact fx yw
end
section
variable {X:Cx}
def xY:V->List V->Hp->VK->Prop:=fun x vs H Q=>∃l xs y,x=.ref l/\vs=[y]/\H l=some (.lst xs)/\xs.length<br/\Q .non (upd H l (.lst (xs++[y])))
theorem pG:MtM X "list.append" xY:=by
 intro zf s σ H x vs v us Q I rx rv h;obtain⟨l,xs,y,rfl,rfl,hH,hz,q⟩:=h;cases rx;obtain⟨u,rfl,ru⟩:=rv.one;obtain⟨z,aa,n,r,hl,e⟩:=I.lstM hH;refine ny F.slot_list_append ⟨_,e,rfl⟩ F.entry_list_append (F.args_list_append_2 _ _) (PySem.list_append l aa.toArray n u (by rw[cr];omega)) ⟨e,?_⟩;refine⟨.non,_,I.lset (its':=aa++[u]) hH e yv (r.append (.cons ru .nil)) ?_,rfl,q⟩;rw[bx,fb];omega
def Ar:V->List V->Hp->VK->Prop:=fun x vs H Q=>∃l b xs zs,x=.ref l/\vs=[.ref b]/\H l=some (.lst xs)/\H b=some (.lst zs)/\xs.length+zs.length<=br/\Q .non (upd H l (.lst (xs++zs)))
theorem vY:MtM X "list.extend" Ar:=by
 intro zf s σ H x vs v us Q I rx rv h;obtain⟨l,b,xs,zs,rfl,rfl,hH,hB,hz,q⟩:=h;cases rx;obtain⟨u,rfl,ru⟩:=rv.one;cases ru;obtain⟨z,ac,n,r,hl,e⟩:=I.lstM hH;obtain⟨z2,aa,n2,r2,af,e2⟩:=I.lstM hB;have hsz:ac.toArray.size+aa.toArray.size<=br:=by rw[cr,cr];omega
 have ae:¬(!ac.toArray.isEmpty&&Builtin.List.listTooLong (ac.toArray.size+aa.toArray.size))=true:=by
  rw[AO hsz,Bool.and_false];exact gc
 refine ny F.slot_list_extend ⟨_,e,rfl⟩ F.entry_list_extend (F.args_list_extend_2 _ _)
  (AutoSeq1.list_extend_list_list_0 l ac.toArray n b aa.toArray n2 ae (by rw[cr];omega) yw) ⟨e,e2,?_⟩
 refine⟨.non,_,I.lset (its':=ac++aa) hH e yv (r.append r2) ?_,rfl,q⟩;rw[bx];omega
def AL:V->List V->Hp->VK->Prop:=fun x vs H Q=>∃l xs y,x=.ref l/\vs=[]/\H l=some (.lst xs)/\xs[xs.length-1]?=some y/\Q y (upd H l (.lst xs.dropLast))
theorem KK:MtM X "list.pop" AL:=by
 intro zf s σ H x vs v us Q I rx rv h;obtain⟨l,xs,y,rfl,rfl,hH,hy,q⟩:=h;cases rx;have ae:=rv.zero;subst ae;obtain⟨z,aa,n,r,hl,e⟩:=I.lstM hH;obtain⟨u,hu,ru⟩:=r.get hy;have ac:aa.toArray[aa.toArray.size-1]?=some u:=by
  show aa.toArray[aa.length-1]?=some u;rw[<- Array.getElem?_toList,<- hl];exact hu
 refine ny F.slot_list_pop ⟨_,e,rfl⟩ F.entry_list_pop (F.args_list_pop_1 _) (MeetsSeq.list_pop_last l aa.toArray n u ac (by rw[cr];omega)) ⟨e,?_⟩;refine⟨y,_,I.lset (its':=aa.dropLast) hH e ?_ r.dropLast ?_,ru,q⟩
 ·show aa.toArray.eraseIdxIfInBounds (aa.toArray.size-1)=aa.dropLast.toArray;rw[cr,List.eraseIdxIfInBounds_toArray,HC]
 ·rw[List.length_dropLast];omega
def yJ:V->List V->Hp->VK->Prop:=fun x vs H Q=>∃l xs,x=.ref l/\vs=[]/\H l=some (.lst xs)/\Q .non (upd H l (.lst xs.reverse))
theorem JK:MtM X "list.reverse" yJ:=by
 intro zf s σ H x vs v us Q I rx rv h;obtain⟨l,xs,rfl,rfl,hH,q⟩:=h;cases rx;have ac:=rv.zero;subst ac;obtain⟨z,aa,n,r,hl,e⟩:=I.lstM hH;refine ny F.slot_list_reverse ⟨_,e,rfl⟩ F.entry_list_reverse (F.args_list_reverse_1 _) (AutoSeq1.list_reverse_list_0 l aa.toArray n (by rw[cr];omega)) ⟨e,?_⟩;refine⟨.non,_,I.lset (its':=aa.reverse) hH e yv r.reverse ?_,rfl,q⟩;rw[List.length_reverse];omega
def kZ:R2:=fun x y H Q=>∃l b xs zs,x=.ref l/\y=.ref b/\H l=some (.lst xs)/\H b=some (.lst zs)/\xs.length+zs.length<=br/\∀p,H p=none->Q (.ref p) (upd H p (.lst (xs++zs)))
theorem v7:OpR X (jf .Add) kZ:=by
 intro zf s σ H x y v u Q I rx ry h;obtain⟨l,b,xs,zs,rfl,rfl,hH,hB,hz,q⟩:=h;cases rx;cases ry;obtain⟨z,ac,n,r,hl,e⟩:=I.lstM hH;obtain⟨z2,aa,n2,r2,ae,e2⟩:=I.lstM hB;refine PySem.P.add_list e e2 ?_ (by rw[cr,cr];omega);have ea:ac.toArray++aa.toArray=(ac++aa).toArray:=by simp
 rw[ea];exact⟨.ref _,_,I.lnew (t':=s.toks) (r.append r2) (by rw[bx];omega),rfl,q _ I.fresh⟩
def Bi:R2:=fun x y H Q=>∃l k xs,x=.ref l/\y=.int k/\H l=some (.lst xs)/\-(2 ^ 63)<=k/\k<2 ^ 63/\xs.length*k.toNat<=br /\
 ∀p,H p=none->Q (.ref p) (upd H p (.lst (bg k.toNat xs).flatten))
theorem Kj{α:Type}(xs:List α)(k:Nat):(bg k xs).flatten.length=k*xs.length:=by
 induction k with
 |zero=>simp
 |succ k ih=>rw[kq,flatten_cons,bx,ih,Nat.succ_mul,Nat.add_comm]
theorem GB:OpR X (jf .Mult) Bi:=by
 intro zf s σ H x y v u Q I rx ry h;obtain⟨l,k,xs,rfl,rfl,hH,h1,h2,hz,q⟩:=h;cases rx;obtain⟨t,rfl⟩:=ry;obtain⟨z,aa,n,r,hl,e⟩:=I.lstM hH;have ah:aa.toArray.size*k.toNat<=br:=by rw[cr,<- hl];exact hz
 have af:¬ aa.toArray.size*k.toNat>(2 ^ 63-1)/8:=by
  have:(br:Nat)<=(2 ^ 63-1)/8:=by decide
  omega
 have ae:¬(!Builtin.List.listFitsIndex k)=true:=by
  rw[fitsIndex_both h1 h2];exact gc
 have ac:¬ Builtin.List.listTooLong (aa.toArray.size*k.toNat)=true:=by
  rw[AO ah];exact gc
 have ag:List.foldl (fun x1 x2=>x1++x2) #[] (bg (if aa.toArray.isEmpty=true then 0 else k.toNat) aa.toArray)=(bg k.toNat aa).flatten.toArray:=by
  have f0:∀m:Nat,List.foldl (fun x1 x2=>x1++x2) #[] (bg m aa.toArray)=(bg m aa).flatten.toArray:=fun m=>by
   have:=Ch aa m [];rw[nil_append]at this;exact this
  rw[f0];cases aa with
  |nil=>simp
  |cons a r'=>rw[bv yv]
 refine wpAny_binaryOp_repeat_ref (T:="list") (U:="int") dz ⟨_,e,rfl⟩ (fun s'=>typeIs_int s' k t) noFill_list_mul F.fills_int_mul F.slot_int_rmul repeat_list F.slot_int_index.lookup
  (ny F.slot_int_rmul (typeIs_int s k t) F.entry_int_rmul (F.args_int_rmul_2 _ _) (int___rmul___int_list k t l aa.toArray n)
   ⟨e,rfl,⟨_,e,rfl⟩,ny F.slot_list_mul ⟨_,e,rfl⟩ F.entry_list_mul (F.args_list_mul_2 _ _) (AutoListH.list___mul___list_int_3 l aa.toArray n k t ae af ac) ⟨e,?_⟩⟩)
 rw[ag];exact⟨.ref _,_,I.lnew (t':=s.toks) (r.rep k.toNat) (by rw[Kj,Nat.mul_comm];exact hz),rfl,q _ I.fresh⟩
end
end
section
section
variable {κ:Type} [DecidableEq κ]
def eK(z:List (κ×V))(k:κ):Option V:=(z.find? fun kv=>decide (kv.1=k)).map (·.2)
def cM(z:List (κ×V))(k:κ)(v:V):List (κ×V):=
 if (z.any fun kv=>decide (kv.1=k))=true then z.map (fun kv=>if kv.1=k then (kv.1,v)else kv)else z++[(k,v)]
theorem qS{p:κ×V}{r:List (κ×V)}{k:κ}(e:p.1=k):eK (p::r) k=some p.2:=by simp[eK,find?_cons,e]
theorem rX{p:κ×V}{r:List (κ×V)}{k:κ}(e:¬ p.1=k):eK (p::r) k=eK r k:=by simp[eK,find?_cons,e]
theorem DQ(k:κ):∀kvs:List (κ×V),(kvs.any fun kv=>decide (kv.1=k))=(eK kvs k).isSome
 | []=>rfl
 |p::r=>by
  rw[any_cons];by_cases e:p.1=k
  ·simp only[qS e,ju e,Bool.true_or,Option.isSome_some]
  ·rw[rX e,fx e,Bool.false_or];exact DQ k r
theorem Av(z:List (κ×V))(k:κ)(v:V):(cM z k v).length<=z.length+1:=by
 unfold cM;split
 ·rw[cg];omega
 ·rw[bx,cn,length_nil];omega
theorem RelO.isSome_eq{o:Option V}{u:Option bb}(r:RelO o u):o.isSome=u.isSome:=by
 cases o with
 |none=>cases u with
  |none=>rfl
  |some _=>exact(show False from r).elim
 |some _=>cases u with
  |none=>exact(show False from r).elim
  |some _=>rfl
theorem KV.val{aa:List (κ×V)}{vs:List (κ×bb)}(r:KV aa vs)(k:κ):RelO (eK aa k) (valueAt vs k):=by
 unfold KV at r;induction r with
 |nil=>exact jj
 | @cons p q ps qs h t ih=>
  obtain⟨h1,h2⟩:=h;by_cases e:p.1=k
  ·have e':q.1=k:=h1.symm.trans e;have b:valueAt (q::qs) k=some q.2:=by simp[valueAt,find?_cons,e']
   rw[qS e,b];exact h2
  ·have e':¬ q.1=k:=fun z=>e (h1.trans z);have b:valueAt (q::qs) k=valueAt qs k:=by simp[valueAt,find?_cons,e']
   rw[rX e,b];exact ih
theorem KV.any{z:List (κ×V)}{vs:List (κ×bb)}(r:KV z vs)(k:κ):(z.any fun kv=>decide (kv.1=k))=vs.any fun kv=>decide (kv.1=k):=by
 unfold KV at r;induction r with
 |nil=>rfl
 |cons h t ih=>rw[any_cons,any_cons,ih,h.1]
theorem KV.repl{aa:List (κ×V)}{vs:List (κ×bb)}(r:KV aa vs)(k:κ){y:V}{u:bb}(ry:RelV y u):
  KV (aa.map fun kv=>if kv.1=k then (kv.1,y)else kv) (vs.map fun kv=>if kv.1=k then (kv.1,u)else kv):=by
 unfold KV at r ⊢;induction r with
 |nil=>exact .nil
 | @cons p q ps qs h t ih=>
  rw[dq,dq];refine .cons ?_ ih;obtain⟨h1,h2⟩:=h;by_cases e:p.1=k
  ·rw[cy e,cy (h1.symm.trans e)];exact⟨h1,ry⟩
  ·rw[bv e,bv (fun z=>e (h1.trans z))];exact⟨h1,h2⟩
theorem KV.put{z:List (κ×V)}{vs:List (κ×bb)}(r:KV z vs)(k:κ){y:V}{u:bb}(ry:RelV y u):KV (cM z k y) (stored vs k u):=by
 unfold cM stored;rw[r.any k];by_cases e:(vs.any fun kv=>decide (kv.1=k))=true
 ·rw[cy e,cy e];exact r.repl k ry
 ·rw[bv e,bv e];exact Paired.snoc r ⟨rfl,ry⟩
theorem KV.length{z:List (κ×V)}{vs:List (κ×bb)}(r:KV z vs):z.length=vs.length:=Paired.length r
end
theorem lF{P:bz}{w:dh}{k:Key}{u:bb}(r:RelV (kV k) u):(c6 P w).is k u=true:=by
 cases k with
 |inl i=>obtain⟨t,e⟩:=(show ∃t,u=Value.int i t from r);subst e;exact EL P w i t
 |inr x=>obtain⟨t,e⟩:=(show ∃t,u=Value.str x t from r);subst e;exact Fb P w x t
theorem AQ{P:bz}{w:dh}:∀{ks:List Key}{us:List bb},Vals (ks.map kV) us->ItemsAre (c6 P w) ks us
 | [],_,r=>by rw[map_nil]at r;cases r;exact .nil
 |k::ks,_,r=>by
  rw[dq]at r;cases r with
  |cons h t=>exact .cons (lF h) (AQ t)
abbrev KT (H:Hp):List (List Key×V)->List (List Key×Addr×bb)->Prop:=Paired fun p q=>p.1=q.1/\H q.2.1=some (.tup (p.1.map kV))/\RelV p.2 q.2.2
theorem KT.val{H:Hp}{aa:List (List Key×V)}{xs:List (List Key×Addr×bb)}(r:KT H aa xs)(k:List Key):RelO (eK aa k) ((ku xs k).map (·.2)):=by
 induction r with
 |nil=>exact jj
 | @cons p q ps qs h t ih=>
  obtain⟨h1,_,h2⟩:=h;by_cases e:p.1=k
  ·have e':q.1=k:=h1.symm.trans e;have b:ku (q::qs) k=some q.2:=by simp[ku,find?_cons,e']
   rw[qS e,b];exact h2
  ·have e':¬ q.1=k:=fun z=>e (h1.trans z);have b:ku (q::qs) k=ku qs k:=by simp[ku,find?_cons,e']
   rw[rX e,b];exact ih
theorem KT.repl{H:Hp}{aa:List (List Key×V)}{xs:List (List Key×Addr×bb)}(r:KT H aa xs)(k:List Key){y:V}{u:bb}(ry:RelV y u):
  KT H (aa.map fun kv=>if kv.1=k then (kv.1,y)else kv) (xs.map (putAt k u)):=by
 induction r with
 |nil=>exact .nil
 | @cons p q ps qs h t ih=>
  rw[dq,dq];refine .cons ?_ ih;obtain⟨h1,h2,h3⟩:=h;unfold putAt;by_cases e:p.1=k
  ·rw[cy e,cy (h1.symm.trans e)];exact⟨h1,h2,ry⟩
  ·rw[bv e,bv (fun z=>e (h1.trans z))];exact⟨h1,h2,h3⟩
theorem KT.put{H:Hp}{z:List (List Key×V)}{xs:List (List Key×Addr×bb)}(r:KT H z xs)(k:List Key){b:Addr}{y:V}{u:bb}(hb:H b=some (.tup (k.map kV)))(ry:RelV y u):
  KT H (cM z k y) (storedH xs k b u):=by
 have e:(z.any fun kv=>decide (kv.1=k))=(ku xs k).isSome:=by
  rw[DQ,(r.val k).isSome_eq,nz]
 unfold cM storedH;rw[e];by_cases q:(ku xs k).isSome=true
 ·rw[cy q,cy q];exact r.repl k ry
 ·rw[bv q,bv q];exact Paired.snoc r ⟨rfl,hb,ry⟩
theorem KT.keeps{H H':Hp}{aa:List (List Key×V)}{xs:List (List Key×Addr×bb)}(r:KT H aa xs)(ht:∀b ys,H b=some (.tup ys)->H' b=some (.tup ys)):KT H' aa xs:=
 Paired.mapP r fun _ _ z=>⟨z.1,ht _ _ z.2.1,z.2.2⟩
section
variable {P:bz}{w:dh}{H:Hp}{h:Heap}{a:Addr}
theorem yF{u:HO}(ok:HOk P w H h)(e:Rd H a u):ObjOk P w H h a u:=e.ok ok
theorem kS{z:List (Key×V)}(ok:HOk P w H h)(e:Rd H a (.dK z)):z.length<=br/\(a==gb)=false/\∃vs,KV z vs/\h.DictOf (c6 P w) a vs:=
 show ObjOk P w H h a (.dK z)from yF ok e
theorem JY{z:List (Key×V)}(ok:HOk P w H h)(e:H a=some (.dK z)):z.length<=br/\(a==gb)=false/\∃vs,KV z vs/\h.DictOf (c6 P w) a vs:=kS ok (.inl e)
theorem lY{ks:List Key}(ok:HOk P w H h)(e:H a=some (.tup (ks.map kV))):(tupleKind (c6 P w)).is h ks a:=by
 obtain⟨_,z,r,o,h1,h2,n,h3⟩:=(show ObjOk P w H h a (.tup (ks.map kV))from ok a _ e);exact⟨o,z.toArray,n,h1,h2,h3,by simpa using AQ r⟩
theorem k6{aa:List (List Key×V)}(ok:HOk P w H h)(e:Rd H a (.dT aa)):aa.length<=br/\(a==gb)=false /\
  ∃xs,KT H aa xs/\h.DictOfH (tupleKind (c6 P w)) a xs:=by
 obtain⟨z,y,xs,r,o,es,ep,h1,h2,h3,h4,h5⟩:=(show ObjOk P w H h a (.dT aa)from yF ok e);refine⟨z,y,xs,r,o,es,ep,h1,h2,h3,h4,fun x hx=>?_,h5⟩;have all:∀{l:List (List Key×V)}{m:List (List Key×Addr×bb)},KT H l m->∀x∈m,(tupleKind (c6 P w)).is h x.1 x.2.1:=by
  intro l m q;induction q with
  |nil=>intro x hx;exact nomatch hx
  | @cons p q ps qs hq t ih=>
   intro x hx;rcases mem_cons.mp hx with e|hx
   ·subst e;exact lY ok (by rw[<- hq.1];exact hq.2.1)
   ·exact ih x hx
 exact all r x hx
theorem Hm{z:List (List Key×V)}(ok:HOk P w H h)(e:H a=some (.dT z)):z.length<=br/\(a==gb)=false /\
  ∃xs,KT H z xs/\h.DictOfH (tupleKind (c6 P w)) a xs:=k6 ok (.inl e)
end
def DGet(H:Hp)(a:Addr)(y:V)(r:Option V):Prop:=
 (∃kvs k,Rd H a (.dK kvs)/\y=kV k/\r=eK kvs k)\/∃kvs k b,Rd H a (.dT kvs)/\y=.ref b/\H b=some (.tup (k.map kV))/\r=eK kvs k
def DPut(H:Hp)(a:Addr)(y v:V)(H':Hp):Prop:=
 (∃kvs k,H a=some (.dK kvs)/\y=kV k/\kvs.length<br/\H'=upd H a (.dK (cM kvs k v))) \/
 ∃kvs k b,H a=some (.dT kvs)/\y=.ref b/\H b=some (.tup (k.map kV))/\kvs.length<br/\H'=upd H a (.dT (cM kvs k v))
theorem DPut.k{H:Hp}{a:Addr}{z:List (Key×V)}{k:Key}{v:V}(e:H a=some (.dK z))(hl:z.length<br):DPut H a (kV k) v (upd H a (.dK (cM z k v))):=.inl ⟨z,k,e,rfl,hl,rfl⟩
theorem DPut.t{H:Hp}{a b:Addr}{z:List (List Key×V)}{k:List Key}{v:V}(e:H a=some (.dT z))(eb:H b=some (.tup (k.map kV)))(hl:z.length<br):
  DPut H a (.ref b) v (upd H a (.dT (cM z k v))):=.inr ⟨z,k,b,e,rfl,eb,hl,rfl⟩
section
variable {X:Cx}{zf:List (Addr×Obj)}{σ:St}{H:Hp}{s:be}{a:Addr}{y v:V}{u r:bb}{o:Option V}{A:cz}{E:bb->be->Prop}
theorem Inv.big(I:Inv X zf σ H s):gb<s.heap.objs.size:=by
 have h:ix<s.heap.objs.size:=(I.mod.glob.keeps I.bk).lt;exact Nat.lt_trans dz h
theorem IV{Q:bb->be->Prop}(hu:A.units+1<gz)(I:Inv X zf σ H s)(g:DGet H a y (some v))(ry:RelV y u)(h:∀w' s',Inv X zf σ H s'->RelV v w'->Q w' s'):
  bo (model X.prog X.w) A (getItem (.ref a) u) Q E s:=by
 rcases g with ⟨kvs,k,e,ey,l⟩|⟨kvs,k,b,e,ey,eb,l⟩
 ·subst ey;obtain⟨z,hd,vs,ac,dd⟩:=kS I.hok e;obtain⟨w',hw,aa⟩:=RelO.some_of (v:=v) (o:=valueAt vs k) (by rw[l];exact ac.val k);exact wpAny_getItem_of (lF ry) dd.mapOf hw (h w' _ (I.tok _) aa)
 ·subst ey;cases (show u=bu b from ry);obtain⟨z,hd,xs,ac,dd⟩:=k6 I.hok e;obtain⟨w',hw,aa⟩:=RelO.some_of (v:=v) (o:=(ku xs k).map (·.2)) (by rw[l];exact ac.val k);obtain⟨p,hp,ae⟩:=map_eq_some_iff.mp hw;refine wpAny_getItem_heap (tupleKind_room_in1 hu) (lY I.hok eb) dd hp ?_;rw[ae];exact h w' _ (I.tok _) aa
theorem Ix{Q:bb->be->Prop}(hu:A.units+1<gz)(I:Inv X zf σ H s)(g:DGet H a y o)(ry:RelV y u)(h:∀s',Inv X zf σ H s'->Q (.bool o.isSome) s'):
  bo (model X.prog X.w) A (fw .In u (.ref a)) Q E s:=by
 rcases g with ⟨kvs,k,e,ey,l⟩|⟨kvs,k,b,e,ey,eb,l⟩
 ·subst ey;obtain⟨z,hd,vs,aa,dd⟩:=kS I.hok e;refine wpAny_in_of (lF ry) hd dd.mapOf ?_;rw[<- (aa.val k).isSome_eq,<- l];exact h _ (I.tok _)
 ·subst ey;cases (show u=bu b from ry);obtain⟨z,hd,xs,aa,dd⟩:=k6 I.hok e;refine wpAny_in_heap (tupleKind_room_in1 hu) (lY I.hok eb) hd dd ?_;have q:=(aa.val k).isSome_eq;rw[nz]at q;rw[<- q,<- l];exact h _ (I.tok _)
theorem Kf{Q:bb->be->Prop}(hu:A.units+1<gz)(I:Inv X zf σ H s)(g:DGet H a y o)(ry:RelV y u)(h:∀s',Inv X zf σ H s'->Q (.bool (!o.isSome)) s'):
  bo (model X.prog X.w) A (fw .NotIn u (.ref a)) Q E s:=by
 rcases g with ⟨kvs,k,e,ey,l⟩|⟨kvs,k,b,e,ey,eb,l⟩
 ·subst ey;obtain⟨z,hd,vs,aa,dd⟩:=kS I.hok e;refine wpAny_notIn_of (lF ry) hd dd.mapOf ?_;rw[<- (aa.val k).isSome_eq,<- l];exact h _ (I.tok _)
 ·subst ey;cases (show u=bu b from ry);obtain⟨z,hd,xs,aa,dd⟩:=k6 I.hok e;refine wpAny_notIn_heap (tupleKind_room_in1 hu) (lY I.hok eb) hd dd ?_;have q:=(aa.val k).isSome_eq;rw[nz]at q;rw[<- q,<- l];exact h _ (I.tok _)
theorem uF{h':Heap}{t':Nat}{ob:HO}(I:Inv X zf σ H s)(mu:Mut (H a))(hs:gu a s.heap h')(he:∃q,h'.get? a=some q)(aa:ObjOk X.prog X.w (upd H a ob) h' a ob):
  Inv X zf σ (upd H a ob) { s with heap:=h',toks:=t' } :=
 I.write (x:=a) (e:=a) mu (.inl rfl) (fun b q hb z=>(hs.2 b hb).trans z) he aa
theorem Hb{P:bz}{w:dh}{H':Hp}{h':Heap}{aa:List (Key×V)}{vs:List (Key×bb)}(z:aa.length<=br)(hd:(a==gb)=false)(ac:KV aa vs)(dd:h'.DictOf (c6 P w) a vs):
  ObjOk P w H' h' a (.dK aa):=⟨z,hd,vs,ac,dd⟩
theorem Hr{H':Hp}{Q:Unit->be->Prop}(hu:A.units+1<gz)(I:Inv X zf σ H s)(g:DPut H a y v H')(ry:RelV y u)(rv:RelV v r)(h:∀s',Inv X zf σ H' s'->Q () s'):
  bo (model X.prog X.w) A (setItem (.ref a) u r) Q E s:=by
 rcases g with ⟨kvs,k,e,ey,l,eH⟩|⟨kvs,k,b,e,ey,eb,l,eH⟩
 ·subst ey eH;obtain⟨z,hd,vs,aa,dd⟩:=JY I.hok e;have hz:vs.length<=br:=by rw[<- aa.length];exact z
  have hl:(cM kvs k v).length<=br:=by have:=Av kvs k v;omega
  refine wpAny_setItem_pairs (hsz:=hz) (lF ry) dd fun h' ac hs=>h _ ?_;have he:∃q,h'.get? a=some q:=let ⟨q,_,_,hq,_⟩:=ac;⟨q,hq⟩;exact uF I (by rw[e];exact jj) hs he (Hb hl hd (aa.put k rv) ac)
 ·subst ey eH;cases (show u=bu b from ry);obtain⟨z,hd,xs,aa,dd⟩:=Hm I.hok e;have hz:xs.length<=br:=by rw[<- Paired.length aa];exact z
  have hl:(cM kvs k v).length<=br:=by have:=Av kvs k v;omega
  refine wpAny_setItem_heap (hsz:=hz) (tupleKind_room_in1 hu) (lY I.hok eb) dd fun h' ac hs=>h _ ?_;obtain⟨q,es,ep,hq,h2,h3,h4,_,h5⟩:=ac;refine uF I (by rw[e];exact jj) hs ⟨q,hq⟩ ⟨hl,hd,_,(aa.put k eb rv).keeps fun c ys ec=>?_,q,es,ep,hq,h2,h3,h4,h5⟩;rw[zE (GD ec e (fun z=>nomatch z))];exact ec
end
def NoSl(i:Expr):Prop:=∀ov iv,subscripted i false ov iv=operate [ov,iv] (getItem ov iv)
theorem GV{prog:bz}{w:dh}{A:cz}{E:bb->be->Prop}{s:be}{env:Env}{value z:Expr}{pos:Pos}{T id:String}{Q:bb->be->Prop}
  (hl:typeLookup (.type T) "__getitem__" = pure (some (.builtin id))) (hs:NoSl z)
  (h:bo (model prog w) A (eval value env) (fun o s₁=>bo (model prog w) A (eval z env) (fun i s₂=>s₂.TypeIs o T/\bo (model prog w) A (getItem o i) Q E s₂) E s₁) E s):
  bo (model prog w) A (eval (.Subscript value z pos) env) Q E s:=by
 refine Subscript_ (gm h (fun o s₁ h₁=>gm h₁ (fun i s₂ h₂=>?_) fun _ _ x=>x) fun _ _ x=>x);obtain⟨hT,h₂⟩:=h₂;unfold subscriptTail;refine bc ?_;rw[getitemInPython_of_ne hT.not_modules];refine bc (wpAny_specialOf hT hl ?_);have fin:bo (model prog w) A (subscripted z false o i) (fun r s₃=>bo (model prog w) A (letTemporaryGo value o r >>= fun _=>pure r) Q E s₃) E s₂:=by
  rw[hs o i];exact wpAny_operating (gm h₂ (fun r s₃ h₃=>bc (wpAny_letTemporaryGo (bh h₃))) fun _ _ x=>x)
 first
  |exact bh (bc fin)
  |exact bc (bh (bc fin))
  |exact bc fin
theorem Gz{X:Cx}{zf:List (Addr×Obj)}{σ:St}{H:Hp}{s:be}{a:Addr}{y:V}{o:Option V}(I:Inv X zf σ H s)(g:DGet H a y o):s.TypeIs (.ref a) "dict":=by
 rcases g with ⟨kvs,k,e,_,_⟩|⟨kvs,k,b,e,_,_,_⟩
 ·obtain⟨_,_,vs,_,dd⟩:=kS I.hok e;exact dd.typeIs
 ·obtain⟨_,_,xs,_,dd⟩:=k6 I.hok e;exact dd.typeIs
def AX(td ty:TE):TE:=fun σ H Q=>td σ H fun x H1=>ty σ H1 fun y H2=>∃a v,x=.ref a/\DGet H2 a y (some v)/\Q v H2
def Bs(td ty tv:TE):TS:=fun D σ H=>tv σ H fun v H1=>td σ H1 fun x H2=>ty σ H2 fun y H3=>∃a H4,x=.ref a/\DPut H3 a y v H4/\D.nx σ H4
section
variable {X:Cx}{o i e value:Expr}{pos pos' tpos:Pos}{td ty tv:TE}
theorem C8(hu:X.A.units+1<gz)(ho:PE X o td)(hi:PE X i ty)(hs:NoSl i):PE X (.Subscript o i pos) (AX td ty):=by
 intro zf s σ H Q I h;refine GV PySem.F.slot_dict_getitem.lookup hs (thn (ho zf s σ H _ I h) fun u s1 ⟨x,H1,I1,rx,q1⟩=>thn (hi zf s1 σ H1 _ I1 q1) fun iv s2 ⟨y,H2,I2,ry,a,v,ex,g,q2⟩=>?_);subst ex;obtain rfl:u=bu a:=rx;exact⟨Gz I2 g,IV hu I2 g ry fun w' s3 I3 z=>⟨v,H2,I3,z,q2⟩⟩
theorem FZ(hu:X.A.units+1<gz)(ho:PE X o td)(hi:PE X i ty)(hv:PE X value tv)(hs:swapsWith value (some (.Subscript o i pos')) pos.line X.env=pure false):
  PS X (.Assign [.Subscript o i pos'] value pos) (Bs td ty tv):=by
 intro zf s σ H D I h;refine wpAny_Assign_Subscript (thn (hv zf s σ H _ I h) fun r s1 ⟨v,H1,I1,rv,q1⟩=>thn (ho zf s1 σ H1 _ I1 q1) fun u s2 ⟨x,H2,I2,rx,q2⟩=>thn (hi zf s2 σ H2 _ I2 q2) fun iv s3 ⟨y,H3,I3,ry,a,H4,ex,g,q3⟩=>?_) hs;subst ex;obtain rfl:u=bu a:=rx;exact Hr hu I3 g ry rv fun s4 I4=>⟨σ,H4,I4,q3⟩
end
theorem ER{P:bz}{w:dh}{H:Hp}(h:Heap)(hb:gb<h.objs.size):ObjOk P w H (h.push { cls:=.type "dict",data:=.dict #[] }) h.objs.size (.dT []):=
 ⟨mj _,beq_eq_false_iff_ne.mpr (gs (gf hb)),[],.nil,_,#[],0,cf _ rfl,⟨rfl,rfl,rfl⟩,rfl,rfl,nodup_nil⟩
def xR:TE:=fun _ H Q=>∀p,H p=none->Q (.ref p) (upd H p (.dT []))
section
variable {X:Cx}{pos:Pos}
theorem Bw:PE X (.Dict [] [] pos) xR:=fun zf s σ H Q I h=>
 wpAny_Dict_empty ⟨.ref s.heap.objs.size,_,I.laid (a:=s.heap.objs.size) (o:=.dT []) (t':=s.toks) (fun _ _ q=>bi _ q) (cw _) (ER s.heap I.big),rfl,h _ (I.hok.fresh (cw _))⟩
end
structure M1(X:Cx)(o:Expr)(m:Str)(apos:Pos)(e:Expr)(cpos:Pos):Prop where
 base:ls o m X.env (eval o X.env)=eval o X.env
 few:((kx cpos (cp [e] X.env)).all (fun x=>!x.1)&&(backToKw cpos (keywordEach [] X.env)).all (fun x=>x.1.isSome)
  && decide (([e]:List Expr).length+([]:List Keyword).length+(if ([]:List Keyword).isEmpty then 0 else 1)<30))=true
 line:(apos.endLine==cpos.line)=true
 trees:kx cpos (cp [e] X.env)=[(false,eval e X.env)]
structure M2(X:Cx)(o:Expr)(m:Str)(apos:Pos)(e f:Expr)(cpos:Pos):Prop where
 base:ls o m X.env (eval o X.env)=eval o X.env
 few:((kx cpos (cp [e,f] X.env)).all (fun x=>!x.1)&&(backToKw cpos (keywordEach [] X.env)).all (fun x=>x.1.isSome)
  && decide (([e,f]:List Expr).length+([]:List Keyword).length+(if ([]:List Keyword).isEmpty then 0 else 1)<30))=true
 line:(apos.endLine==cpos.line)=true
 trees:kx cpos (cp [e,f] X.env)=[(false,eval e X.env),(false,eval f X.env)]
def obO(a:Addr)(ob:Obj):HO:=.ext fun h=>h.get? a=some ob
def IsD(H:Hp)(a:Addr):Prop:=(∃kvs,Rd H a (.dK kvs))\/(∃kvs,Rd H a (.dT kvs))\/∃ob,H a=some (obO a ob)/\ob.ExactDict/\(a==gb)=false
theorem yR{X:Cx}{zf:List (Addr×Obj)}{σ:St}{H:Hp}{s:be}{a:Addr}(I:Inv X zf σ H s)(d:IsD H a):
  s.TypeIs (.ref a) "dict"/\(∀b,bu a=.ref b->∃ob,s.heap.get? b=some ob/\ob.dict=none)/\(a==gb)=false:=by
 rcases d with ⟨kvs,e⟩|⟨kvs,e⟩|⟨ob,e,hx,hd⟩
 rotate_left 2
 ·obtain⟨g,_,_⟩:=(show ObjOk X.prog X.w H s.heap a (obO a ob)from I.hok a _ e);exact⟨⟨ob,g,hx.1⟩,fun b q=>by cases q;exact⟨ob,g,hx.2.1⟩,hd⟩
 ·obtain⟨_,hd,vs,_,dd⟩:=kS I.hok e;refine⟨dd.typeIs,fun b q=>?_,hd⟩;cases q;obtain⟨ob,_,_,h1,h2,_⟩:=dd;exact⟨ob,h1,h2.2.1⟩
 ·obtain⟨_,hd,xs,_,dd⟩:=k6 I.hok e;refine⟨dd.typeIs,fun b q=>?_,hd⟩;cases q;obtain⟨ob,_,_,h1,h2,_⟩:=dd;exact⟨ob,h1,h2.2.1⟩
end
end L2
namespace Att
open PySem PySem.W PySem.Calls PyProof.Rows
theorem Ir{P:Params}{h:Heap}:∀(ns:List Int) (vs:List bb),WellAll P h vs (ns.map WData.int)->nu vs ns:=by
 intro ns;induction ns with
 |nil=>
  intro vs w;rw[map_nil]at w;cases w;exact .nil
 |cons n ns ih=>
  intro vs w;rw[dq]at w;cases w with
  |cons a b=>
   cases a;exact .cons _ _ (ih _ b)
theorem IX{l:OpenLaw}{n:Nat}(hn:l.most=some n){P:Params}{h:Heap}{args:List WData}{z:List bb}
  (hpre:l.row.toRowW.claim.pre args=true) (hwl:WellAll P h z args):
  ∃a vs ns,z=[bu a]/\args=[WData.list (ns.map WData.int)]/\h.get? a=some { cls:=.type "list",data:=.seq vs.toArray }/\nu vs ns/\ns.length<=n:=by
 have ac:WShape.hasAll [] args [.list .int]=true:=(pre_splitW hpre).1;have hc:l.pre.holds [] { args:=args } = true:=(pre_splitW hpre).2;obtain⟨d,r,rfl,h1,h2⟩:=hasAllW_cons ac;obtain rfl:=hasAllW_nil h2;obtain⟨xs,rfl,h3⟩:=hasW_list h1;obtain⟨ns,rfl⟩:=items_int h3;have aa:ns.length<=n:=by
  unfold OpenLaw.pre at hc;have h4:(WTm.not (.lt (.lit (.int (n:Int))) (.len (.arg 0)))).holds [] { args:=[.list (ns.map .int)] } = true:=by
   have h4:=(holds_andW hc).1;rw[hn]at h4;exact h4
  have h5:=condW_of h4 (w_not (w_lt w_lit (w_len_list (w_arg rfl))));rw[cg]at h5;refine Nat.le_of_not_lt fun q=>?_;have q':(n:Int)<((ns.length:Nat):Int):=yw
  first
   | (rw[ju q']at h5;exact absurd h5 dz)
   | (simp at h5;omega)
 cases hwl with
 |cons w1 w2=>
  cases w2;cases w1 with
  |list ho hall=>exact⟨_,_,ns,rfl,rfl,ho,Ir ns _ hall,aa⟩
theorem Gg(l:OpenLaw)(args:List WData):l.row.toRowW.claim.post args (.bool true) args=true:=
 postW_of (r:=l.row.toRowW) (X:=(true==true))
  (show WShape.has [] (.bool true) .bool=true by first|rfl|decide|simp[WShape.has,WShape.arms,WShape.armsAll])
  (show (WTm.eq .res (.lit (.bool true))).value [] { args:=args,res:=some (.bool true),after:=args } = some (.bool (true==true))from w_eq_bool (w_res rfl) w_lit) rfl
theorem attach_call{l:OpenLaw}{n:Nat}{q:bz}{z:List Str}{XP:(Str->Option bb)->Heap->Prop}{YP:dh->Heap->Prop}{d:DefRec}
  (hn:l.most=some n) (hdf:d.params.defaults=[])
  (call:∀(w:dh) (s₀ s₁:be) (mg mb:Str->Option bb) (fa:Addr) (o:Obj) (pm cd ac:bb) (a:Addr) (vs:List bb) (ns:List Int),
   Ground q z [] XP w s₀ mg mb s₁.heap->YP w s₁.heap ->
   s₁.heap.get? fa=some o->o.data=.func (docDef d.name d.params d.body d.scope pm cd ac)->s₁.heap.CodeRec cd d.name->mg d.name=some (.ref fa) ->
   s₁.heap.get? a=some { cls:=.type "list",data:=.seq vs.toArray }->nu vs ns->ns.length<=n->s₁.gens = #[] ->
   me (model l.prog w) callerA (.call (.ref fa) ⟨[.ref a],[]⟩) (fun r s'=>r=.ok (.ret (.bool true))/\OldK s₁.heap s'.heap/\s'.os=s₁.os/\AllBare s'.gens) s₁):
  WalkO q z XP YP l.row.toRowW d [] (fun f vs=>PySem.call f vs):=by
 intro w s₀ s₁ mg mb G Y fa o pm cd ac dV kV ho hd aj hD ai hg args ak as ae al an ah am;obtain rfl:dV=.none:=Dflts.none hD hdf;obtain rfl:kV=.none:=Dflts.noKw hD;obtain⟨a,vs,ns,rfl,rfl,af,aa,ag⟩:=IX hn ae ah;refine enter_call (ml (call w s₀ s₁ mg mb fa o pm cd ac a vs ns G Y ho (fd_plain hd) aj ai af aa ag hg) fun r s' hq=>?_);obtain⟨rfl,h2,h3,h4⟩:=hq;exact⟨.inl ⟨.bool true,.bool true,[],rfl,fun _=>rfl,.bool true,Gg l _,fun _=>⟨List.Pairwise.nil,fun _ hm=>(nomatch hm)⟩⟩,h2,h3,h4⟩
end Att
namespace L2
open PySem PySem.Spec PyProof.Rows
section
theorem Dz:∀{vs:List bb}{ns:List Int},nu vs ns->Vals (ns.map V.int) vs
 |_,_,.nil=>.nil
 |_,_,.cons n t h=>.cons ⟨t,rfl⟩ (Dz h)
def Only(H:Hp):Prop:=∀b,H b=none\/(∃o xs,H b=some (.frz o (.lst xs)))\/∃q∈tabsG,q.1.2=b/\H b=some (.tbl q.2)
def dX(b:Addr):Option HO:=(tabsG.find? fun q=>q.1.2==b).map fun q=>.tbl q.2
theorem kN{b:Addr}{u:HO}(e:dX b=some u):∃q∈tabsG,q.1.2=b/\u=.tbl q.2:=by
 unfold dX at e;cases h:tabsG.find? fun q=>q.1.2==b with
 |none=>rw[h]at e;cases e
 |some q=>
  rw[h]at e;cases e;exact⟨q,List.mem_of_find?_eq_some h,by simpa using List.find?_some h,rfl⟩
theorem Gh{l:List ((Addr×Addr)×Array bb)}(nd:(l.map fun q=>q.1.2).Nodup){q:(Addr×Addr)×Array bb}(h:q∈l):l.find? (fun r=>r.1.2==q.1.2)=some q:=by
 induction l with
 |nil=>cases h
 |cons p l ih=>
  rw[dq,nodup_cons]at nd;rcases mem_cons.mp h with e|e
  ·subst e;simp
  ·have ne:¬ p.1.2=q.1.2:=fun z=>nd.1 (by rw[z];exact List.mem_map_of_mem (f:=fun q:(Addr×Addr)×Array bb=>q.1.2) e);rw[List.find?_cons_of_neg (by simpa using ne)];exact ih nd.2 e
theorem AG(nd:(tabsG.map fun q=>q.1.2).Nodup){q:(Addr×Addr)×Array bb}(h:q∈tabsG):dX q.1.2=some (.tbl q.2):=by
 unfold dX;rw[Gh nd h];rfl
structure TabsOk(K:bj)(h:Heap):Prop where
 nd:(tabsG.map fun q=>q.1.2).Nodup
 hd:∀q∈tabsG,W.CodeHd h q.1.1 q.1.2
 empty:∀q∈tabsG,h.get? q.1.2=some (W.tabObj #[])
 off:∀q∈tabsG,K.lookup q.1.2=none
theorem TabsOk.none{K:bj}{h:Heap}(e:tabsG=[]):TabsOk K h:=⟨by rw[e];exact nodup_nil,fun q z=>absurd z (by rw[e];simp),fun q z=>absurd z (by rw[e];simp),fun q z=>absurd z (by rw[e];simp)⟩
theorem GU{P:bz}{w:dh}{K:bj}{mg mb:Str->Option bb}{CX:CXT}{k:Nat}{fa a:Addr}{fd:jm}{x:Str}{sp:Sp}{s₁:be}{vs:List bb}{ns:List Int}
  (KX:K.In s₁.heap) (TT:TabsOk K s₁.heap) (hbm:BltAt s₁.heap mg) (hns:s₁.heap.Ns ix mg) (hb:s₁.heap.Ns builtinsNs mb) (hbb:∀x:Str,x ≠ "__name__"->mb x=fy x) (hlim:s₁.heap.NoLimit) (hg:s₁.gens = #[])
  (ha:s₁.heap.get? a=some { cls:=.type "list",data:=.seq vs.toArray }) (hi:nu vs ns) (hl:ns.length<=br) (hr:Room k callerA)
  (F:∀base:Heap,K.In base->base.Ns ix mg->FnOk P w K mg base CX k fa fd [x] sp) (hbind:∀(s:be) (u:bb),BindsTo s fd ⟨[u],[]⟩ [(x,u)])
  (hsp:∀H:Hp,Only H->SqL K H a (ns.map V.int)->sp [.ref a] H (fun v _=>v=.bl true) fun _ _ _=>False)
  (hCX:∀H e s',CX [] H s₁ (fun _ _ _=>False) e s'->False):
  me (model P w) callerA (.call (.ref fa) ⟨[.ref a],[]⟩) (fun r s'=>r=.ok (.ret (.bool true))/\OldK s₁.heap s'.heap/\s'.os=s₁.os/\AllBare s'.gens) s₁:=by
 have rv:=Dz hi;have ai:=hi.length
 have ag:∀H:Hp,Only H->SqL K H a (ns.map V.int)->HOk P w H s₁.heap->(∀b,H b≠none->b=a\/∃q∈tabsG,q.1.2=b)->(H a≠none->K.lookup a=none)->(∀q∈tabsG,H q.1.2=some (.tbl q.2)) ->
   me (model P w) callerA (.call (.ref fa) ⟨[.ref a],[]⟩) (fun r s'=>r=.ok (.ret (.bool true))/\OldK s₁.heap s'.heap/\s'.os=s₁.os/\AllBare s'.gens) s₁:=by
  intro H hO hS hok hA hK am;have ak:∀{b:Addr}{o:Obj},s₁.heap.get? b=some o->o.cls≠.type "list"->o.cls≠.none->H b=none:=fun {b o} e c1 c2=>by
   cases q:H b with
   |none=>rfl
   |some u=>
    rcases hA b (by rw[q];simp)with e'|⟨r,aa,e'⟩
    ·subst e';rw[ha]at e;cases e;exact absurd rfl c1
    ·have:=TT.empty r aa;rw[e',e]at this;cases this;exact absurd rfl c2
  have ac:∀{b:Addr}{o:Obj},s₁.heap.get? b=some o->H b=none->(gJ s₁.heap H).get? b=some o:=fun e n=>E3 e n;have an:∀{b:Addr}{o:Obj}{es:Array mw}{ep:Nat},s₁.heap.get? b=some o->o.data=.dict es ep->H b=none:=fun {b o es ep} e d=>by
   cases q:H b with
   |none=>rfl
   |some u=>
    rcases hA b (by rw[q];simp)with e'|⟨r,aa,e'⟩
    ·subst e';rw[ha]at e;cases e;have d':Data.seq vs.toArray _=Data.dict es ep:=d;cases d'
    ·have:=TT.empty r aa;rw[e',e]at this;cases this;cases d
  have ae:∀{b:Addr}{m:Str->Option bb},s₁.heap.Ns b m->(gJ s₁.heap H).Ns b m:=fun {b m} ⟨o,es,ep,e,d,r⟩=>⟨o,es,ep,ac e (an e d),d,r⟩;have al:K.In (gJ s₁.heap H):=fun b o e=>ac (KX b o e) (by
   cases q:H b with
   |none=>rfl
   |some u=>
    rcases hA b (by rw[q];simp)with e'|⟨r,aa,e'⟩
    ·subst e';rw[hK (by rw[q];simp)]at e;cases e
    ·rw[<- e',TT.off r aa]at e;cases e)
  have hM:Mod K mg (gJ s₁.heap H):=⟨al,ae hns,⟨mb,ae hb,hbb⟩,let ⟨mc,h1,h2⟩:=hlim;⟨mc,ae h1,h2⟩,
   let ⟨bm,ob,b1,b2,b3,b4,b5⟩:=hbm;⟨bm,ob,b1,b2,ac b3 (ak b3 (by rw[b4];decide) (by rw[b4];decide)),b4,b5⟩,
   fun q hq=>let ⟨o,vs,file,tf,flags,tg,inF,text,tt,e1,c1,r⟩:=TT.hd q hq;⟨o,vs,file,tf,flags,tg,inF,text,tt,ac e1 (ak e1 (by rw[c1];decide) (by rw[c1];decide)),c1,r⟩⟩
  have e0:Env0 P w K mg (gJ s₁.heap H) callerA [] s₁ H:=⟨rfl,hM,fun b o e=>Eh e,Nat.le_of_eq (IW _ _),trivial,⟨fun b hb=>absurd (show b∈([]:List Addr)from hb) yv,am⟩,hok,.of_eq hg⟩;refine ml ((F _ al (ae hns)).run callerA [] s₁ H ⟨[.ref a],[]⟩ [.ref a] [.ref a] _ _ hr e0 (hbind s₁ (.ref a)) (.cons rfl .nil) (hsp H hO hS)) fun r s' h=>?_;cases r with
  |error e=>exact(hCX H e s' h).elim
  |ok fl=>
   cases fl with
   |next=>exact fu h
   |brk=>exact fu h
   |cont=>exact fu h
   |ret u=>
    obtain⟨v,H',os,bare,un,af,r',q⟩:=h;have q':v=.bl true:=q;subst q';obtain rfl:u=oj true:=r';have all:∀b o,s₁.heap.get? b=some o->s'.heap.get? b=some o\/∃q∈tabsG,q.1.2=b/\o=W.tabObj #[]/\∃ps,s'.heap.get? b=some (W.tabObj ps):=fun b o e=>by
     cases q:H b with
     |none=>exact .inl (un.keep b o e q (by intro z;exact absurd (show b∈([]:List Addr)from z) yv) yv)
     |some u=>
      rcases hO b with z|⟨ob,xs,z⟩|⟨r,aa,e',z⟩
      ·rw[q]at z;cases z
      ·have z2:=un.frzs b ob _ z;obtain⟨e1,_⟩:=hok b _ z;obtain⟨e2,_⟩:=af b _ z2;rw[e]at e1;cases e1;exact .inl e2
      ·obtain⟨qs,e2,_⟩:=af b _ (un.tbls b _ z);have:=TT.empty r aa;rw[e',e]at this;cases this;exact .inr ⟨r,aa,e',rfl,qs,e2⟩
    refine⟨rfl,⟨fun b o e=>?_,fun b o e=>?_⟩,os,bare⟩
    ·rcases all b o e with z|⟨r,aa,rfl,rfl,ps,z⟩
     ·exact .inl z
     ·exact .inr (.inl ⟨((TT.hd r aa).tab (TT.empty r aa)).isCodeTable,rfl,#[],ps,rfl,by rw[Array.empty_append];exact z⟩)
    ·rcases all b o e with z|⟨r,aa,rfl,rfl,ps,z⟩
     ·exact⟨o,z⟩
     ·exact⟨_,z⟩
 have aj:∀q∈tabsG,q.1.2≠a:=fun q hq z=>by
  have:=TT.empty q hq;rw[z,ha]at this;cases this
 have ah:∀(H:Hp) (b:Addr) (u:HO),dX b=some u->ObjOk P w H s₁.heap b u:=fun H b u z=>by
  obtain⟨q,hq,rfl,rfl⟩:=kN z;exact⟨#[],TT.empty q hq,.inl rfl⟩
 cases hk:K.lookup a with
 |some o=>
  have e:=KX a o hk;rw[ha]at e;cases e;refine ag dX (fun b=>?_) (.inr ⟨_,vs.toArray,_,hk,rfl,rfl,rfl,by rw[cr,ai];exact hl,by simpa using rv⟩) (ah dX) (fun b z=>?_) (fun z=>?_) fun q hq=>AG TT.nd hq
  ·cases q:dX b with
   |none=>exact .inl rfl
   |some u=>obtain⟨r,aa,e',rfl⟩:=kN q;exact .inr (.inr ⟨r,aa,e',rfl⟩)
  ·cases q:dX b with
   |none=>exact absurd q z
   |some u=>obtain⟨r,aa,e',_⟩:=kN q;exact .inr ⟨r,aa,e'⟩
  ·cases q:dX a with
   |none=>exact absurd q z
   |some u=>obtain⟨r,aa,e',_⟩:=kN q;exact absurd e' (aj r aa)
 |none=>
  refine ag (fun b=>if b=a then some (.frz { cls:=.type "list",data:=.seq vs.toArray } (.lst (ns.map V.int)))else dX b) (fun b=>?_) (.inl (.inr ⟨{ cls:=.type "list",data:=.seq vs.toArray },cy rfl⟩)) (fun b u z=>?_) (fun b z=>?_) (fun _=>hk) fun q hq=>(bv (aj q hq)).trans (AG TT.nd hq)
  ·by_cases hb:b=a
   ·exact .inr (.inl ⟨_,_,cy hb⟩)
   ·cases q:dX b with
    |none=>exact .inl ((bv hb).trans q)
    |some u=>obtain⟨r,aa,e',rfl⟩:=kN q;exact .inr (.inr ⟨r,aa,e',(bv hb).trans q⟩)
  ·by_cases hb:b=a
   ·have z':=(cy hb).symm.trans z;cases z';subst hb;exact⟨ha,by rw[cg];exact hl,vs,_,rv,ha⟩
   ·have z':=(bv hb).symm.trans z;exact ah _ b u z'
  ·by_cases hb:b=a
   ·exact .inl hb
   ·cases q:dX b with
    |none=>exact absurd ((bv hb).trans q) z
    |some u=>obtain⟨r,aa,e',_⟩:=kN q;exact .inr ⟨r,aa,e'⟩
end
section
abbrev KOf {K:bj}{h:Heap} (_:K.In h):bj:=K
theorem walk_of{l:W.OpenLaw}{n k:Nat}{q:bz}{ac:List Str}{XP:(Str->Option bb)->Heap->Prop}{YP:dh->Heap->Prop}{d:DefRec}{K:Params->bj}{CX:dh->CXT}{sp:dh->Sp}{x:Str}
  (hn:l.most=some n) (hn2:n<=br) (hdf:d.params.defaults=[]) (hr:Room k callerA)
  (hY:∀(w:dh) (h:Heap),YP w h->(K w.params).In h)
  (hT:∀(w:dh) (h:Heap),YP w h->TabsOk (K w.params) h)
  (F:∀(w:dh) (mg:Str->Option bb) (fa:Addr) (h:Heap),(K w.params).In h->h.Ns ix mg->mg d.name=some (.ref fa) ->
   ∃fd:jm,(∀(s:be) (u:bb),BindsTo s fd ⟨[u],[]⟩ [(x,u)]) /\
    ∀base:Heap,(K w.params).In base->base.Ns ix mg->FnOk l.prog w (K w.params) mg base (CX w) k fa fd [x] (sp w))
  (hsp:∀(w:dh) (H:Hp) (a:Addr) (ns:List Int),ns.length<=n->Only H->SqL (K w.params) H a (ns.map V.int)->sp w [.ref a] H (fun v _=>v=.bl true) fun _ _ _=>False)
  (hCX:∀(w:dh) (H:Hp) (s:be) (e:bb) (s':be),CX w [] H s (fun _ _ _=>False) e s'->False):
  W.WalkO q ac XP YP l.row.toRowW d [] (fun f vs=>PySem.call f vs):=by
 refine Att.attach_call hn hdf fun w s₀ s₁ mg mb fa o pm cd ag a vs ns G Y ho hd ah af ae aa z hg=>?_;have KX:=hY w _ Y;obtain⟨fd,hb,hF⟩:=F w mg fa _ KX G.T.g af;exact GU KX (hT w _ Y) (let ⟨bm,ob,a1,a2,a3,a4,a5,a6⟩:=G.T.bmain;⟨bm,ob,a1,a2,a3,a4,a5,a6⟩) G.T.g G.T.b G.T.builtins G.T.nolimit hg ae aa (ip z hn2) hr hF hb (fun H hO hS=>hsp w H a ns z hO hS) fun H e s'=>hCX w H s₁ e s'
end
section
def J5(s:Stmt)(j:Nat):Stmt:=match s with
 | .ClassDef _ _ _ body _ _ _ _ _ _ _=>body.getD j (.Pass ⟨0,0,0,0⟩)
 |_=>.Pass ⟨0,0,0,0⟩
def gL(s:Stmt):Arguments:=match s with
 | .FunctionDef _ a _ _ _ _ _ _ _ _=>a
 |_=>{ posonlyargs:=[],args:=[],vararg:=none,kwonlyargs:=[],kw_defaults:=[],kwarg:=none,defaults:=[] }
def cL(s:Stmt):List Stmt:=match s with
 | .FunctionDef _ _ b _ _ _ _ _ _ _=>b
 |_=>[]
def zh(s:Stmt):Scope:=match s with
 | .FunctionDef _ _ _ _ _ _ sc _ _ _=>sc
 |_=>{ kind:=.function,names:=[],isGenerator:=false,isCoroutine:=false }
abbrev CX0:CXT:=fun _ _ _ _ _ _=>False
abbrev E0:XK:=fun _ _ _=>False
theorem pass0{X:Cx}:Passes CX0 X E0:=fun _ _ _ _ _ _ _ h=>h.elim
structure Fun(K:bj)(x qual:Str)(st:Stmt)(f:Addr)(fd:jm):Prop where
 ex:∃(oc:bb) (od:Option Addr) (kV doc pm:bb) (an:Option Addr) (cdv ct:bb) (osl:Array (Option bb)),
  fd=W.fnOf x qual (gL st) (cL st) (zh st) .none kV doc pm an cdv ct/\K.lookup f=some ⟨oc,od,.func fd,osl⟩/\W.codeIn K cdv qual=true
 kp:mf K (.ref f)=true
section
variable {P:bz}{w:dh}{K:bj}{mg:Str->Option bb}{base:Heap}
theorem Fun.ok{x qual:Str}{st:Stmt}{f:Addr}{fd:jm}{N ps:List Str}{k:Nat}{sp:Sp}(F:Fun K x qual st f fd)(S:FnScope N ps (zh st))(len:∀vs H Q E,sp vs H Q E->vs.length=ps.length)
  (hbody:∀(z:bb) (A:cz) (outer:List Env) (s:be) (H:Hp) (vs:List V) (Q:VK) (E:XK),Room k (A.deeper (ij qual (zh st) s.heap.objs.size f z))->sp vs H Q E ->
   ∃t,PSs (cE CX0 P w K mg base N qual (zh st) f z A outer s H E).nox (cL st) t/\t { nx:=fun _ H'=>Q .non H',rt:=Q } (start N vs) H):FnOk P w K mg base CX0 (k+1) f fd ps sp:=by
 obtain⟨oc,od,kV,af,pm,an,z,ct,ae,rfl,lk,ac⟩:=F.ex;refine AN lk ac S len fun A outer s H vs Q E hr aa=>?_;obtain⟨t,h,q⟩:=hbody z A outer s H vs Q E hr aa;exact⟨t,h.nox,q⟩
theorem Fun.binds{x qual:Str}{st:Stmt}{f:Addr}{fd:jm}{ps:List Str}(F:Fun K x qual st f fd)
  (h:∀(kV aa pm:bb) (an:Option Addr) (z ct:bb) (us:List bb),us.length=ps.length->bindArgs (W.fnOf x qual (gL st) (cL st) (zh st) .none kV aa pm an z ct) ⟨us,[]⟩=pure (ps.zip us)):Binds K fd ps []:=by
 obtain⟨oc,od,kV,aa,pm,an,z,ct,ac,rfl,lk,ae⟩:=F.ex;exact .all (h kV aa pm an z ct)
theorem rK{x qual:Str}{st:Stmt}{f:Addr}{oc:bb}{od an:Option Addr}{ac:Array (Option bb)}{kV aa pm z ct:bb}(l:K.lookup f=some ⟨oc,od,.func (W.fnOf x qual (gL st) (cL st) (zh st) .none kV aa pm an z ct),ac⟩)
  (c:W.codeIn K z qual=true) (k:mf K (.ref f)=true):Fun K x qual st f (W.fnOf x qual (gL st) (cL st) (zh st) .none kV aa pm an z ct):=⟨⟨oc,od,kV,aa,pm,an,z,ct,ac,rfl,l,c⟩,k⟩
end
theorem vH{A:cz}{k:Nat}(hr:Room k A):A.units+1<gz:=Nat.lt_of_le_of_lt (Nat.add_le_add_left (by decide:1<=64) _) hr.units
theorem small1000{n:Nat}(h:n<=1000):n<br:=Nat.lt_of_le_of_lt h dz
section
variable {X:Cx}
theorem pv(i:Nat){x:Str}{pos:Pos}(hN:X.N[i]?=some x:=by rfl)(hv:Vis X.env.scope x:=by first|exact fq rfl|exact ng (fq rfl)|exact ng (ng rfl))(hd:(x==("__debug__":Str))=false:=by decide)
  (hcd:(x==("__classdict__":Str))=false:=by decide):PE X (.Name x pos) (cO i):=Jz hN hv hd hcd
end
theorem eI{A B:Prop}(h:B):if false=true then A else B:=by
 rw[bv gc];exact h
theorem eT{A B:Prop}(h:A):if true=true then A else B:=by
 rw[cy rfl];exact h
theorem ite2{c A B:Prop}[Decidable c](h1:c->A)(h2:¬ c->B):if c then A else B:=by
 by_cases h:c
 ·rw[cy h];exact h1 h
 ·rw[bv h];exact h2 h
def Same(H H':Hp):Prop:=∀b o,H b=some o->H' b=some o
theorem Same.refl(H:Hp):Same H H:=fun _ _ h=>h
theorem Same.trans{H H1 H2:Hp}(a:Same H H1)(b:Same H1 H2):Same H H2:=fun c o h=>b c o (a c o h)
theorem Same.seq{K:bj}{H H':Hp}{a:Addr}{xs:List V}(e:Same H H')(h:SqL K H a xs):SqL K H' a xs:=by
 rcases h with (h|⟨o,h⟩)|h
 ·exact .inl (.inl (e _ _ h))
 ·exact .inl (.inr ⟨o,e _ _ h⟩)
 ·exact .inr h
end
section
section
variable {X:Cx}
def CDivX(i j:Int):Prop:=0<j/\j.natAbs.log2<9000
theorem Gp:OpR X (jf .FloorDiv) (rI CDivX fun i j=>.int (i/j)):=opI fun i j _ _ _ _ _ hc q=>by
 have h1:(0:Int)<j:=hc.1;exact floordiv_int yw (by rw[Int.fdiv_eq_ediv_of_nonneg i yw];exact q) (.inl (PyProof.noPylong_of_log2 hc.2))
theorem F6:OpR X (jf .Mult) (rI IntMulOk fun i j=>.int (i*j)):=opI fun _ _ _ _ _ _ _ hc q=>mul_int q hc
theorem CU{k:Int}{n:Nat}(h:k.natAbs<2 ^ n):Builtin.Int.intBits k<=n:=by
 unfold Builtin.Int.intBits;split
 ·exact mj _
 ·rename_i h0;have hk:k.natAbs≠0:=by
   intro z;apply h0;rw[Int.natAbs_eq_zero.mp z];rfl
  have:=(Nat.log2_lt hk).mpr h;omega
theorem Fe{i j:Int}(n m:Nat)(hi:i.natAbs<2 ^ n)(hj:j.natAbs<2 ^ m)(hn:n<=2 ^ 20:=by decide)(hm:m<=2 ^ 20:=by decide):IntMulOk i j:=
 .of_bits (ip (CU hi) hn) (ip (CU hj) hm)
theorem dS{i j:Int}(h1:-(2 ^ 64)<i)(h2:i<2 ^ 64):IntMulOk i j:=.of_left (intBits_le_64 h1 h2)
theorem rG{n:Int}{k:Nat}(h0:0<n)(h:n<2 ^ k):n.natAbs.log2<k:=by
 refine(Nat.log2_lt yw).mpr ?_;have e:((2 ^ k:Nat):Int)=(2:Int) ^ k:=by simp
 omega
end
def kD:Key->bd
 | .inl i=>.int i
 | .inr x=>.str x
def DOf(H:Hp)(a:Addr)(ks:List bd)(vs:List V):Prop:=
 (∃(ob:Obj) (m:List (Key×V)),H a=some (.frz ob (.dK m))/\ks=m.map (fun p=>kD p.1)/\vs=m.map (·.2)) \/
 ∃(ob:Obj) (p:List Key×V) (m:List (List Key×V)),H a=some (.frz ob (.dT (p::m)))/\ks=(p::m).map (fun p=>.tuple (p.1.map kD))/\vs=(p::m).map (·.2)
mutual
def Has(H:Hp):bd->V->Prop
 | .none,v=>v=.non
 | .bool b,v=>v=.bl b
 | .int i,v=>v=.int i
 | .str x,v=>v=.str x
 | .list ds,v=>∃a vs,v=.ref a/\H a=some (.lst vs)/\HasL H ds vs
 | .tuple ds,v=>∃a vs,v=.ref a/\H a=some (.tup vs)/\HasL H ds vs
 | .dict kvs,v=>∃a vs,v=.ref a/\DOf H a (kvs.map (·.1)) vs/\HasV H kvs vs
def HasL(H:Hp):List bd->List V->Prop
 | [],vs=>vs=[]
 |d::ds,vs=>∃v r,vs=v::r/\Has H d v/\HasL H ds r
def HasV(H:Hp):List (bd×bd)->List V->Prop
 | [],vs=>vs=[]
 |p::ps,vs=>∃v r,vs=v::r/\HasP H p v/\HasV H ps r
def HasP(H:Hp):bd×bd->V->Prop
 | (_,d),v=>Has H d v
end
mutual
theorem Has.mono{H H':Hp}(s:Same H H'):∀(d:bd) (v:V),Has H d v->Has H' d v
 | .none,_,h=>by simp only[Has]at h ⊢;exact h
 | .bool _,_,h=>by simp only[Has]at h ⊢;exact h
 | .int _,_,h=>by simp only[Has]at h ⊢;exact h
 | .str _,_,h=>by simp only[Has]at h ⊢;exact h
 | .list ds,v,h=>by
  simp only[Has]at h ⊢;obtain⟨a,vs,e,q,l⟩:=h;exact⟨a,vs,e,s _ _ q,HasL.mono s ds vs l⟩
 | .tuple ds,v,h=>by
  simp only[Has]at h ⊢;obtain⟨a,vs,e,q,l⟩:=h;exact⟨a,vs,e,s _ _ q,HasL.mono s ds vs l⟩
 | .dict kvs,v,h=>by
  simp only[Has]at h ⊢;obtain⟨a,vs,e,q,l⟩:=h;refine⟨a,vs,e,?_,HasV.mono s kvs vs l⟩;rcases q with ⟨ob,m,e1,e2⟩|⟨ob,p,m,e1,e2⟩
  ·exact .inl ⟨ob,m,s _ _ e1,e2⟩
  ·exact .inr ⟨ob,p,m,s _ _ e1,e2⟩
theorem HasL.mono{H H':Hp}(s:Same H H'):∀(ds:List bd) (vs:List V),HasL H ds vs->HasL H' ds vs
 | [],_,h=>by simp only[HasL]at h ⊢;exact h
 |d::ds,vs,h=>by
  simp only[HasL]at h ⊢;obtain⟨v,r,e,q,l⟩:=h;exact⟨v,r,e,Has.mono s d v q,HasL.mono s ds r l⟩
theorem HasV.mono{H H':Hp}(s:Same H H'):∀(ds:List (bd×bd)) (vs:List V),HasV H ds vs->HasV H' ds vs
 | [],_,h=>by simp only[HasV]at h ⊢;exact h
 |d::ds,vs,h=>by
  simp only[HasV]at h ⊢;obtain⟨v,r,e,q,l⟩:=h;exact⟨v,r,e,HasP.mono s d v q,HasV.mono s ds r l⟩
theorem HasP.mono{H H':Hp}(s:Same H H'):∀(p:bd×bd) (v:V),HasP H p v->HasP H' p v
 | (_,d),v,h=>by
  simp only[HasP]at h ⊢;exact Has.mono s d v h
end
section
variable {H:Hp}{v:V}
theorem gT:Has H .none v↔v=.non:=by simp only[Has]
theorem gM{b:Bool}:Has H (.bool b) v↔v=.bl b:=by simp only[Has]
theorem d9{i:Int}:Has H (.int i) v↔v=.int i:=by simp only[Has]
theorem fX{x:Str}:Has H (.str x) v↔v=.str x:=by simp only[Has]
theorem cU{ds:List bd}:Has H (.list ds) v↔∃a vs,v=.ref a/\H a=some (.lst vs)/\HasL H ds vs:=by simp only[Has]
theorem zW{ds:List bd}:Has H (.tuple ds) v↔∃a vs,v=.ref a/\H a=some (.tup vs)/\HasL H ds vs:=by simp only[Has]
theorem tG{z:List (bd×bd)}:Has H (.dict z) v↔∃a vs,v=.ref a/\DOf H a (z.map (·.1)) vs/\HasV H z vs:=by simp only[Has]
theorem JQ{vs:List V}:HasV H [] vs↔vs=[]:=by simp only[HasV]
theorem Cu{p:bd×bd}{ds:List (bd×bd)}{vs:List V}:HasV H (p::ds) vs↔∃v r,vs=v::r/\Has H p.2 v/\HasV H ds r:=by
 obtain⟨k,d⟩:=p;simp only[HasV,HasP]
theorem zv{vs:List V}:HasL H [] vs↔vs=[]:=by simp only[HasL]
theorem zn{d:bd}{ds:List bd}{vs:List V}:HasL H (d::ds) vs↔∃v r,vs=v::r/\Has H d v/\HasL H ds r:=by simp only[HasL]
theorem HasL.length:∀{ds:List bd}{vs:List V},HasL H ds vs->vs.length=ds.length
 | [],_,h=>by rw[zv.mp h];rfl
 |d::ds,vs,h=>by
  obtain⟨v,r,e,_,l⟩:=zn.mp h;rw[e,cn,cn,HasL.length l]
theorem HasL.get:∀{ds:List bd}{vs:List V}{i:Nat}{d:bd},HasL H ds vs->ds[i]?=some d->∃v,vs[i]?=some v/\Has H d v
 | [],_,_,_,_,e=>by simp at e
 |c::ds,vs,0,d,h,e=>by
  obtain⟨v,r,rfl,q,_⟩:=zn.mp h;simp at e;subst e;exact⟨v,rfl,q⟩
 |c::ds,vs,i+1,d,h,e=>by
  obtain⟨v,r,rfl,_,l⟩:=zn.mp h;obtain⟨u,e1,e2⟩:=HasL.get (i:=i) (d:=d) l (by simpa using e);exact⟨u,by simpa using e1,e2⟩
theorem HasL.append:∀{ds es:List bd}{vs us:List V},HasL H ds vs->HasL H es us->HasL H (ds++es) (vs++us)
 | [],es,vs,us,h,h'=>by rw[zv.mp h];exact h'
 |d::ds,es,vs,us,h,h'=>by
  obtain⟨v,r,rfl,q,l⟩:=zn.mp h;exact zn.mpr ⟨v,r++us,rfl,q,HasL.append l h'⟩
theorem vT:∀(ns:List Int),HasL H (ns.map .int) (ns.map V.int)
 | []=>zv.mpr rfl
 |n::ns=>zn.mpr ⟨_,_,rfl,d9.mpr rfl,vT ns⟩
end
def tyD:bd->String
 | .none=>"NoneType" | .bool _=>"bool" | .int _=>"int" | .str _=>"str" | .list _=>"list" | .tuple _=>"tuple" | .dict _=>"dict"
theorem Has.ty{K:bj}{H:Hp}{d:bd}{v:V}(h:Has H d v):TyOf K H v (.type (tyD d)):=by
 cases d with
 |none=>rw[gT.mp h];exact .non
 |bool b=>rw[gM.mp h];exact .bl b
 |int i=>rw[d9.mp h];exact .int i
 |str x=>rw[fX.mp h];exact .str x
 |list ds=>obtain⟨a,vs,rfl,e,_⟩:=cU.mp h;exact .lst e
 |tuple ds=>obtain⟨a,vs,rfl,e,_⟩:=zW.mp h;exact .tup e
 |dict kvs=>
  obtain⟨a,vs,rfl,e,_⟩:=tG.mp h;rcases e with ⟨ob,m,e,_⟩|⟨ob,p,m,e,_⟩
  ·exact .dK (.inr ⟨ob,e⟩)
  ·exact .dT (.inr ⟨ob,e⟩)
def sQ:List String:=["NoneType","bool","int","str","list","tuple","dict"]
def gA:List String:=["int","bool","str","list","tuple","dict"]
def fF(t c:String):Bool:=t==c||(t == "bool" && c == "int")
def iY(d:bd)(c:String):Bool:=fF (tyD d) c
theorem EO(d:bd):tyD d∈sQ:=by cases d<;>simp[tyD,sQ]
theorem K5(K:bj){t c:String}(ht:t∈sQ)(hc:c∈gA):W.kitOne K (.type t) (.type c)=some (fF t c):=by
 simp only[sQ,gA,gj,fj,or_false]at ht hc;rcases ht with rfl|rfl|rfl|rfl|rfl|rfl|rfl<;>rcases hc with rfl|rfl|rfl|rfl|rfl|rfl<;>rfl
def wX:List V->Hp->VK->Prop
 | [x,.ty c],H,Q=>∃d,Has H d x/\c∈gA/\Q (.bl (iY d c)) H
 |_,_,_=>False
theorem Gi{H:Hp}{d:bd}{x:V}{c:String}{Q:VK}(h:Has H d x)(hc:c∈gA)(q:Q (.bl (iY d c)) H):wX [x,.ty c] H Q:=⟨d,h,hc,q⟩
section
variable {X:Cx}
theorem fB:CallR X (.builtin "isinstance") wX:=by
 intro zf s σ H xs us Q I r h
 match xs,h with
 | [x,.ty c],h=>
  obtain⟨d,hx,hc,q⟩:=h;obtain⟨u,w',rfl,ru,z⟩:=vals2 r;cases (show w'=nv c from z);exact Ja I ru hx.ty (K5 X.K (EO d) hc) fun tk=>⟨.bl _,H,I.tok tk,rfl,q⟩
end
def sp1(p:V->Hp->VK->Prop):Sp:=fun vs H Q _=>match vs with | [x]=>p x H Q|_=>False
def sp2(p:V->V->Hp->VK->Prop):Sp:=fun vs H Q _=>match vs with | [x,y]=>p x y H Q|_=>False
theorem A9{p:V->Hp->VK->Prop}:∀(vs:List V) (H:Hp) (Q:VK) (E:XK),sp1 p vs H Q E->∃x,vs=[x]/\p x H Q:=by
 intro vs H Q E h
 match vs,h with
 | [x],h=>exact⟨x,rfl,h⟩
theorem yC{p:V->V->Hp->VK->Prop}:∀(vs:List V) (H:Hp) (Q:VK) (E:XK),sp2 p vs H Q E->∃x y,vs=[x,y]/\p x y H Q:=by
 intro vs H Q E h
 match vs,h with
 | [x,y],h=>exact⟨x,y,rfl,h⟩
structure Dd(K:bj)(mg:Str->Option bb)(x:Str)(st:Stmt)(ps:List Str):Prop where
 ex:∃f fd,Fun K x x st f fd/\mg x=some (.ref f)/\Binds K fd ps []
structure Df(P:bz)(w:dh)(K:bj)(mg:Str->Option bb)(base:Heap)(x:Str)(ps:List Str)(k:Nat)(sp:Sp):Prop where
 ex:∃f fd,FnOk P w K mg base CX0 k f fd ps sp/\mg x=some (.ref f)/\mf K (.ref f)=true/\Binds K fd ps []
section
variable {P:bz}{w:dh}{K:bj}{mg:Str->Option bb}{base:Heap}{x a b c d e:Str}{st:Stmt}{N:List Str}{k:Nat}
theorem Df.of{ps:List Str}{sp:Sp}(D:Dd K mg x st ps)(S:FnScope N ps (zh st))(len:∀vs H Q E,sp vs H Q E->vs.length=ps.length)
  (hbody:∀(f:Addr) (cdv:bb) (A:cz) (outer:List Env) (s:be) (H:Hp) (vs:List V) (Q:VK) (E:XK),Room k (A.deeper (ij x (zh st) s.heap.objs.size f cdv))->sp vs H Q E ->
   ∃t,PSs (cE CX0 P w K mg base N x (zh st) f cdv A outer s H E).nox (cL st) t/\t { nx:=fun _ H'=>Q .non H',rt:=Q } (start N vs) H):Df P w K mg base x ps (k+1) sp:=by
 obtain⟨f,fd,F,hm,hb⟩:=D.ex;exact⟨f,fd,F.ok S len (hbody f),hm,F.kp,hb⟩
theorem Df.of2{p:V->V->Hp->VK->Prop}(D:Dd K mg x st [a,b])(S:FnScope N [a,b] (zh st))(σ0:V->V->St)(hs:∀v u,start N [v,u]=σ0 v u)
  (hbody:∀(f:Addr) (z:bb) (A:cz) (outer:List Env) (s:be) (H:Hp) (v u:V) (Q:VK) (E:XK),Room k (A.deeper (ij x (zh st) s.heap.objs.size f z))->p v u H Q ->
   ∃t,PSs (cE CX0 P w K mg base N x (zh st) f z A outer s H E).nox (cL st) t/\t { nx:=fun _ H'=>Q .non H',rt:=Q } (σ0 v u) H):Df P w K mg base x [a,b] (k+1) (sp2 p):=by
 refine Df.of D S (fun vs H Q E h=>?_) fun f z A outer s H vs Q E hr h=>?_
 ·obtain⟨x,y,rfl,_⟩:=yC vs H Q E h;rfl
 ·obtain⟨x,y,rfl,h⟩:=yC vs H Q E h;rw[hs];exact hbody f z A outer s H x y Q E hr h
end
def tC2(p:V->V->Hp->VK->Prop)(ta tb:TE):TE:=fun σ H Q=>ta σ H fun x H1=>tb σ H1 fun y H2=>p x y H2 Q
section
variable {X:Cx}{x a b c d e':Str}{k j:Nat}{pos pos':Pos}{e1 e2 e3 e4 e5:Expr}{t1 t2 t3 t4 t5:TE}
theorem J1{p:V->V->Hp->VK->Prop}(D:Df X.prog X.w X.K X.mg X.base x [a,b] k (sp2 p))(hr:Room j X.A)(hk:k<=j)(h1:PE X e1 t1)(h2:PE X e2 t2)(hg:Gl X x:=by rfl)(z:(x==("__debug__":Str))=false:=by decide)
  (q1:cp [e1,e2] X.env=(false,eval e1 X.env)::cp [e2] X.env:=by rfl) (q2:cp [e2] X.env=(false,eval e2 X.env)::cp [] X.env:=by rfl)
  (hpl:(kx pos (cp [e2] X.env)).any (·.1)=false:=by rfl):PE X (.Call (.Name x pos') [e1,e2] [] pos) (tC2 p t1 t2):=by
 obtain⟨f,fd,F,hm,kp,hb⟩:=D.ex;intro zf s σ H Q I h;exact wW (dvs:=[]) (ds:=[]) (E:=E0) F (hr.mono hk) hg hm kp hb .nil pass0 (za h1 (za h2 zd q2) q1) z q1 hpl zf s σ H Q I h
end
theorem Dd.mk'{K:bj}{h:Heap}{mg:Str->Option bb}(X:K.In h)(G:h.Ns ix mg){x:Str}{st:Stmt}{ps:List Str}{f:Addr}{oc:bb}{od an:Option Addr}{ac:Array (Option bb)}{kV aa pm z ct:bb}
  (a:W.nsIn K ix x=some (some (.ref f))) (l:K.lookup f=some ⟨oc,od,.func (W.fnOf x x (gL st) (cL st) (zh st) .none kV aa pm an z ct),ac⟩)
  (c:W.codeIn K z x=true) (k:mf K (.ref f)=true)
  (hb:∀(kV aa pm:bb) (an:Option Addr) (z ct:bb) (us:List bb),us.length=ps.length->bindArgs (W.fnOf x x (gL st) (cL st) (zh st) .none kV aa pm an z ct) ⟨us,[]⟩=pure (ps.zip us)):Dd K mg x st ps:=
 ⟨f,_,rK (st:=st) l c k,mz X G a,(rK (st:=st) l c k).binds hb⟩
theorem cS:fy "len" = some (.builtin "len"):=by decide +kernel
theorem zp:fy "isinstance" = some (.builtin "isinstance"):=by decide +kernel
theorem DB:fy "max" = some (.builtin "max"):=by decide +kernel
theorem FA:fy "min" = some (.builtin "min"):=by decide +kernel
theorem tK:fy "int" = some (.type "int"):=by decide +kernel
theorem tE:fy "bool" = some (.type "bool"):=by decide +kernel
theorem Fv:fy "list" = some (.type "list"):=by decide +kernel
theorem fL:fy "tuple" = some (.type "tuple"):=by decide +kernel
section
variable {H:Hp}{Q:VK}
theorem Gn{i:Nat}{σ:St}:cO i σ H Q↔match σ[i]? with|some (some v)=>Q v H|_=>False:=by
 unfold cO;constructor
 ·rintro⟨v,e,q⟩;rw[e];exact q
 ·intro h;split at h
  ·rename_i v e;exact⟨v,e,h⟩
  ·exact h.elim
theorem C7{g:Int->Int->V}{i j:Int}:rI0 g (.int i) (.int j) H Q↔Q (g i j) H:=
 ⟨fun⟨_,_,e1,e2,q⟩=>by cases e1;cases e2;exact q,fun q=>⟨i,j,rfl,rfl,q⟩⟩
theorem Jl{p:Bool->Prop}{b:Bool}:(∃c,V.bl b=V.bl c/\p c)↔p b:=⟨fun⟨_,e,q⟩=>by cases e;exact q,fun q=>⟨b,rfl,q⟩⟩
end
section
variable {K:bj}{H:Hp}{Q:VK}{x y:V}{d:bd}{ds:List bd}
def uR(K:bj):List V->Hp->VK->Prop:=fun xs H Q=>∃p ys,xs=[.ref p]/\(SqL K H p ys\/SqT K H p ys)/\Q (.int ys.length) H
end
section
variable {X:Cx}
theorem IR:CallR X (.builtin "len") (uR X.K):=Db
end
def hid(a:Addr)(H:Hp):Hp:=fun b=>if b=a then none else H b
theorem Gb{a b:Addr}{H:Hp}(h:b≠a):hid a H b=H b:=bv h
theorem GO{a:Addr}{H:Hp}:hid a H a=none:=cy rfl
theorem Same.laid{H:Hp}{p:Addr}{o:HO}(h:H p=none):Same H (upd H p o):=fun b u e=>by
 rw[zE (zG e h)];exact e
section
variable {X:Cx}{zf:List (Addr×Obj)}{σ:St}{H:Hp}{s:be}{a:Addr}{m:List (Key×V)}
def GZ(i:Nat)(t:TS):TS:=fun D σ H=>t { D with nx:=fun σ' H'=>∃a m,σ'[i]?=some (some (.ref a))/\H' a=some (.dK m)/\∀ob,D.nx σ' (upd H' a (.frz ob (.dK m))) } σ H
end
end
section
theorem nL(d:bd):iY d "int" = match d with | .int _=>true | .bool _=>true|_=>false:=by cases d<;>first|rfl|(show fF _ _=_;simp[fF,tyD])
theorem lP(d:bd):iY d "bool" = match d with | .bool _=>true|_=>false:=by cases d<;>first|rfl|(show fF _ _=_;simp[fF,tyD])
theorem n5(d:bd):iY d "tuple" = match d with | .tuple _=>true|_=>false:=by cases d<;>first|rfl|(show fF _ _=_;simp[fF,tyD])
theorem pV(d:bd):iY d "list" = match d with | .list _=>true|_=>false:=by cases d<;>first|rfl|(show fF _ _=_;simp[fF,tyD])
def vw:List Addr->Hp->Hp
 | [],H=>H
 |a::r,H=>hid a (vw r H)
def vB(K:bj):V->V->Hp->VK->Prop:=fun x y H Q=>∃(a:Addr) (ns:List Int) (i:Int),x=.ref a/\y=.int i/\SqL K H a (ns.map V.int)/\0<=i/\∀n,Q (.int n) H
theorem Ed{ns:List Int}{i:Int}(h0:0<=i)(h1:i<((ns.map V.int).length:Int)):∃n,atI (ns.map V.int) i=some (.int n):=by
 obtain⟨k,rfl⟩:=gw h0;have hk:k<ns.length:=by rw[cg]at h1;omega
 exact⟨ns[k],gN (by rw[gi,bq hk];rfl)⟩
theorem JH{ns:List Int}{lo hi:Option Int}{x:V}(h:x∈dY (ns.map V.int) lo hi):∃n,x=.int n:=by
 have h1:=List.mem_of_mem_drop (List.mem_of_mem_take h);obtain⟨n,_,e⟩:=mem_map.mp h1;exact⟨n,e.symm⟩
theorem Fun.bind1{K:bj}{x a:Str}{st:Stmt}{f:Addr}{fd:jm}(F:Fun K x x st f fd)
  (h:∀(kV aa pm:bb) (an:Option Addr) (z ct:bb) (u:bb),bindArgs (W.fnOf x x (gL st) (cL st) (zh st) .none kV aa pm an z ct) ⟨[u],[]⟩=pure [(a,u)]):∀(s:be) (u:bb),BindsTo s fd ⟨[u],[]⟩ [(a,u)]:=by
 obtain⟨oc,od,kV,aa,pm,an,z,ct,ac,rfl,lk,ae⟩:=F.ex;exact fun s u=>.of_eq (h kV aa pm an z ct u)
def wI(K:bj):V->Hp->VK->Prop:=fun x H Q=>∃(a:Addr) (ns:List Int),x=.ref a/\SqL K H a (ns.map V.int)/\ns.length<=63/\∀H',Q (.bl true) H'
theorem walk_law{l:W.OpenLaw}{k:Nat}{q:bz}{aa:List Str}{XP:(Str->Option bb)->Heap->Prop}{YP:dh->Heap->Prop}{d:DefRec}{K:Params->bj}(hn:l.most=some 63)(ac:d.params.defaults=[])
  (hr:Room k callerA) (hY:∀(w:dh) (h:Heap),YP w h->(K w.params).In h) (hT:∀(w:dh) (h:Heap),YP w h->TabsOk (K w.params) h)
  (F:∀(w:dh) (mg:Str->Option bb) (fa:Addr) (h:Heap),(K w.params).In h->h.Ns ix mg->mg d.name=some (.ref fa) ->
   ∃fd:jm,(∀(s:be) (u:bb),BindsTo s fd ⟨[u],[]⟩ [("script",u)])/\∀base:Heap,(K w.params).In base->base.Ns ix mg->FnOk l.prog w (K w.params) mg base CX0 k fa fd ["script"] (sp1 (wI (K w.params)))):
  W.WalkO q aa XP YP l.row.toRowW d [] (fun f vs=>PySem.call f vs):=
 L2.walk_of (n:=63) (k:=k) (x:="script") (CX:=fun _=>CX0) (sp:=fun w=>sp1 (wI (K w.params))) hn dz ac hr hY hT F (fun _ _ a ns hl _ hS=>⟨a,ns,rfl,hS,hl,fun _=>rfl⟩) fun _ _ _ _ _ z=>z
theorem Fun.ok1{P:bz}{w:dh}{K:bj}{mg:Str->Option bb}{base:Heap}{x a:Str}{st:Stmt}{f:Addr}{fd:jm}{N:List Str}{k:Nat}{p:V->Hp->VK->Prop}(F:Fun K x x st f fd)(S:FnScope N [a] (zh st))(σ0:V->St)(hs:∀v,start N [v]=σ0 v)
  (hbody:∀(z:bb) (A:cz) (outer:List Env) (s:be) (H:Hp) (v:V) (Q:VK) (E:XK),Room k (A.deeper (ij x (zh st) s.heap.objs.size f z))->p v H Q ->
   ∃t,PSs (cE CX0 P w K mg base N x (zh st) f z A outer s H E).nox (cL st) t/\t { nx:=fun _ H'=>Q .non H',rt:=Q } (σ0 v) H):FnOk P w K mg base CX0 (k+1) f fd [a] (sp1 p):=by
 refine F.ok S (fun vs H Q E h=>?_) fun z A outer s H vs Q E hr h=>?_
 ·obtain⟨x,rfl,_⟩:=A9 vs H Q E h;rfl
 ·obtain⟨x,rfl,h⟩:=A9 vs H Q E h;rw[hs];exact hbody z A outer s H x Q E hr h
end
section
mutual
theorem Has.reads{X:Cx}{zf:List (Addr×Obj)}{σ:St}{H:Hp}{s:be}(I:Inv X zf σ H s):∀(d:bd) (v:V) (u:bb),Has H d v->d.canLay0=true->RelV v u->∃as,Reads s.heap u d as
 | .none,v,u,h,_,r=>by
  rw[gT.mp h]at r;cases (show u=gh from r);exact⟨_,.none⟩
 | .bool b,v,u,h,_,r=>by
  rw[gM.mp h]at r;cases (show u=oj b from r);exact⟨_,.bool b⟩
 | .int i,v,u,h,_,r=>by
  rw[d9.mp h]at r;obtain⟨t,q⟩:=(show ∃t,u=Value.int i t from r);cases q;exact⟨_,.int i t⟩
 | .str x,v,u,h,_,r=>by
  rw[fX.mp h]at r;obtain⟨t,q⟩:=(show ∃t,u=Value.str x t from r);cases q;exact⟨_,.str x t⟩
 | .list ds,v,u,h,c,r=>by
  obtain⟨a,vs,rfl,e,l⟩:=cU.mp h;cases (show u=bu a from r);obtain⟨_,z,n,rv,e1⟩:=(show ObjOk X.prog X.w H s.heap a (.lst vs)from I.hok a _ e);obtain⟨as,q⟩:=HasL.reads I ds vs z l (by simpa only[iq]using c) rv;exact⟨_,.list e1 rfl rfl (by simpa using q)⟩
 | .tuple ds,v,u,h,c,r=>by
  obtain⟨a,vs,rfl,e,l⟩:=zW.mp h;cases (show u=bu a from r);obtain⟨_,z,rv,o,e1,e2,n,e3⟩:=(show ObjOk X.prog X.w H s.heap a (.tup vs)from I.hok a _ e);obtain⟨as,q⟩:=HasL.reads I ds vs z l (by simpa only[iq]using c) rv;exact⟨_,.tuple e1 e2 e3 (by simpa using q)⟩
 | .dict _,_,_,_,c,_=>by simp[iq]at c
theorem HasL.reads{X:Cx}{zf:List (Addr×Obj)}{σ:St}{H:Hp}{s:be}(I:Inv X zf σ H s):∀(ds:List bd) (vs:List V) (us:List bb),HasL H ds vs->jh ds=true->Vals vs us->∃as,ReadsAll s.heap us ds as
 | [],vs,us,h,_,r=>by
  rw[zv.mp h]at r;cases r;exact⟨_,.nil⟩
 |d::ds,vs,us,h,c,r=>by
  obtain⟨v,w',rfl,h1,h2⟩:=zn.mp h;have c':d.canLay0=true/\jh ds=true:=by simpa[jh]using c
  cases r with
  |cons r1 r2=>
   obtain⟨as,q1⟩:=Has.reads I d v _ h1 c'.1 r1;obtain⟨bs,q2⟩:=HasL.reads I ds w' _ h2 c'.2 r2;exact⟨_,.cons q1 q2⟩
end
def y8:R2:=fun x y H Q=>∃d e,Has H d x/\Has H e y/\cu d=true/\cu e=true/\Q (.bl (gx d e)) H
def AK:R2:=fun x y H Q=>∃d e,Has H d x/\Has H e y/\cu d=true/\cu e=true/\Q (.bl (!PyData.eqv d e)) H
section
variable {X:Cx}
theorem bP(hu:X.A.units+64<gz):OpR X (fw .Eq) y8:=by
 intro zf s σ H x y v u Q I rx ry h;obtain⟨d,e,hd,he,sd,se,q⟩:=h;obtain⟨as,q1⟩:=Has.reads I d x v hd (dw sd) rx;obtain⟨bs,q2⟩:=Has.reads I e y u he (dw se) ry;exact eq_dataH q1 q2 sd se hu ⟨.bl _,H,I,rfl,q⟩
theorem iW(hu:X.A.units+64<gz):OpR X (fw .NotEq) AK:=by
 intro zf s σ H x y v u Q I rx ry h;obtain⟨d,e,hd,he,sd,se,q⟩:=h;obtain⟨as,q1⟩:=Has.reads I d x v hd (dw sd) rx;obtain⟨bs,q2⟩:=Has.reads I e y u he (dw se) ry;exact ne_dataH q1 q2 sd se hu ⟨.bl _,H,I,rfl,q⟩
end
section
variable {prog:bz}{w:dh}{A:cz}{E:bb->be->Prop}{s:be}{l:Addr}
theorem KU{xs:Array (Int×Tok)}{Q:bb->be->Prop}(hh:A.handled=none)(hl:s.heap.IsTuple l (ln xs))(aa:0<xs.size)
  (h:∀v h' tk,(ln xs)[ki (fun i j=>decide (numAt xs i<numAt xs j)) (xs.size-1)]?=some v->(∀b o,s.heap.get? b=some o->h'.get? b=some o)->Q v { s with heap:=h',toks:=tk }):
  bo (model prog w) A (call (.builtin "min") [.ref l]) Q E s:=by
 have z:l<s.heap.objs.size:=by obtain⟨o,e,_⟩:=hl;exact dn e
 refine call_min_walk (wpAny_pyIter_tuple hl ?_);refine⟨_,[_,l],[_],_,_,_,_,rfl,Walks.tuple (A:=A.in1) hh _ l (gf z) (ln xs),⟨⟨_,cf _ rfl,rfl,rfl⟩,hl.push _⟩,fun c hc=>?_,by simpa[ln]using aa,CmpOf.ints_lt (numAt xs) (fun _ _=>intItems_at),fun v h' tk hP hk=>?_⟩
 ·show c<(s.heap.push _).objs.size;rw[size_push];rcases mem_cons.mp hc with rfl|hc
  ·exact Nat.lt_succ_self _
  ·rcases mem_cons.mp hc with rfl|hc
   ·exact Nat.lt_succ_of_lt z
   ·cases hc
 ·refine h v h' tk (by simpa[ln]using hP) fun b o e=>hk b o (fun hm=>?_) (bi _ e);rcases mem_cons.mp hm with e1|hm
  ·exact absurd (e1▸dn e) (jp _)
  ·cases hm
theorem LF{xs:Array (Int×Tok)}{Q:bb->be->Prop}(hh:A.handled=none)(hl:s.heap.IsTuple l (ln xs))(aa:0<xs.size)
  (h:∀v h' tk,(ln xs)[ki (fun i j=>decide (numAt xs i>numAt xs j)) (xs.size-1)]?=some v->(∀b o,s.heap.get? b=some o->h'.get? b=some o)->Q v { s with heap:=h',toks:=tk }):
  bo (model prog w) A (call (.builtin "max") [.ref l]) Q E s:=by
 have z:l<s.heap.objs.size:=by obtain⟨o,e,_⟩:=hl;exact dn e
 refine call_max_walk (wpAny_pyIter_tuple hl ?_);refine⟨_,[_,l],[_],_,_,_,_,rfl,Walks.tuple (A:=A.in1) hh _ l (gf z) (ln xs),⟨⟨_,cf _ rfl,rfl,rfl⟩,hl.push _⟩,fun c hc=>?_,by simpa[ln]using aa,CmpOf.ints_gt (numAt xs) (fun _ _=>intItems_at),fun v h' tk hP hk=>?_⟩
 ·show c<(s.heap.push _).objs.size;rw[size_push];rcases mem_cons.mp hc with rfl|hc
  ·exact Nat.lt_succ_self _
  ·rcases mem_cons.mp hc with rfl|hc
   ·exact Nat.lt_succ_of_lt z
   ·cases hc
 ·refine h v h' tk (by simpa[ln]using hP) fun b o e=>hk b o (fun hm=>?_) (bi _ e);rcases mem_cons.mp hm with e1|hm
  ·exact absurd (e1▸dn e) (jp _)
  ·cases hm
theorem nQ{vs:List bb}{ns:List Int}(hi:nu vs ns):∃xs:Array (Int×Tok),vs.toArray=ln xs/\ns=xs.toList.map (·.1):=by
 obtain⟨xs,e⟩:=hi.allInts.items;exact⟨xs,e,by rw[<- hi.numsOf,<- nums_intItems,<- e]⟩
end
def vI(K:bj):List V->Hp->VK->Prop:=fun xs H Q=>∃p ns,xs=[.ref p]/\(SqL K H p (ns.map V.int)\/SqT K H p (ns.map V.int))/\ns≠[]/\∀m,m∈ns->(∀a,a∈ns->m<=a)->Q (.int m) H
def Dj(K:bj):List V->Hp->VK->Prop:=fun xs H Q=>∃p ns,xs=[.ref p]/\(SqL K H p (ns.map V.int)\/SqT K H p (ns.map V.int))/\ns≠[]/\∀m,m∈ns->(∀a,a∈ns->a<=m)->Q (.int m) H
section
variable {X:Cx}
theorem KM(hc:X.calm=true):CallR X (.builtin "min") (vI X.K):=by
 intro zf s σ H xs us Q I r h;obtain⟨p,ns,rfl,hq,aa,q⟩:=h;obtain⟨u,rfl,rx⟩:=vals1 r;cases (show u=bu p from rx);have done:∀(ys:Array (Int×Tok)) (v:bb) (h':Heap) (tk:Nat),ns=ys.toList.map (·.1)->0<ys.size->(ln ys)[ki (fun i j=>decide (numAt ys i<numAt ys j)) (ys.size-1)]?=some v ->
   (∀b o,s.heap.get? b=some o->h'.get? b=some o)->EP X zf σ Q v { s with heap:=h',toks:=tk }:=by
  intro ys v h' tk z hsz hv hk;obtain⟨t,rfl⟩:=intItems_at hv;obtain⟨h1,h2⟩:=argBest_lt (numAt ys) (ys.size-1);refine⟨.int _,H,I.kept (t':=tk) hk,⟨t,rfl⟩,q _ ?_ fun a ha=>?_⟩
  ·rw[z,numAt_eq];exact getD_mem (by rw[cg,jd];omega)
  ·rw[z]at ha;obtain⟨j,hj,rfl⟩:=mem_getD ha;rw[cg,jd]at hj;rw[<- numAt_eq];exact h2 j yw
 rcases hq with hq|hq
 ·obtain⟨ac,rv,pl,_⟩:=I.list hq;obtain⟨ys,e,z⟩:=nQ (jP rv);have hsz:0<ys.size:=by
   cases ys with
   |mk l=>cases l with
    |nil=>exact absurd z aa
    |cons _ _=>exact Nat.succ_pos _
  exact min_intList (I.ok.hd hc) (by rw[<- e];exact pl.isList) hsz fun v h' tk hv hk=>done ys v h' tk z hsz hv hk
 ·obtain⟨ac,rv,pl,_⟩:=I.tuple hq;obtain⟨ys,e,z⟩:=nQ (jP rv);have hsz:0<ys.size:=by
   cases ys with
   |mk l=>cases l with
    |nil=>exact absurd z aa
    |cons _ _=>exact Nat.succ_pos _
  exact KU (I.ok.hd hc) (by rw[<- e];exact pl) hsz fun v h' tk hv hk=>done ys v h' tk z hsz hv hk
theorem Go(hc:X.calm=true):CallR X (.builtin "max") (Dj X.K):=by
 intro zf s σ H xs us Q I r h;obtain⟨p,ns,rfl,hq,aa,q⟩:=h;obtain⟨u,rfl,rx⟩:=vals1 r;cases (show u=bu p from rx);have done:∀(ys:Array (Int×Tok)) (v:bb) (h':Heap) (tk:Nat),ns=ys.toList.map (·.1)->0<ys.size->(ln ys)[ki (fun i j=>decide (numAt ys i>numAt ys j)) (ys.size-1)]?=some v ->
   (∀b o,s.heap.get? b=some o->h'.get? b=some o)->EP X zf σ Q v { s with heap:=h',toks:=tk }:=by
  intro ys v h' tk z hsz hv hk;obtain⟨t,rfl⟩:=intItems_at hv;obtain⟨h1,h2⟩:=argBest_gt (numAt ys) (ys.size-1);refine⟨.int _,H,I.kept (t':=tk) hk,⟨t,rfl⟩,q _ ?_ fun a ha=>?_⟩
  ·rw[z,numAt_eq];exact getD_mem (by rw[cg,jd];omega)
  ·rw[z]at ha;obtain⟨j,hj,rfl⟩:=mem_getD ha;rw[cg,jd]at hj;rw[<- numAt_eq];exact h2 j yw
 rcases hq with hq|hq
 ·obtain⟨ac,rv,pl,_⟩:=I.list hq;obtain⟨ys,e,z⟩:=nQ (jP rv);have hsz:0<ys.size:=by
   cases ys with
   |mk l=>cases l with
    |nil=>exact absurd z aa
    |cons _ _=>exact Nat.succ_pos _
  exact max_intList (I.ok.hd hc) (by rw[<- e];exact pl.isList) hsz fun v h' tk hv hk=>done ys v h' tk z hsz hv hk
 ·obtain⟨ac,rv,pl,_⟩:=I.tuple hq;obtain⟨ys,e,z⟩:=nQ (jP rv);have hsz:0<ys.size:=by
   cases ys with
   |mk l=>cases l with
    |nil=>exact absurd z aa
    |cons _ _=>exact Nat.succ_pos _
  exact LF (I.ok.hd hc) (by rw[<- e];exact pl) hsz fun v h' tk hv hk=>done ys v h' tk z hsz hv hk
end
section
variable {K:bj}{o:List Addr}{σ:St}{H0:Hp}{t t1 t2 t3 t4 t5:TE}{ta:TA}{tt tu:TT}{d d1 d2 d3 d4 d5:bd}{ds:List bd}{b c:Bool}
def iT:bd->Bool
 | .none=>true
 |_=>false
theorem wV{H:Hp}{v:V}(h:Has H d v):decide (v=.non)=iT d:=by
 cases d with
 |none=>rw[gT.mp h];rfl
 |bool _=>rw[gM.mp h];rfl
 |int _=>rw[d9.mp h];rfl
 |str _=>rw[fX.mp h];rfl
 |list _=>obtain⟨a,vs,rfl,_⟩:=cU.mp h;rfl
 |tuple _=>obtain⟨a,vs,rfl,_⟩:=zW.mp h;rfl
 |dict _=>obtain⟨a,vs,rfl,_⟩:=tG.mp h;rfl
def vO:R2:=fun x y H Q=>y=.non/\Q (.bl (decide (x=.non))) H
def CD:R2:=fun x y H Q=>y=.non/\Q (.bl (!decide (x=.non))) H
theorem iF{X:Cx}:OpR X (fw .Is) vO:=Gk
theorem FW{X:Cx}:OpR X (fw .IsNot) CD:=Eu
end
def spD(a b:Int):bd:=.tuple [.int a,.int b]
end
section
theorem EZ{K:bj}{a:Addr}{ns:List Int}{N:Int}{j:Nat}{tb:TS}{D:Ends}{σ:St}{H:Hp}(P:St->Prop)(h0:σ[0]?=some (some (.ref a)))(hS:SqL K H a (ns.map V.int))(z:ns.length<=63)(hP:P σ)
  (turn:∀(n:Int) (σ:St) (H1 H2:Hp),P σ->Same H H1->Same H1 H2->tb { D with nx:=fun σ' H'=>Same H1 H'/\P σ',ct:=fun σ' H'=>Same H1 H'/\P σ',bk:=D.nx } (σ.set j (some (.int n))) H2)
  (done:∀(σ:St) (H1:Hp),P σ->Same H H1->D.nx σ H1):
  k7 (vK K (tOp kZ (lA (jH (tC2 (vB K) (cO 0) (tC (.int 0))) kP)) (tSl (nX K) (cO 0) (kE (tC (.int 1))) (kE (tC (.int N)))))) (g0 j) tb D σ H:=by
 refine⟨_,h0,a,ns,0,rfl,rfl,hS,by decide,fun n0=>⟨by show 1<=br;decide,fun p hp=>?_⟩⟩;have s1:Same H (upd H p (.lst [.int n0])):=Same.laid hp;refine⟨_,h0,_,rfl,_,rfl,a,_,rfl,s1.seq hS,fun p2 aa=>?_⟩;have s2:=s1.trans (Same.laid (o:=.lst (dY (ns.map V.int) (some 1) (some N))) aa);have np:p≠p2:=zG zP aa;have hz:(dY (ns.map V.int) (some 1) (some N)).length<=63:=ip (xD _ _ _) (by rw[cg];exact z);refine⟨p,p2,_,_,rfl,rfl,by rw[zE np,zP],zP,im (small1000 (by simp only[cn,length_nil];omega)),fun p3 ac=>?_⟩;have s3:=s2.trans (Same.laid (o:=.lst ([V.int n0]++dY (ns.map V.int) (some 1) (some N))) ac);refine⟨p3,rfl,⟨_,.of zP⟩,Io (K:=K) (a:=p3) (xs:=[V.int n0]++dY (ns.map V.int) (some 1) (some N)) (fun i σ' H'=>Same _ H'/\P σ') ⟨Same.refl _,hP⟩ (fun i σ H4 _ ⟨s4,_⟩=>.of (s4 _ _ zP)) ?_ ?_⟩
 ·rintro i x σ' H4 hi ⟨s4,p4⟩;obtain⟨n,rfl⟩:∃n,x=.int n:=by
   rcases mem_append.mp (cj hi)with m|m
   ·exact⟨n0,mem_singleton.mp m⟩
   ·exact JH m
  exact turn n σ' _ H4 p4 s3 s4
 ·rintro σ' H4 ⟨s4,p4⟩;exact done σ' H4 p4 (s3.trans s4)
end
section
section
variable {prog:bz}{w:dh}{A:cz}{E:bb->be->Prop}{R:Result->be->Prop}{s:be}
theorem Gy{elt aa iter:Expr}{ifs:List Expr}{scope:Scope}{pos:Pos}{it acc:bb}{env:Env}(I:Nat->be->Prop)
  (turn:∀n s,I n s->bo (model prog w) A (pyNext it) (fun r s₁=>match r with
   |none=>R (.ok .next) s₁
   |some v=>bo (model prog w) A (letOwnedTupleGo aa it v) (fun _ s₀=>bo (model prog w) A (assign aa env v) (fun _ s₂=>
     bo (model prog w) A (forIn ifs true fun c r=>if r=true then do let ok <- isTrue c env (eval c env);pure (lp ok)else pure (lp r)) (fun ok s₃=>
      if ok=true then bo (model prog w) A (eval elt env) (fun x s₄=>
       bo (model prog w) A (call (.builtin "list.append") [acc,x]) (fun _ s₅=>∃m,m<n/\I m s₅) (fun _ _=>False) s₄) (fun _ _=>False) s₃
      else ∃m,m<n/\I m s₃) (fun _ _=>False) s₂) (fun _ _=>False) s₀) (fun _ _=>False) s₁) (fun _ _=>False) s)
  (n:Nat) (h:I n s):
  me (model prog w) A (.compLoop (.ListComp elt [⟨aa,iter,ifs,0⟩] scope pos) 0 it acc env) R s:=by
 have up:∀{α:Type}{t:Sem α}{Q:α->be->Prop}{E':bb->be->Prop}{s':be},bo (model prog w) A t Q (fun _ _=>False) s'->bo (model prog w) A t Q E' s':=fun h=>gm h (fun _ _ q=>q) fun _ _ z=>z.elim;refine codeAny_loop rfl I (fun n s hI=>?_) n h;show bo _ A ((compTurn (.ListComp elt [⟨aa,iter,ifs,0⟩] scope pos) 0 it acc env).onRaise (fun x=>do noteFrame x env;theTreesLotGoes x)) _ _ s;refine wpAny_noted ?_;rw[compTurn_list];refine bc (wpAny_standAt (bc (thn (up (turn n s hI)) fun r s₁ h₁=>?_)));cases r with
 |none=>exact bh h₁
 |some v=>
  refine bc (thn (up h₁) fun _ s₀ h₀=>?_);refine bc (thn (up h₀) fun _ s₂ h₂=>bc (thn (up h₂) fun ok s₃ h₃=>?_));cases ok with
  |false=>exact bh ⟨rfl,h₃⟩
  |true=>
   exact bc (bc (thn (up h₃) fun x s₄ h₄=>bc (thn (up h₄) fun _ s₅ h₅=>bh (bh ⟨rfl,h₅⟩))))
end
def bQ(X:Cx)(scope:Scope)(cl:List (Str×Addr))(C:Addr)(s₃:be)(H₃:Hp)(fp:List Addr)(N:List Str):Cx where
 prog:=X.prog
 w:=X.w
 K:=X.K
 mg:=X.mg
 base:=X.base
 A:=X.A
 N:=N
 s₀:=s₃
 H₀:=H₃
 env:=compEnvC scope cl C X.env
 outer:=X.stack
 stack:=X.stack
 ex:=fp
 fn:=fun _=>false
 calm:=X.calm
 pn:=[]
 xe:=fun _ _=>False
def PTs(X:Cx)(ifs:List Expr)(t:TT):Prop:=
 ∀(zf:List (Addr×Obj)) (s:be) (σ:St) (H:Hp) (Q:Bool->Hp->Prop),Inv X zf σ H s->t σ H Q ->
  bo (model X.prog X.w) X.A (forIn ifs true fun c r=>if r=true then do let ok <- isTrue c X.env (eval c X.env);pure (lp ok)else pure (lp r)) (TP X zf σ Q) X.xe s
def A5:TT:=fun _ H Q=>Q true H
theorem cQ{X:Cx}:PTs X [] A5:=fun _ _ _ H _ I h=>wpAny_tests_nil ⟨H,I,h⟩
theorem KH{X:Cx}{c:Expr}{t:TT}(h:PT X c t):PTs X [c] t:=fun zf s σ H Q I hw=>wpAny_tests_one (h zf s σ H Q I hw)
def tau(caps:List (Option Nat))(σ:St):St:=caps.map fun o=>o.bind fun i=>(σ[i]?).join
def iD(caps:List (Option Nat))(wi:TI)(g:TG)(tt:TT)(te:TE):TE:=fun σ H Q=>wi σ H fun J H1=>∀D,H1 D=none->∃W:Nat->Nat->St->Hp->Prop,(∃m,W 0 m (tau caps σ) (upd H1 D (.lst []))) /\
 ∀i m τ H2,W i m τ H2->(J.stop i H2/\Q (.ref D) H2)\/(J.go i H2/\∀x H3,J.yld i H2 x H3->g x τ H3 fun τ4 H4=>tt τ4 H4 fun b H5=>
  if b=true then te τ4 H5 fun v H6=>∃xs,H6 D=some (.lst xs)/\xs.length<br/\∃m',m'<m/\W (i+1) m' τ4 (upd H6 D (.lst (xs++[v])))else ∃m',m'<m/\W (i+1) m' τ4 H5)
structure CompOk(X:Cx)(scope:Scope)(cl:List (Str×Addr))(N:List Str)(caps:List (Option Nat)):Prop where
 clos:closureFor scope X.env=pure cl
 sub:∀x c,cl.lookup x=some c->X.env.cells.lookup x=some c
 kind:scope.kind=.function
 cell:∀y∈scope.names,y.2≠.cell
 names:∀y∈scope.names,y.2=.local->scope.names.lookup y.1=some .local
 has:∀x,((relabel scope X.env).names.lookup x=some .cell\/(relabel scope X.env).names.lookup x=some .free)->∃c,cl.lookup x=some c
 cap:∀(j i:Nat) (x:Str),caps[j]?=some (some i)->N[j]?=some x->X.N[i]?=some x/\Vis X.env.scope x/\¬ X.env.kindOf x=some .local/\∃c,cl.lookup x=some c/\((relabel scope X.env).names.lookup x=some .cell\/(relabel scope X.env).names.lookup x=some .free)
 len:caps.length=N.length
section
variable {X:Cx}{scope:Scope}{cl:List (Str×Addr)}{N:List Str}{caps:List (Option Nat)}{tg iter elt:Expr}{ifs:List Expr}{pos:Pos}{wi:TI}{g:TG}{tt:TT}{te:TE}
theorem FG{zf:List (Addr×Obj)}{σ:St}{H:Hp}{s:be}{fp:List Addr}{h₁:Heap}{t':Nat}(c:CompOk X scope cl N caps)(I:Inv X zf σ H s)(f:∀b∈fp,FpOk X zf H b)(fo:∀b∈fp,∃o,s.heap.get? b=some o)
  (hns:h₁.Ns s.heap.objs.size (fun _=>none)) (hk:∀b o,s.heap.get? b=some o->h₁.get? b=some o):
  Inv (bQ X scope cl s.heap.objs.size s H fp N) [] (tau caps σ) H { s with heap:=h₁,toks:=t' }:=by
 have lt:∀b∈fp,b<s.heap.objs.size:=fun b hb=>by obtain⟨o,e⟩:=fo b hb;exact dn e
 have ac:∀x k,cl.lookup x=some k->∃v,s.heap.IsCell k v:=fun x k e=>I.cell x k (c.sub x k e);refine⟨⟨I.ok.mod,c.kind,I.ok.glob,I.ok.blt,cw _,fun x y k h1 h2=>I.ok.inj x y k (c.sub x k h1) (c.sub y k h2),fun x hx=>c.has x hx,fun x k h _=>absurd (show false=true from h) dz,I.ok.hd,I.ok.frames,.inl rfl,
  fun b hb=>⟨gf (lt b hb),fun x k e=>(f b hb).2.2.2.2.1 x k (c.sub x k e)⟩,I.bs,ip I.ok.bsz I.sz,fun b o e hb=>?_,fun b hb z=>?_,I.stack,I.stkFree⟩,
  rfl,I.bare,Un.kept hk,⟨_,hns,fun j x v h1 h2 h3=>?_⟩,fun x k e=>?_,I.hok.fresh (cw _),fun x k e=>I.freeC x k (c.sub x k e),fun p hp=>absurd (show p∈([]:List (Addr×Obj))from hp) yv,I.hok.kept hk,?_⟩
 ·rcases(f b hb).2.2.2.1 with q|q
  ·exact I.ok.noex b o e q
  ·exact absurd (fk (dn e) (ip I.ok.bsz q)) (jp _)
 ·rcases mem_cons.mp (I.stkSub b z)with q|q
  ·exact(f b hb).2.1 q
  ·exact(f b hb).2.2.1 q
 ·have aa:(caps.map fun o=>o.bind fun i=>(σ[i]?).join)[j]?=some (some v):=h2;rw[gi]at aa;cases e:caps[j]? with
  |none=>rw[e]at aa;cases aa
  |some oi=>
   rw[e]at aa;have h2'':(oi.bind fun i=>(σ[i]?).join)=some v:=fc aa;cases oi with
   |none=>cases h2''
   |some i=>
    have h4:(σ[i]?).join=some v:=h2'';have h5:σ[i]?=some (some v):=by
     cases q:σ[i]? with
     |none=>rw[q]at h4;cases h4
     |some w'=>rw[q]at h4;exact congrArg some h4
    obtain⟨k1,k2,k3,cc,k4,k5⟩:=c.cap j i x e h1;obtain⟨m,hn,hl⟩:=I.loc;obtain⟨u,r,l⟩:=hl i x v k1 h5 k2;refine⟨u,r,.inr ⟨k5,cc,k4,?_⟩⟩;rcases l with ⟨q,_⟩|⟨_,c',hc',hcell⟩
    ·exact(k3 q).elim
    ·rw[c.sub x cc k4]at hc';cases hc';exact hcell.keeps hk
 ·obtain⟨v,q⟩:=ac x k e;exact⟨v,q.keeps hk⟩
 ·show (caps.map _).length=N.length;rw[cg];exact c.len
theorem IF{zf:List (Addr×Obj)}{σ τ:St}{H H':Hp}{s s':be}{h':Heap}{fp:List Addr}(I:Inv X zf σ H s)(f:∀b∈fp,FpOk X zf H b)(J:Inv (bQ X scope cl s.heap.objs.size s H fp N) [] τ H' s')(hs:gu s.heap.objs.size s'.heap h'):
  Inv X zf σ H' { s' with heap:=h' }:=by
 have hC:H' s.heap.objs.size=none:=J.free;have keep:∀b o,b≠s.heap.objs.size->s'.heap.get? b=some o->h'.get? b=some o:=fun b o nb e=>hs.extBut b o nb e;have u1:Un (frs X.stack) (s.heap.objs.size::fp) H H' s.heap s'.heap:=Un.mono J.base (fun b hb=>hb) (fun b hb=>bw _ hb);have u2:Un (frs X.stack) (s.heap.objs.size::fp) H' H' s'.heap h':=
  ⟨fun b o e _ _ hx=>keep b o (fun z=>hx (by rw[z];exact ck)) e,fun b o e _ _ hx=>⟨o.slots,keep b o (fun z=>hx (by rw[z];exact ck)) e⟩,fun _ _ _ n _=>n,fun b o e hx=>⟨o,keep b o (fun z=>hx (by rw[z];exact ck)) e⟩,fun _ _ q=>q,fun _ _ _ q=>q,fun _ _ q=>q⟩
 have hok:HOk X.prog X.w H' h':=fun a o e=>(J.hok a o e).stay (fun b u hb q=>keep b u (fun z=>by
  rcases hb with hb|hb
  ·rw[<- hb,z,hC]at e;cases e
  ·rw[z,hC]at hb;cases hb) q) (fun b q=>q) fun b xs q=>q
 refine I.call' (s':={ s' with heap:=h' }) (ch:=s.heap.objs.size::fp) J.os (u1.trans u2) hok J.bare fun b hb=>?_;rcases mem_cons.mp hb with rfl|hb
 ·refine⟨.inr I.sz,ne_of_gt I.lt,fun x k e z=>?_,fun p hp z=>?_⟩
  ·obtain⟨v,q⟩:=I.cell x k e;exact absurd q.lt (by rw[z];exact jp _)
  ·exact absurd (dn (I.pin p hp).1) (by rw[z];exact jp _)
 ·obtain⟨f0,f1,f2,f3,f4,f5⟩:=f b hb;exact⟨f3,f1,f4,f5⟩
theorem v8{zf:List (Addr×Obj)}{σ:St}{H2:Hp}{s2:be}{it:Addr}{fp:List Addr}{tn:Nat->Heap->Prop}{J:It}{RR:bb->Addr->Result->be->Prop}{E:bb->be->Prop}(hc:X.calm=true)(c:CompOk X scope cl N caps)
  (I2:Inv X zf σ H2 s2) (T:Turn X.prog X.w X.K tg J fp it tn) (st2:tn 0 s2.heap) (f2:∀b∈fp,FpOk X zf H2 b)
  (hg:∀C s H fp,PG (bQ X scope cl C s H fp N) tg g) (ht:∀C s H fp,PTs (bQ X scope cl C s H fp N) ifs tt) (he:∀C s H fp,PE (bQ X scope cl C s H fp N) elt te)
  (Q:VK) (hq:∀D,H2 D=none->∃W:Nat->Nat->St->Hp->Prop,(∃m,W 0 m (tau caps σ) (upd H2 D (.lst []))) /\
   ∀i m τ H2,W i m τ H2->(J.stop i H2/\Q (.ref D) H2)\/(J.go i H2/\∀x H3,J.yld i H2 x H3->g x τ H3 fun τ4 H4=>tt τ4 H4 fun b H5=>
    if b=true then te τ4 H5 fun v H6=>∃xs,H6 D=some (.lst xs)/\xs.length<br/\∃m',m'<m/\W (i+1) m' τ4 (upd H6 D (.lst (xs++[v])))else ∃m',m'<m/\W (i+1) m' τ4 H5))
  (hRR:∀(D C:Addr) (H':Hp) (s':be) (m:Str->Option bb),s'.heap.Ns C m->FpOk X zf H' C->(∀h',gu C s'.heap h'->Inv X zf σ H' { s' with heap:=h' })->Q (.ref D) H'->RR (.ref D) C (.ok .next) s'):
  bo (model X.prog X.w) X.A (newList []) (fun acc s₃=>bo (model X.prog X.w) X.A (newFunctionEnv scope X.env.globals cl [] X.env.qual none .none (some X.env)) (fun af s₄=>
   me (model X.prog X.w) X.A (.compStart (.ListComp elt [⟨tg,iter,ifs,0⟩] scope pos) 0 (.ref it) acc { af with scope:=relabel scope X.env }) (RR acc af.locals) s₄) E s₃) E s2:=by
 have hD:H2 s2.heap.objs.size=none:=I2.hok.fresh (cw _);obtain⟨W,⟨m0,w0⟩,am⟩:=hq s2.heap.objs.size hD;have I3:Inv X zf σ (upd H2 s2.heap.objs.size (.lst [])) { s2 with heap:=s2.heap.push { cls:=.type "list",data:=.seq ([]:List bb).toArray } }:=I2.laid (t':=s2.toks) (fun b u e=>bi _ e) (cw _) ⟨mj _,[],0,.nil,cf _ rfl⟩;have fo:∀b∈fp,∃o,s2.heap.get? b=some o:=fun b hb=>by obtain⟨o,e,_⟩:=T.obj 0 _ st2 b hb;exact⟨o,e⟩
 have f3:∀b∈fp,FpOk X zf (upd H2 s2.heap.objs.size (.lst [])) b:=fun b hb=>by
  obtain⟨o,e⟩:=fo b hb;refine⟨?_,(f2 b hb).2⟩;rw[zE (gf (dn e))];exact(f2 b hb).1
 refine ft (wpAny_newFunctionEnv c.cell (by intro y hy;simp at hy) (fun h₁ ah ai=>?_) c.kind);have hk:∀b o,(s2.heap.push { cls:=.type "list",data:=.seq ([]:List bb).toArray }).get? b=some o->h₁.get? b=some o:=fun b o e=>ai.extBut b o (gf (dn e)) (bi _ e);have aj:tn 0 h₁:=T.keep 0 _ _ st2 fun b _ o e=>hk b o (bi _ e);have I4:=FG (t':=s2.toks+([]:List (Str×bb)).length) c I3 f3 (fun b hb=>by obtain⟨o,e⟩:=fo b hb;exact⟨o,bi _ e⟩) ah hk;have aa:∀{H':Hp},(∀b∈fp,H' b=none)->∀b∈fp,FpOk (bQ X scope cl (s2.heap.push { cls:=.type "list",data:=.seq ([]:List bb).toArray }).objs.size { s2 with heap:=s2.heap.push { cls:=.type "list",data:=.seq ([]:List bb).toArray } } (upd H2 s2.heap.objs.size (.lst [])) fp N) [] H' b:=fun hn b hb=>
  ⟨hn b hb,(I4.ok.exf b hb).1,I4.ok.exfs b hb,.inl hb,(I4.ok.exf b hb).2,fun p hp=>absurd (show p∈([]:List (Addr×Obj))from hp) yv⟩
 have ae:me (model X.prog X.w) X.A (.compLoop (.ListComp elt [⟨tg,iter,ifs,0⟩] scope pos) 0 (.ref it) (.ref s2.heap.objs.size) (compEnvC scope cl (s2.heap.push { cls:=.type "list",data:=.seq ([]:List bb).toArray }).objs.size X.env))
   (RR (.ref s2.heap.objs.size) (s2.heap.push { cls:=.type "list",data:=.seq ([]:List bb).toArray }).objs.size) { s2 with heap:=h₁,toks:=s2.toks+([]:List (Str×bb)).length }:=by
  refine Gy (fun n s'=>∃i τ H',Inv (bQ X scope cl (s2.heap.push { cls:=.type "list",data:=.seq ([]:List bb).toArray }).objs.size { s2 with heap:=s2.heap.push { cls:=.type "list",data:=.seq ([]:List bb).toArray } } (upd H2 s2.heap.objs.size (.lst [])) fp N) [] τ H' s'/\tn i s'.heap/\(∀b∈fp,H' b=none)/\W i n τ H') ?_ m0 ⟨0,_,_,I4,aj,fun b hb=>(f3 b hb).1,w0⟩;rintro n s5 ⟨i,τ,H5,I5,al,ak,w5⟩;rcases am i n τ H5 w5 with ⟨stop,qn⟩|⟨go,step⟩
  ·refine thn (T.done (bQ X scope cl (s2.heap.push { cls:=.type "list",data:=.seq ([]:List bb).toArray }).objs.size { s2 with heap:=s2.heap.push { cls:=.type "list",data:=.seq ([]:List bb).toArray } } (upd H2 s2.heap.objs.size (.lst [])) fp N) rfl rfl rfl hc i [] s5 τ H5 (fun _ _=>False) I5 (aa ak) al stop) fun r s6 ⟨hr,I6⟩=>?_;subst hr;obtain⟨m,hn,_⟩:=id I6.loc;exact hRR _ _ H5 s6 m hn (I3.fpOk (cw _) I6.free) (fun h' hs=>IF I3 f3 I6 hs) qn
  ·refine thn (T.item (bQ X scope cl (s2.heap.push { cls:=.type "list",data:=.seq ([]:List bb).toArray }).objs.size { s2 with heap:=s2.heap.push { cls:=.type "list",data:=.seq ([]:List bb).toArray } } (upd H2 s2.heap.objs.size (.lst [])) fp N) rfl rfl rfl hc i [] s5 τ H5 (fun _ _=>False) I5 (aa ak) al go) fun r s6 ⟨u,hr,h6⟩=>?_;subst hr;refine thn h6 fun _ s7 ⟨x,H7,I7,r7,y7,ag,an⟩=>?_;have I7':=I7.pinned (aa an) (T.obj _ _ ag);refine thn (hg _ _ _ _ _ s7 τ H7 x u _ I7' r7 (step x H7 y7)) fun _ s8 ⟨τ8,H8,I8,q8⟩=>?_;refine thn (ht _ _ _ _ _ s8 τ8 H8 _ I8 q8) fun ok s9 ⟨H9,I9,q9⟩=>?_;have ac:∀{H':Hp}{s':be}{m:Nat},Inv (bQ X scope cl (s2.heap.push { cls:=.type "list",data:=.seq ([]:List bb).toArray }).objs.size { s2 with heap:=s2.heap.push { cls:=.type "list",data:=.seq ([]:List bb).toArray } } (upd H2 s2.heap.objs.size (.lst [])) fp N) ([]++p0 fp s7.heap) τ8 H' s'->(m<n/\W (i+1) m τ8 H') ->
     ∃m,m<n/\∃i τ H',Inv (bQ X scope cl (s2.heap.push { cls:=.type "list",data:=.seq ([]:List bb).toArray }).objs.size { s2 with heap:=s2.heap.push { cls:=.type "list",data:=.seq ([]:List bb).toArray } } (upd H2 s2.heap.objs.size (.lst [])) fp N) [] τ H' s'/\tn i s'.heap/\(∀b∈fp,H' b=none)/\W i m τ H':=fun {H' s' m} I' q=>by
    refine⟨m,q.1,i+1,τ8,H',I'.unpinned,T.keep _ _ _ ag fun b hb o e=>(I'.pin (b,o) (cv _ (cv _ (sR hb e)))).1,fun b hb=>?_,q.2⟩;obtain⟨o,e,d⟩:=T.obj _ _ ag b hb;exact(I'.pin (b,o) (cv _ (cv _ (sR hb e)))).2.1
   cases ok with
   |false=>
    rw[bv gc]at q9 ⊢;obtain⟨m',hm,w9⟩:=q9;exact ac I9 ⟨hm,w9⟩
   |true=>
    rw[cy rfl]at q9 ⊢;refine thn (he _ _ _ _ _ s9 τ8 H9 _ I9 q9) fun v ao ⟨z,H10,I10,aq,xs,hx,hz,m',hm,ap⟩=>?_;refine thn (pG _ ao τ8 H10 (.ref s2.heap.objs.size) [z] (.ref s2.heap.objs.size) [v] (fun _ H11=>W (i+1) m' τ8 H11) I10 rfl (.cons aq .nil) ⟨_,xs,z,rfl,rfl,hx,hz,ap⟩) fun _ as ⟨_,H11,I11,_,ar⟩=>?_;exact ac I11 ⟨hm,ar⟩
 exact codeAny_compStart_list ae (T.self _ 0 _ _ _ aj ae)
theorem dJ(hx:∀e s,X.xe e s->False)(hc:X.calm=true)(c:CompOk X scope cl N caps)(hi:PI X tg iter wi)(hg:∀C s H fp,PG (bQ X scope cl C s H fp N) tg g)(ht:∀C s H fp,PTs (bQ X scope cl C s H fp N) ifs tt)(he:∀C s H fp,PE (bQ X scope cl C s H fp N) elt te)
  (hs:∀x,foldedSetIterable iter X.env x=pure x:=by intro _;rfl):PE X (.ListComp elt [⟨tg,iter,ifs,0⟩] scope pos) (iD caps wi g tt te):=by
 intro zf s σ H Q I h;rw[eval_ListComp];refine wpAny_comprehension_free (use:=none) rfl hs c.clos c.kind c.names (thn (hi zf s σ H _ I h) fun v s1 h1=>thn h1 fun aa s2 h2=>?_);obtain⟨it,fp,tn,J,H2,e,I2,T,z,f2,q2⟩:=h2;subst e;exact v8 (RR:=fun acc C=>compPost (model X.prog X.w) X.A X.xe none (EP X zf σ Q) acc C) hc c I2 T z f2 hg ht he Q q2 fun D C H' s' m hn _ hb q=>⟨m,hn,fun h' hs=>⟨.ref D,H',hb h' hs,rfl,q⟩⟩
theorem vR{i:Nat}{y:Str}{py aa:Pos}(hx:∀e s,X.xe e s->False)(hc:X.calm=true)(c:CompOk X scope cl N caps)(hN:X.N.Nodup)(ac:X.N[i]?=some y)(hl:X.env.scope.names.lookup y=some .local)(hi:PI X tg iter wi)(hg:∀C s H fp,PG (bQ X scope cl C s H fp N) tg g)
  (ht:∀C s H fp,PTs (bQ X scope cl C s H fp N) ifs tt) (he:∀C s H fp,PE (bQ X scope cl C s H fp N) elt te)
  (hsw:swapsWith (.ListComp elt [⟨tg,iter,ifs,0⟩] scope pos) (some (.Name y py)) aa.line X.env=pure true:=by rfl)
  (hs:∀x,foldedSetIterable iter X.env x=pure x:=by intro _;rfl):PS X (.Assign [.Name y py] (.ListComp elt [⟨tg,iter,ifs,0⟩] scope pos) aa) (iN (iD caps wi g tt te) (g0 i)):=by
 intro zf s σ H D I h;rw[exec_Assign_Name_used _ _ _ _ hsw];refine bc (wpAny_standAt (bc ?_));show bo _ X.A (do let _ <- comprehension (.ListComp elt [⟨tg,iter,ifs,0⟩] scope pos) scope X.env _ (newList []) false (eval iter X.env) (some (assign (.Name y py) X.env))) _ _ s;refine bc (gm (wpAny_comprehension_free (use:=some (assign (.Name y py) X.env)) (Q:=fun _ s'=>SP X zf D .next s') rfl hs c.clos c.kind c.names (thn (hi zf s σ H _ I h) fun v s1 h1=>thn h1 fun af s2 h2=>?_)) (fun _ s' hq=>bh (bh hq)) fun _ _ e=>e);obtain⟨it,fp,tn,J,H2,e,I2,T,ae,f2,q2⟩:=h2;subst e;refine v8 (RR:=fun acc C=>compPost (model X.prog X.w) X.A X.xe (some (assign (.Name y py) X.env)) (fun _ s'=>SP X zf D .next s') acc C) hc c I2 T ae f2 hg ht he (fun v H'=>D.nx (σ.set i (some v)) H') q2 fun Da C H' s' m hn f hb q=>?_;obtain⟨o,es,ep,ho,hd,r⟩:=hn;have I':Inv X zf σ H' s':=hb s'.heap (Heap.SameBut.refl _ _);have I'':Inv X (zf++[(C,o)]) σ H' s':=I'.pins_of fun p hp=>(mem_append.mp hp).elim (fun z=>I'.pin p (cv _ z)) fun z=>by
  cases mem_singleton.mp z;exact⟨ho,f.1,f.2.1,f.2.2.1,fun v e=>by rw[hd]at e;cases e⟩
 refine wpAny_assign_Name (sZ I'' hN ac (.inl hl) (show RelV (V.ref Da) (bu Da)from rfl) (fun s2 J2=>?_) (.inr hl));refine⟨m,⟨o,es,ep,(J2.pin (C,o) (cv _ (cv _ (mem_singleton.mpr rfl)))).1,hd,r⟩,fun h' hs=>?_⟩;exact⟨_,H',J2.unpinned.turned (t':=s2.toks) (fun b ob nb e=>hs.extBut b ob nb e) f.1 f.2.1 f.2.2.2.1 f.2.2.2.2.1 f.2.2.2.2.2,q⟩
end
def e9(env:Env):List (Str×jy)->List (Str×Addr)->List (Str×Addr)
 | [],acc=>acc
 | (n,k)::r,acc=>e9 env r (if k==.free then (n,(env.cells.lookup n).getD 0)::acc else acc)
theorem Bg{env:Env}{x:Str}{c:Addr}:∀{names:List (Str×jy)}{acc:List (Str×Addr)},(x,c)∈e9 env names acc->(x,c)∈acc\/((x,NameKind.free)∈names/\c=(env.cells.lookup x).getD 0)
 | [],_,h=>.inl h
 | (n,k)::r,acc,h=>by
  rcases Bg (names:=r) h with h|⟨h,e⟩
  ·by_cases hk:k==.free
   ·rw[cy hk]at h;rcases mem_cons.mp h with h|h
    ·cases h;have:k=.free:=by simpa using hk
     subst this;exact .inr ⟨ck,rfl⟩
    ·exact .inl h
   ·rw[bv hk]at h;exact .inl h
  ·exact .inr ⟨bw _ h,e⟩
theorem AM{env:Env}{p:Str×Addr}:∀{names:List (Str×jy)}{acc:List (Str×Addr)},p∈acc->p∈e9 env names acc
 | [],_,h=>h
 | (n,k)::r,acc,h=>AM (names:=r) (by split<;>first|exact bw _ h|exact h)
theorem tT{env:Env}{x:Str}:∀{names:List (Str×jy)}{acc:List (Str×Addr)},(x,NameKind.free)∈names->∃c,(x,c)∈e9 env names acc
 | (n,k)::r,acc,h=>by
  rcases mem_cons.mp h with h|h
  ·cases h;exact⟨_,AM (names:=r) (by rw[cy dz];exact ck)⟩
  ·exact tT (names:=r) h
theorem vZ{β:Type}{x:Str}{c:β}:∀{l:List (Str×β)},(x,c)∈l->∃c',l.lookup x=some c'
 | (n,v)::r,h=>by
  cases e:x==n with
  |true=>exact⟨v,by rw[iz,e]⟩
  |false=>
   rcases mem_cons.mp h with h|h
   ·cases h;simp at e
   ·obtain⟨c',q⟩:=vZ (l:=r) h;exact⟨c',by rw[iz,e];exact q⟩
theorem HP{env:Env}{scope:Scope}(h:∀y∈scope.names,y.2=.free->(env.cells.lookup y.1).isSome=true):closureFor scope env=pure (e9 env scope.names []):=by
 have go:∀(names:List (Str×jy)) (acc:List (Str×Addr)),(∀y∈names,y.2=.free->(env.cells.lookup y.1).isSome=true) ->
   (forIn names acc (fun(x:Str×jy) (cs:List (Str×Addr))=>(if x.2==.free then (do let c <- cellOf env x.1;pure (lp ((x.1,c)::cs)))else pure (lp cs):Sem (ForInStep (List (Str×Addr))))))=(pure (e9 env names acc):Sem (List (Str×Addr))):=by
  intro names;induction names with
  |nil=>intro acc _;rfl
  |cons y r ih=>
   intro acc hy;obtain⟨n,k⟩:=y;rw[List.forIn_cons];by_cases hk:k==.free
   ·have hs:=hy (n,k) ck (by simpa using hk);obtain⟨c,hc⟩:=isSome_iff_exists.mp hs;have aa:env.cells.lookup n=some c:=hc;simp only[hk,if_true,cellOf,aa,pure_bind,e9,Option.getD_some];exact ih _ fun y z=>hy y (bw _ z)
   ·simp only[hk,gy,if_false,pure_bind,e9];exact ih _ fun y z=>hy y (bw _ z)
 have g:=go scope.names [] h;exact(bind_pure _).trans g
def bZ(DN:List Str)(dsc sc:List (Str×jy))(N:List Str)(caps:List (Option Nat)):Bool:=
 (caps.length==N.length)&&sc.all (fun y=>y.2 != .cell&&(y.2 != .free||dsc.lookup y.1==some .cell)&&(y.2 != .local||sc.lookup y.1==some .local)) &&
 (caps.zip N).all fun p=>match p.1 with|none=>true|some i=>DN[i]?==some p.2&&dsc.lookup p.2==some .cell&&sc.lookup p.2==some .free
theorem v9{dsc:List (Str×jy)}{env:Env}{x:Str}{k:jy}:∀{names:List (Str×jy)},(names.map fun(n,k)=>if (k==.free&&env.scope.kind==.function&&env.kindOf n==some .cell)then (n,.cell)else (n,k)).lookup x=some k ->
  ∃k',names.lookup x=some k'/\(k'=k\/(k'=.free/\k=.cell))
 | [],h=>by simp at h
 | (n,k0)::r,h=>by
  cases e:x==n with
  |true=>
   refine⟨k0,by rw[iz,e],?_⟩;rw[dq]at h;dsimp only at h;split at h
   ·rename_i hc;rw[iz,e]at h;have:k0=.free:=by simp at hc;exact hc.1.1
    cases h;exact .inr ⟨this,rfl⟩
   ·rw[iz,e]at h;cases h;exact .inl rfl
  |false=>
   rw[dq]at h;dsimp only at h;have h':(r.map fun(n,k)=>if (k==NameKind.free&&env.scope.kind==.function&&env.kindOf n==some .cell)then (n,NameKind.cell)else (n,k)).lookup x=some k:=by
    split at h<;>(rw[iz,e]at h;exact h)
   obtain⟨k',q,z⟩:=v9 (dsc:=dsc) h';exact⟨k',by rw[iz,e];exact q,z⟩
theorem BH{env:Env}{x:Str}(h1:env.scope.kind=.function)(h2:env.kindOf x=some .cell):∀{names:List (Str×jy)},names.lookup x=some .free ->
  (names.map fun(n,k)=>if (k==.free&&env.scope.kind==.function&&env.kindOf n==some .cell)then (n,.cell)else (n,k)).lookup x=some .cell
 | [],h=>by simp at h
 | (n,k0)::r,h=>by
  rw[dq];cases e:x==n with
  |true=>
   rw[iz,e]at h;cases h;have en:x=n:=by simpa using e
   subst en;dsimp only;rw[cy (by rw[h1,h2];decide),iz,e]
  |false=>
   rw[iz,e]at h;have ih:=BH h1 h2 (names:=r) h;dsimp only;split<;>(rw[iz,e];exact ih)
theorem cA{X:Cx}{dsc:Scope}{L:Nat}{scope:Scope}{N:List Str}{caps:List (Option Nat)}(hd:X.env.scope=dsc)(hc:X.env.cells=cellsFrom L dsc.names [])(ah:dsc.kind=.function)(hk:scope.kind=.function)(h:bZ X.N dsc.names scope.names N caps=true):
  CompOk X scope (e9 X.env scope.names []) N caps:=by
 subst hd;simp only[bZ,jq,all_eq_true,beq_iff_eq]at h;obtain⟨⟨hl,hs⟩,hz⟩:=h;have aa:∀y∈scope.names,y.2=.free->X.env.scope.names.lookup y.1=some .cell:=fun y hy e=>by
  have q:=(hs y hy).1.2;rw[e]at q;simpa using q
 have ae:∀y∈scope.names,y.2≠.cell:=fun y hy e=>by
  have q:=(hs y hy).1.1;rw[e]at q;simp at q
 have ac:∀x,X.env.scope.names.lookup x=some .cell->(X.env.cells.lookup x).isSome=true:=fun x e=>by
  rw[hc];exact W.cellsFrom_some _ _ _ (.inl e)
 have sub:∀x c,(e9 X.env scope.names []).lookup x=some c->X.env.cells.lookup x=some c:=fun x c e=>by
  rcases Bg (PySem.mem_of_lookup e)with q|⟨q,ec⟩
  ·cases q
  ·obtain⟨c',af⟩:=isSome_iff_exists.mp (ac x (aa _ q rfl));rw[ec,af];rfl
 refine⟨HP fun y hy e=>ac y.1 (aa y hy e),sub,hk,ae,fun y hy e=>?_,fun x hx=>?_,fun j i x h1 h2=>?_,hl⟩
 ·have q:=(hs y hy).2;rw[e]at q;simpa using q
 ·have fin:(x,NameKind.free)∈scope.names->∃c,(e9 X.env scope.names []).lookup x=some c:=fun m=>by
   obtain⟨c,hm⟩:=tT (env:=X.env) (acc:=[]) m;exact vZ hm
  rcases hx with hx|hx
  ·obtain⟨k',q,z⟩:=v9 (dsc:=[]) hx;rcases z with rfl|⟨rfl,_⟩
   ·exact absurd rfl (ae _ (PySem.mem_of_lookup q))
   ·exact fin (PySem.mem_of_lookup q)
  ·obtain⟨k',q,z⟩:=v9 (dsc:=[]) hx;rcases z with rfl|⟨_,z⟩
   ·exact fin (PySem.mem_of_lookup q)
   ·cases z
 ·have hm:(some i,x)∈caps.zip N:=by
   have:(caps.zip N)[j]?=some (some i,x):=by rw[List.getElem?_zip_eq_some];exact⟨h1,h2⟩
   exact cj this
  have q:=hz _ hm;simp only[jq,beq_iff_eq]at q;obtain⟨⟨q1,q2⟩,q3⟩:=q;obtain⟨c,ag⟩:=tT (env:=X.env) (acc:=[]) (PySem.mem_of_lookup q3);obtain⟨c',af⟩:=vZ ag;refine⟨q1,.inr (.inl q2),fun z=>?_,c',af,.inl (BH ah q2 q3)⟩;have z':X.env.scope.names.lookup x=some .local:=z;rw[q2]at z';cases z'
end
section
section
variable {X:Cx}
def x3:R2:=fun x y H Q=>∃z n,x=.str z/\y=.int n/\z.length<=1000/\n<=1000/\-1000<=n/\Q (.str (PySem.Txt.mul z n)) H
theorem GJ{z:Str}{n:Int}(h1:z.length<=1000)(h2:n<=1000)(h3:-1000<=n):PySem.MulOk z n:=by
 refine⟨by simp;omega,fun a _ b=>?_,fun a _=>?_⟩
 ·have e:(1000:Int)<=(2 ^ 63-1)/n:=by
   rw[Int.le_ediv_iff_mul_le yw];have:=Int.mul_le_mul_of_nonneg_left h2 (show (0:Int)<=1000 by decide);omega
  omega
 ·have e:z.length*n.toNat<=1000*1000:=Nat.mul_le_mul h1 yw;unfold Builtin.Str.tooLong;simp only[decide_eq_false_iff_not,Nat.not_lt];exact ip e dz
theorem GS:OpR X (jf .Mult) x3:=by
 intro zf s σ H x y v u Q I rx ry h;obtain⟨z,n,rfl,rfl,h1,h2,h3,q⟩:=h;obtain⟨t,rfl⟩:=rx;obtain⟨t',rfl⟩:=ry;exact PySem.SB.mul (GJ h1 h2 h3) fun _ k=>⟨.str _,H,I.tok _,⟨_,rfl⟩,q⟩
def Bp:V->Option Int->Option Int->Hp->VK->Prop:=fun x lo hi H Q=>∃z,x=.str z/\z.length<=br/\Q (.str (PySem.Txt.slice z lo hi)) H
theorem KJ:SlR X Bp:=by
 intro zf s σ H x v vl vu lo hi sl Q I rx hs pl pu h;obtain⟨z,rfl,hz,q⟩:=h;obtain⟨t,rfl⟩:=rx;refine⟨"str",_,F.slot_str_getitem.lookup,typeIs_str _ _ _,?_⟩;have fin:∀(a b:Option (Int×Tok)),a.map (·.1)=lo->b.map (·.1)=hi->s.heap.IsSlice sl a b none->bo (model X.prog X.w) X.A (getItem (.str z t) (.ref sl)) (EP X zf σ Q) X.xe s:=fun a b e1 e2 aa=>by
  subst e1 e2;exact wpAny_getItem_str_slice (l:=a) (u:=b) (st:=none) aa rfl (post_val_or_str ⟨ip (PySem.Txt.slice_le z _ _) hz,fun _ k=>⟨.str _,H,I.tok _,⟨_,rfl⟩,q⟩⟩)
 cases pl with
 |none=>
  cases pu with
  |none=>exact fin none none rfl rfl hs
  |int j tj=>exact fin none (some (j,tj)) rfl rfl hs
 |int i ti=>
  cases pu with
  |none=>exact fin (some (i,ti)) none rfl rfl hs
  |int j tj=>exact fin (some (i,ti)) (some (j,tj)) rfl rfl hs
theorem Bz:∀{zs:List Str}{us:List bb},Vals (zs.map V.str) us->StrsAre us zs
 | [],_,.nil=>.nil
 |z::zs,_,.cons r t=>by
  obtain⟨tk,rfl⟩:=r;exact .cons z tk (Bz t)
def BU(K:bj):V->List V->Hp->VK->Prop:=fun x vs H Q=>∃z a zs,x=.str z/\vs=[.ref a]/\SqL K H a (zs.map V.str)/\z.length<=16/\zs.length<=1000/\(∀y∈zs,y.length<=1000)/\Q (.str (PySem.Txt.join z zs)) H
theorem A4{zs:List Str}(h:∀y∈zs,y.length<=1000):(zs.map (·.length)).sum<=zs.length*1000:=by
 induction zs with
 |nil=>simp
 |cons z zs ih=>
  have h1:=h z ck;have h2:=ih fun y hy=>h y (bw _ hy);simp only[dq,List.sum_cons,cn,Nat.add_mul,Nat.one_mul];omega
theorem Iv:MtR X "str.join" (BU X.K):=by
 intro zf s σ H x vs v us Q I rx rv h;obtain⟨z,a,zs,rfl,rfl,hq,hz,hn,hl,q⟩:=h;obtain⟨t,rfl⟩:=rx;obtain⟨u,rfl,r1⟩:=rv.one;cases r1;obtain⟨aa,r,pl,hsz⟩:=I.list hq;have hs:=A4 hl;refine join_listW pl.isList (by simpa using Bz r) hz yw fun _ k=>⟨.str _,H,I.tok _,⟨_,rfl⟩,q⟩
end
section
variable {K:bj}{o:List Addr}{σ:St}{H0:Hp}{t:TE}{ta:TA}{ds:List bd}
def fU(lo:Int)(n:Nat):List bd:=(dj n).map fun k:Nat=>.int (lo+k)
theorem kF{lo:Int}{n:Nat}:(fU lo n).length=n:=by simp[fU]
theorem r9{lo:Int}{n i:Nat}{d:bd}(h:(fU lo n)[i]?=some d):i<n/\d=.int (lo+i):=by
 have hi:i<n:=by
  have:=List.getElem?_eq_some_iff.mp h;obtain⟨hl,_⟩:=this
  rwa [kF]at hl
 refine⟨hi,?_⟩;simp only[fU,gi,List.getElem?_range hi,map_some,Option.some.injEq]at h;exact h.symm
end
theorem Fd{y:Str}{zs:List Str}(hy:y.length<=16)(hz:∀z∈zs,z.length<=1000):(PySem.Txt.join y zs).length<=zs.length*1016:=by
 show (Builtin.Str.glued y zs).length<=_;rw[StrLaws.glued_eq_join];cases zs with
 |nil=>exact mj _
 |cons a r=>
  rw[len_join_cons];have h1:=A4 hz;have h2:r.length*y.length<=r.length*16:=Nat.mul_le_mul_left _ hy;simp only[cn]at h1 ⊢;omega
def aV{α:Type}(xs:List α)(lo hi:Option Int):List α:=(xs.drop (HT.sIx xs.length 0 lo)).take (HT.sIx xs.length xs.length hi-HT.sIx xs.length 0 lo)
theorem HasL.drop{H:Hp}:∀{ds:List bd}{vs:List V} (n:Nat),HasL H ds vs->HasL H (ds.drop n) (vs.drop n)
 |ds,vs,0,h=>h
 | [],vs,n+1,h=>by rw[zv.mp h];exact zv.mpr rfl
 |d::ds,vs,n+1,h=>by
  obtain⟨v,r,rfl,_,l⟩:=zn.mp h;exact HasL.drop n l
theorem HasL.take{H:Hp}:∀{ds:List bd}{vs:List V} (n:Nat),HasL H ds vs->HasL H (ds.take n) (vs.take n)
 |ds,vs,0,h=>zv.mpr rfl
 | [],vs,n+1,h=>by rw[zv.mp h];exact zv.mpr rfl
 |d::ds,vs,n+1,h=>by
  obtain⟨v,r,rfl,q,l⟩:=zn.mp h;exact zn.mpr ⟨v,_,rfl,q,HasL.take n l⟩
theorem HasL.cut{H:Hp}{ds:List bd}{vs:List V}(lo hi:Option Int)(h:HasL H ds vs):HasL H (aV ds lo hi) (dY vs lo hi):=by
 unfold aV dY;rw[h.length];exact(h.drop _).take _
theorem HasL.rev{H:Hp}:∀{ds:List bd}{vs:List V},HasL H ds vs->HasL H ds.reverse vs.reverse
 | [],vs,h=>by rw[zv.mp h];exact zv.mpr rfl
 |d::ds,vs,h=>by
  obtain⟨v,r,rfl,q,l⟩:=zn.mp h;rw[reverse_cons,reverse_cons];exact(HasL.rev l).append (zn.mpr ⟨v,[],rfl,q,zv.mpr rfl⟩)
end
section
theorem Ao:∀{l:List Addr}{H:Hp}{b:Addr}{u:HO},vw l H b=some u↔b∉l/\H b=some u
 | [],H,b,u=>by simp[vw]
 |a::r,H,b,u=>by
  show hid a (vw r H) b=some u↔_;by_cases h:b=a
  ·subst h;simp[GO]
  ·rw[Gb h,Ao];simp[h]
def vx(h o:List Addr)(H:Hp):Hp:=vw (h++o) H
theorem zL{h o:List Addr}{H:Hp}{b:Addr}{u:HO}:vx h o H b=some u↔b∉h/\b∉o/\H b=some u:=by
 unfold vx;rw[Ao];simp[and_assoc]
theorem zU{h o:List Addr}{H:Hp}:Same (vx h o H) H:=fun b u e=>(zL.mp e).2.2
theorem tJ{h o:List Addr}{H H':Hp}(s:Same H H'):Same (vx h o H) (vx h o H'):=fun b u e=>by
 obtain⟨h1,h2,h3⟩:=zL.mp e;exact zL.mpr ⟨h1,h2,s b u h3⟩
structure Ex(o:List Addr)(H:Hp)(o':List Addr)(H':Hp):Prop where
 pre:∃r,o'=o++r
 kp:∀b u,b∉o->H b=some u->b∉o'/\H' b=some u
section
variable {h o o' o'':List Addr}{H H' H'':Hp}{S:List (List bd)}{p a:Addr}
theorem Ex.refl:Ex o H o H:=⟨⟨[],yv⟩,fun _ _ a b=>⟨a,b⟩⟩
theorem Ex.trans(a:Ex o H o' H')(b:Ex o' H' o'' H''):Ex o H o'' H'':=by
 obtain⟨⟨r,e⟩,ka⟩:=a;obtain⟨⟨t,e'⟩,kb⟩:=b;refine⟨⟨r++t,by rw[e',e,fz]⟩,fun b u h1 h2=>?_⟩;obtain⟨h3,h4⟩:=ka b u h1 h2;exact kb b u h3 h4
theorem Ex.vx(e:Ex o H o' H'):Same (L2.vx h o H) (L2.vx h o' H'):=fun b u q=>by
 obtain⟨h1,h2,h3⟩:=zL.mp q;obtain⟨h4,h5⟩:=e.kp b u h2 h3;exact zL.mpr ⟨h1,h4,h5⟩
structure ExH(h o:List Addr)(H:Hp)(o':List Addr)(H':Hp):Prop where
 pre:∃r,o'=o++r
 kp:∀b u,b∉h->b∉o->H b=some u->b∉o'/\H' b=some u
theorem Ex.hid(e:Ex o H o' H'):ExH h o H o' H':=⟨e.pre,fun b u _=>e.kp b u⟩
theorem ExH.refl:ExH h o H o H:=Ex.refl.hid
theorem ExH.trans(a:ExH h o H o' H')(b:ExH h o' H' o'' H''):ExH h o H o'' H'':=by
 obtain⟨⟨r,e⟩,ka⟩:=a;obtain⟨⟨t,e'⟩,kb⟩:=b;refine⟨⟨r++t,by rw[e',e,fz]⟩,fun b u h0 h1 h2=>?_⟩;obtain⟨h3,h4⟩:=ka b u h0 h1 h2;exact kb b u h0 h3 h4
theorem ExH.vx(e:ExH h o H o' H'):Same (L2.vx h o H) (L2.vx h o' H'):=fun b u q=>by
 obtain⟨h1,h2,h3⟩:=zL.mp q;obtain⟨h4,h5⟩:=e.kp b u h1 h2 h3;exact zL.mpr ⟨h1,h4,h5⟩
theorem Ex.of_same(s:Same H H'):Ex o H o H':=⟨⟨[],yv⟩,fun b u h e=>⟨h,s b u e⟩⟩
theorem fH{α:Type}{l t:List α}{k:Nat}{a:α}(q:l[k]?=some a):(l++t)[k]?=some a:=by
 obtain⟨hk,_⟩:=List.getElem?_eq_some_iff.mp q;rw[dm hk];exact q
def exO(a C:Addr)(d:Option Addr):HO:=.ext fun h=>∃o,h.get? a=some o/\o.cls=.ref C/\o.dict=d/\∃vs,o.data=.fields vs/\vs[2]?=some .none
def xw(dx:Addr)(fs:List (Str×V)):HO:=.ext fun h=>∃mA,h.Ns1 dx mA/\(∀f,RelO (fs.lookup f) (mA f))/\PySem.Within mA (fs.map (·.1))
def HasE(H:Hp)(C:Addr)(fs:List (Str×bd))(v:V):Prop:=∃a d,v=.ref a/\H a=some (exO a C d)/\∀f dt,fs.lookup f=some dt->∃dx vs u,d=some dx/\H dx=some (xw dx vs)/\vs.lookup f=some u/\Has H dt u
theorem HasE.mono{H H':Hp}{C:Addr}{fs:List (Str×bd)}{v:V}(s:Same H H')(q:HasE H C fs v):HasE H' C fs v:=by
 obtain⟨a,d,e,ha,hf⟩:=q;refine⟨a,d,e,s _ _ ha,fun f dt l=>?_⟩;obtain⟨dx,vs,u,e1,e2,e3,e4⟩:=hf f dt l;exact⟨dx,vs,u,e1,s _ _ e2,e3,Has.mono s _ _ e4⟩
inductive XV where
 |d (d:bd)
 |l (k:Nat)
 |o (v:V)
 |x (C:Addr) (fs:List (Str×bd))
 |p (k:Nat) (d:bd)
def HasLP(h o:List Addr)(H:Hp)(k:Nat)(d:bd)(v:V):Prop:=∃t a u,v=.ref t/\o[k]?=some a/\vx h o H t=some (.tup [.ref a,u])/\Has (vx h o H) d u
theorem HasLP.to{h':List Addr}{k:Nat}{d:bd}{v:V}(s:Same (vx h o H) (vx h' o' H'))(e:∀a,o[k]?=some a->o'[k]?=some a)(q:HasLP h o H k d v):HasLP h' o' H' k d v:=by
 obtain⟨t,a,u,e1,e2,e3,e4⟩:=q;exact⟨t,a,u,e1,e a e2,s _ _ e3,Has.mono s _ _ e4⟩
def HasX(h o:List Addr)(H:Hp):XV->V->Prop
 | .d d,v=>Has (vx h o H) d v
 | .l k,v=>∃a,o[k]?=some a/\v=.ref a
 | .o w,v=>v=w
 | .x C fs,v=>HasE (vx h o H) C fs v
 | .p k d,v=>HasLP h o H k d v
theorem HasX.mono(e:Ex o H o' H'):∀{x:XV}{v:V},HasX h o H x v->HasX h o' H' x v
 | .d d,v,q=>Has.mono e.vx d v q
 | .l k,v,⟨a,q,r⟩=>by
  obtain⟨t,rfl⟩:=e.pre;exact⟨a,fH q,r⟩
 | .o w,v,q=>q
 | .x C fs,v,q=>HasE.mono e.vx q
 | .p k d,v,q=>by
  have ev:=e.vx (h:=h);obtain⟨t,rfl⟩:=e.pre;exact HasLP.to ev (fun a z=>fH z) q
def HasXs(h o:List Addr)(H:Hp):List XV->List V->Prop
 | [],vs=>vs=[]
 |x::xs,vs=>∃v r,vs=v::r/\HasX h o H x v/\HasXs h o H xs r
abbrev Sto:=List (List bd)
inductive MO where
 |l (vs:List V)
 |k (m:List (Key×V))
 |t (m:List (List Key×V))
 |x (a:Addr) (ob:Obj)
def MO.ho:MO->HO
 | .l vs=>.lst vs
 | .k m=>.dK m
 | .t m=>.dT m
 | .x a ob=>obO a ob
structure RepS(h o:List Addr)(H:Hp)(S:Sto):Prop where
 len:S.length=o.length
 nd:o.Nodup
 dis:∀a∈o,a∉h
 hal:∀b∈h,∃u:MO,H b=some u.ho
 cont:∀(k:Nat) (a:Addr) (ds:List bd),o[k]?=some a->S[k]?=some ds->∃vs,H a=some (.lst vs)/\HasL (vx h o H) ds vs
theorem KN{α β:Type}{l:List α}{t:List β}{k:Nat}{a:α}(hl:t.length=l.length)(q:l[k]?=some a):∃b,t[k]?=some b:=by
 obtain⟨hk,_⟩:=List.getElem?_eq_some_iff.mp q;exact⟨t[k]'yw,bq _⟩
theorem RepS.oal(r:RepS h o H S):∀a∈o,∃u,H a=some (.lst u):=fun a ha=>by
 obtain⟨k,hk⟩:=mem_iff_getElem?.mp ha;obtain⟨ds,e⟩:=KN r.len hk;obtain⟨vs,e',_⟩:=r.cont k a ds hk e;exact⟨_,e'⟩
theorem RepS.oam(r:RepS h o H S):∀a∈o,∃u:MO,H a=some u.ho:=fun a ha=>let ⟨u,e⟩:=r.oal a ha;⟨.l u,e⟩
theorem RepS.fresh(r:RepS h o H S)(hp:H p=none):p∉h/\p∉o:=by
 constructor
 ·intro m;obtain⟨u,e⟩:=r.hal p m;rw[hp]at e;cases e
 ·intro m;obtain⟨u,e⟩:=r.oal p m;rw[hp]at e;cases e
theorem RepS.same(r:RepS h o H S)(s:Same H H'):RepS h o H' S where
 len:=r.len
 nd:=r.nd
 dis:=r.dis
 hal:=fun b m=>by obtain⟨u,e⟩:=r.hal b m;exact⟨u,s b _ e⟩
 cont:=fun k a ds e1 e2=>by
  obtain⟨vs,e3,l⟩:=r.cont k a ds e1 e2;exact⟨vs,s _ _ e3,HasL.mono (tJ s) _ _ l⟩
theorem RepS.laid{u:HO}(r:RepS h o H S)(hp:H p=none):vx h o (upd H p u) p=some u:=by
 obtain⟨h1,h2⟩:=r.fresh hp;exact zL.mpr ⟨h1,h2,zP⟩
theorem Ex.new{u:HO}(r:RepS h o H S)(hp:H p=none):Ex o H (o++[p]) (upd H p u):=by
 refine⟨⟨[p],rfl⟩,fun b w hb e=>?_⟩;have ne:b≠p:=zG e hp;exact⟨by simp[hb,ne],by rw[zE ne];exact e⟩
theorem pE{α:Type}{l:List α}{a:α}(h:l.Nodup)(n:a∉l):(l++[a]).Nodup:=by
 rw[nodup_append];refine⟨h,yv,fun x hx y hy e=>?_⟩;rw[mem_singleton]at hy;subst hy;subst e;exact n hx
theorem RepS.new{ds:List bd}{vs:List V}(r:RepS h o H S)(hp:H p=none)(l:HasL (vx h o H) ds vs):RepS h (o++[p]) (upd H p (.lst vs)) (S++[ds]):=by
 obtain⟨h1,h2⟩:=r.fresh hp;have ex:Ex o H (o++[p]) (upd H p (.lst vs)):=Ex.new r hp;refine⟨by simp[r.len],pE r.nd h2,fun a ha=>?_,fun b hb=>?_,fun k a es e1 e2=>?_⟩
 ·rcases mem_append.mp ha with ha|ha
  ·exact r.dis a ha
  ·rw[mem_singleton.mp ha];exact h1
 ·obtain⟨u,e⟩:=r.hal b hb;exact⟨u,by rw[zE (zG e hp)];exact e⟩
 ·by_cases hk:k<o.length
  ·rw[dm hk]at e1;rw[dm (by rw[r.len];exact hk)]at e2;obtain⟨ws,e3,l3⟩:=r.cont k a es e1 e2;refine⟨ws,?_,l3.mono ex.vx⟩;rw[zE (zG e3 hp)];exact e3
  ·have z:k=o.length:=by
    obtain⟨q,_⟩:=List.getElem?_eq_some_iff.mp e1;rw[bx,fb]at q;omega
   subst z;rw[bn]at e1;rw[<- r.len,bn]at e2;cases e1;cases e2;exact⟨vs,zP,l.mono ex.vx⟩
theorem Ex.upd{k:Nat}{u:HO}(e:o[k]?=some a):Ex o H o (L2.upd H a u):=
 ⟨⟨[],yv⟩,fun b w hb eb=>⟨hb,by rw[zE (fun z=>hb (by rw[z];exact cj e))];exact eb⟩⟩
theorem pW{l:List Addr}(h:l.Nodup){i j:Nat}{a:Addr}(e1:l[i]?=some a)(e2:l[j]?=some a):i=j:=by
 obtain⟨hi,e1⟩:=List.getElem?_eq_some_iff.mp e1;obtain⟨hj,e2⟩:=List.getElem?_eq_some_iff.mp e2;exact(List.getElem_inj h).mp (e1.trans e2.symm)
theorem RepS.upd{k:Nat}{ds:List bd}{vs:List V}(r:RepS h o H S)(e:o[k]?=some a)(l:HasL (vx h o H) ds vs):RepS h o (L2.upd H a (.lst vs)) (S.set k ds):=by
 have ex:Ex o H o (L2.upd H a (.lst vs)):=Ex.upd e;refine⟨by simp[r.len],r.nd,r.dis,fun b hb=>?_,fun j b es e1 e2=>?_⟩
 ·obtain⟨u,eb⟩:=r.hal b hb;have ne:b≠a:=fun z=>r.dis a (cj e) (z▸hb);exact⟨u,by rw[zE ne];exact eb⟩
 ·by_cases hj:j=k
  ·subst hj;rw[e1]at e;cases e;obtain⟨hk,_⟩:=List.getElem?_eq_some_iff.mp e1;rw[lw (by rw[r.len];exact hk)]at e2;cases e2;exact⟨vs,zP,l.mono ex.vx⟩
  ·rw[nq (gs hj)]at e2;obtain⟨ws,e3,l3⟩:=r.cont j b es e1 e2;have ne:b≠a:=fun z=>hj (pW r.nd e1 (z▸e));exact⟨ws,by rw[zE ne];exact e3,l3.mono ex.vx⟩
abbrev XE:=List (Option XV)
structure RepE(h o:List Addr)(H:Hp)(δ:XE)(σ:St):Prop where
 len:δ.length=σ.length
 get:∀(i:Nat) x,δ[i]?=some (some x)->∃v,σ[i]?=some (some v)/\HasX h o H x v
variable {δ:XE}{σ:St}
theorem RepE.mono(r:RepE h o H δ σ)(e:Ex o H o' H'):RepE h o' H' δ σ:=⟨r.len,fun i x q=>by
 obtain⟨v,e1,e2⟩:=r.get i x q;exact⟨v,e1,e2.mono e⟩⟩
theorem RepE.set{i:Nat}{x:XV}{v:V}(r:RepE h o H δ σ)(q:HasX h o H x v):RepE h o H (δ.set i (some x)) (σ.set i (some v)):=by
 refine⟨by simp[r.len],fun j y e=>?_⟩;rw[List.getElem?_set]at e ⊢;by_cases hij:i=j
 ·rw[cy hij]at e ⊢;by_cases hl:i<δ.length
  ·rw[cy hl]at e;rw[cy (by rw[<- r.len];exact hl)];cases e;exact⟨v,rfl,q⟩
  ·rw[bv hl]at e;cases e
 ·rw[bv hij]at e ⊢;exact r.get j y e
def eR(caps:List (Option Nat))(δ:XE):XE:=caps.map fun o=>o.bind fun i=>(δ[i]?).join
theorem RepE.tau{caps:List (Option Nat)}(r:RepE h o H δ σ):RepE h o H (eR caps δ) (L2.tau caps σ):=by
 refine⟨by simp[eR,L2.tau],fun i x e=>?_⟩;unfold eR at e;unfold L2.tau;rw[gi]at e ⊢;cases hc:caps[i]? with
 |none=>rw[hc]at e;cases e
 |some c=>
  rw[hc]at e;cases c with
  |none=>cases e
  |some j=>
   have e':(δ[j]?).join=some x:=by simpa using e
   have e2:δ[j]?=some (some x):=by
    cases hd:δ[j]? with
    |none=>rw[hd]at e';cases e'
    |some y=>rw[hd]at e';exact congrArg some (by simpa using e')
   obtain⟨v,e3,e4⟩:=r.get j x e2;exact⟨v,by simp[e3],e4⟩
end
abbrev RX:=XV->Sto->Prop
abbrev DE:=XE->Sto->RX->Prop
abbrev DT:=XE->Sto->(Bool->Sto->Prop)->Prop
abbrev DA:=XE->Sto->(List XV->Sto->Prop)->Prop
abbrev D2:=XV->XV->Sto->RX->Prop
def Cn(h o:List Addr)(H:Hp)(R:RX)(Q:VK):Prop:=∀o' H' S' x v,Ex o H o' H'->RepS h o' H' S'->HasX h o' H' x v->R x S'->Q v H'
theorem Cn.pre{h o o':List Addr}{H H':Hp}{R:RX}{Q:VK}(c:Cn h o H R Q)(e:Ex o H o' H'):Cn h o' H' R Q:=fun o2 H2 S2 x v e2=>c o2 H2 S2 x v (e.trans e2)
def RE(t:TE)(dt:DE):Prop:=∀(h o:List Addr) (H:Hp) (δ:XE) (σ:St) (S:Sto) (R:RX) (Q:VK),RepE h o H δ σ->RepS h o H S->dt δ S R->Cn h o H R Q->t σ H Q
def RT(t:TT)(dt:DT):Prop:=∀(h o:List Addr) (H:Hp) (δ:XE) (σ:St) (S:Sto) (R:Bool->Sto->Prop) (Q:Bool->Hp->Prop),RepE h o H δ σ->RepS h o H S->dt δ S R ->
 (∀o' H' S' b,Ex o H o' H'->RepS h o' H' S'->R b S'->Q b H')->t σ H Q
def RA(t:TA)(dt:DA):Prop:=∀(h o:List Addr) (H:Hp) (δ:XE) (σ:St) (S:Sto) (R:List XV->Sto->Prop) (Q:List V->Hp->Prop),RepE h o H δ σ->RepS h o H S->dt δ S R ->
 (∀o' H' S' xs vs,Ex o H o' H'->RepS h o' H' S'->HasXs h o' H' xs vs->R xs S'->Q vs H')->t σ H Q
def RO(r:R2)(rd:D2):Prop:=∀(h o:List Addr) (H:Hp) (S:Sto) (x y:XV) (v u:V) (R:RX) (Q:VK),RepS h o H S->HasX h o H x v->HasX h o H y u->rd x y S R->Cn h o H R Q->r v u H Q
def RU(r:V->Hp->VK->Prop)(rd:XV->Sto->RX->Prop):Prop:=∀(h o:List Addr) (H:Hp) (S:Sto) (x:XV) (v:V) (R:RX) (Q:VK),RepS h o H S->HasX h o H x v->rd x S R->Cn h o H R Q->r v H Q
def RC(r:List V->Hp->VK->Prop)(rd:List XV->Sto->RX->Prop):Prop:=∀(h o:List Addr) (H:Hp) (S:Sto) (xs:List XV) (vs:List V) (R:RX) (Q:VK),RepS h o H S->HasXs h o H xs vs->rd xs S R->Cn h o H R Q->r vs H Q
def asI:XV->(Int->Prop)->Prop
 | .d (.int i),k=>k i
 |_,_=>False
def asB:XV->(Bool->Prop)->Prop
 | .d (.bool i),k=>k i
 |_,_=>False
def asS:XV->(Str->Prop)->Prop
 | .d (.str i),k=>k i
 |_,_=>False
def asT:XV->(List bd->Prop)->Prop
 | .d (.tuple i),k=>k i
 |_,_=>False
def c5(S:Sto):XV->Option (List bd)
 | .d (.list ds)=>some ds
 | .l k=>S[k]?
 |_=>none
def asL(S:Sto)(x:XV)(k:List bd->Prop):Prop:=∃ds,c5 S x=some ds/\k ds
def b0(S:Sto):XV->Option bd
 | .d d=>some d
 | .l k=>(S[k]?).map .list
 | .o _=>none
 | .x _ _=>none
 | .p k d=>(S[k]?).map fun l=>.tuple [.list l,d]
def asD(x:XV)(k:bd->Prop):Prop:=match x with
 | .d d=>k d
 |_=>False
theorem bA{x:XV}{k:Int->Prop}(h:asI x k):∃i,x=.d (.int i)/\k i:=by
 unfold asI at h;split at h
 ·exact⟨_,rfl,h⟩
 ·exact h.elim
theorem n6{x:XV}{k:Bool->Prop}(h:asB x k):∃i,x=.d (.bool i)/\k i:=by
 unfold asB at h;split at h
 ·exact⟨_,rfl,h⟩
 ·exact h.elim
theorem uY{x:XV}{k:Str->Prop}(h:asS x k):∃i,x=.d (.str i)/\k i:=by
 unfold asS at h;split at h
 ·exact⟨_,rfl,h⟩
 ·exact h.elim
theorem m7{x:XV}{k:List bd->Prop}(h:asT x k):∃i,x=.d (.tuple i)/\k i:=by
 unfold asT at h;split at h
 ·exact⟨_,rfl,h⟩
 ·exact h.elim
theorem c4{x:XV}{k:bd->Prop}(h:asD x k):∃i,x=.d i/\k i:=by
 unfold asD at h;split at h
 ·exact⟨_,rfl,h⟩
 ·exact h.elim
section
variable {h o:List Addr}{H:Hp}{S:Sto}{x:XV}{v:V}{i:Int}{b:Bool}{z:Str}{ds:List bd}{d:bd}
theorem aY(q:HasX h o H (.d (.int i)) v):v=.int i:=(d9 (H:=vx h o H)).mp q
theorem gQ(q:HasX h o H (.d (.bool b)) v):v=.bl b:=(gM (H:=vx h o H)).mp q
theorem eZ(q:HasX h o H (.d (.str z)) v):v=.str z:=(fX (H:=vx h o H)).mp q
theorem f6(q:HasX h o H (.d (.tuple ds)) v):∃a vs,v=.ref a/\H a=some (.tup vs)/\HasL (vx h o H) ds vs:=by
 obtain⟨a,vs,e,q,l⟩:=zW.mp (show Has _ _ _ from q);exact⟨a,vs,e,zU _ _ q,l⟩
theorem bW(r:RepS h o H S)(e:c5 S x=some ds)(q:HasX h o H x v):∃a vs,v=.ref a/\H a=some (.lst vs)/\HasL (vx h o H) ds vs:=by
 unfold c5 at e;split at e
 ·cases e;obtain⟨a,vs,e,q,l⟩:=cU.mp (show Has _ _ _ from q);exact⟨a,vs,e,zU _ _ q,l⟩
 ·obtain⟨a,e1,rfl⟩:=q;obtain⟨vs,e2,l⟩:=r.cont _ a ds e1 e;exact⟨a,vs,rfl,e2,l⟩
 ·cases e
theorem dF(r:RepS h o H S)(e:b0 S x=some d)(q:HasX h o H x v):Has H d v:=by
 unfold b0 at e;split at e
 ·cases e;exact Has.mono zU _ _ q
 ·rename_i k;obtain⟨a,e1,rfl⟩:=q;cases hs:S[k]? with
  |none=>rw[hs]at e;cases e
  |some es=>
   rw[hs]at e;cases e;obtain⟨vs,e2,l⟩:=r.cont k a es e1 hs;exact cU.mpr ⟨a,vs,rfl,e2,HasL.mono zU _ _ l⟩
 ·cases e
 ·cases e
 ·rename_i k d';obtain⟨t,a,u,rfl,e1,e3,e4⟩:=q;cases hs:S[k]? with
  |none=>rw[hs]at e;cases e
  |some es=>
   rw[hs]at e;cases e;obtain⟨vs,e2,l⟩:=r.cont k a es e1 hs;exact zW.mpr ⟨t,_,rfl,zU _ _ e3,zn.mpr ⟨_,_,rfl,cU.mpr ⟨a,vs,rfl,e2,HasL.mono zU _ _ l⟩,zn.mpr ⟨u,_,rfl,Has.mono zU _ _ e4,zv.mpr rfl⟩⟩⟩
theorem xI(i:Int):HasX h o H (.d (.int i)) (.int i):=(d9 (H:=vx h o H)).mpr rfl
theorem xB(i:Bool):HasX h o H (.d (.bool i)) (.bl i):=(gM (H:=vx h o H)).mpr rfl
theorem xS(i:Str):HasX h o H (.d (.str i)) (.str i):=(fX (H:=vx h o H)).mpr rfl
theorem xN:HasX h o H (.d .none) .non:=(gT (H:=vx h o H)).mpr rfl
theorem kA{vs:List V}{R:RX}{Q:VK}(r:RepS h o H S)(l:HasL (vx h o H) ds vs)(c:Cn h o H R Q)(q:R (.d (.tuple ds)) S):∀p,H p=none->Q (.ref p) (upd H p (.tup vs)):=fun p hp=>
 c o _ S (.d (.tuple ds)) _ (Ex.of_same (Same.laid hp)) (r.same (Same.laid hp)) (zW.mpr ⟨p,vs,rfl,r.laid hp,l.mono (tJ (Same.laid hp))⟩) q
theorem mZ{vs:List V}{R:RX}{Q:VK}(r:RepS h o H S)(l:HasL (vx h o H) ds vs)(c:Cn h o H R Q)(q:R (.d (.list ds)) S):∀p,H p=none->Q (.ref p) (upd H p (.lst vs)):=fun p hp=>
 c o _ S (.d (.list ds)) _ (Ex.of_same (Same.laid hp)) (r.same (Same.laid hp)) (cU.mpr ⟨p,vs,rfl,r.laid hp,l.mono (tJ (Same.laid hp))⟩) q
theorem Aa{vs:List V}{R:RX}{Q:VK}(r:RepS h o H S)(l:HasL (vx h o H) ds vs)(c:Cn h o H R Q)(q:R (.l S.length) (S++[ds])):∀p,H p=none->Q (.ref p) (upd H p (.lst vs)):=fun p hp=>
 c (o++[p]) _ (S++[ds]) (.l S.length) _ (Ex.new r hp) (r.new hp l) ⟨p,by rw[r.len,bn],rfl⟩ q
theorem k9:∀{xs:List XV}{vs:List V}{ds:List bd},HasXs h o H xs vs->xs=ds.map XV.d->HasL (vx h o H) ds vs
 | [],vs,[],q,_=>zv.mpr q
 |x::xs,vs,d::ds,⟨v,r,e,q,l⟩,e2=>by
  rw[dq]at e2;cases e2;exact zn.mpr ⟨v,r,e,q,k9 l rfl⟩
 |x::xs,vs,[],_,e2=>by cases e2
 | [],vs,d::ds,_,e2=>by cases e2
end
def datas:List XV->Option (List bd)
 | []=>some []
 | .d d::r=>(datas r).map (d :: ·)
 |_::_=>none
theorem eL:∀{xs:List XV}{ds:List bd},datas xs=some ds->xs=ds.map XV.d
 | [],ds,e=>by cases e;rfl
 | .d d::r,ds,e=>by
  unfold datas at e;cases hr:datas r with
  |none=>rw[hr]at e;cases e
  |some es=>
   rw[hr]at e;cases e;rw[eL hr];rfl
 | .l _::_,_,e=>by cases e
 | .o _::_,_,e=>by cases e
 | .x _ _::_,_,e=>by cases e
 | .p _ _::_,_,e=>by cases e
def zj(i:Nat):DE:=fun δ S R=>∃x,δ[i]?=some (some x)/\R x S
def dC(d:bd):DE:=fun _ S R=>R (.d d) S
def dO(v:V):DE:=fun _ S R=>R (.o v) S
def dOp(rd:D2)(a b:DE):DE:=fun δ S R=>a δ S fun x S1=>b δ S1 fun y S2=>rd x y S2 R
def dUn(rd:XV->Sto->RX->Prop)(a:DE):DE:=fun δ S R=>a δ S fun x S1=>rd x S1 R
def zo:DA:=fun _ S R=>R [] S
def zc(a:DE)(b:DA):DA:=fun δ S R=>a δ S fun x S1=>b δ S1 fun xs S2=>R (x::xs) S2
def dCB(rd:List XV->Sto->RX->Prop)(a:DA):DE:=fun δ S R=>a δ S fun xs S1=>rd xs S1 R
def aI(a:DA):DE:=fun δ S R=>a δ S fun xs S1=>∃ds,datas xs=some ds/\ds.length<=1000/\R (.d (.tuple ds)) S1
def aO(a:DA):DE:=fun δ S R=>a δ S fun xs S1=>∃ds,datas xs=some ds/\ds.length<=1000/\R (.d (.list ds)) S1
def cC(a:DA):DE:=fun δ S R=>a δ S fun xs S1=>∃ds,datas xs=some ds/\ds.length<=1000/\R (.l S1.length) (S1++[ds])
section
variable {t ta tb tc:TE}{da db dc:DE}{tl:TA}{dl:DA}{tt tu:TT}{dt du:DT}
theorem zl{i:Nat}:RE (cO i) (zj i):=fun h o H δ σ S R Q he hs ⟨x,e,q⟩ c=>by
 obtain⟨v,e1,e2⟩:=he.get i x e;exact⟨v,e1,c o H S x v Ex.refl hs e2 q⟩
theorem zY{i:Int}:RE (tC (.int i)) (dC (.int i)):=fun h o H δ σ S R Q he hs q c=>c o H S _ _ Ex.refl hs (xI i) q
theorem gS{i:Bool}:RE (tC (.bl i)) (dC (.bool i)):=fun h o H δ σ S R Q he hs q c=>c o H S _ _ Ex.refl hs (xB i) q
theorem kO{i:Str}:RE (tC (.str i)) (dC (.str i)):=fun h o H δ σ S R Q he hs q c=>c o H S _ _ Ex.refl hs (xS i) q
theorem tO:RE (tC .non) (dC .none):=fun h o H δ σ S R Q he hs q c=>c o H S _ _ Ex.refl hs xN q
theorem FY{v:V}:RE (tC v) (dO v):=fun h o H δ σ S R Q he hs q c=>c o H S (.o v) v Ex.refl hs rfl q
theorem zV{r:R2}{rd:D2}(hr:RO r rd)(ha:RE ta da)(hb:RE tb db):RE (tOp r ta tb) (dOp rd da db):=fun h o H δ σ S R Q he hs q c=>
 ha h o H δ σ S _ _ he hs q fun o1 H1 S1 x v e1 s1 x1 d1=>hb h o1 H1 δ σ S1 _ _ (he.mono e1) s1 d1 fun o2 H2 S2 y u e2 s2 y2 d2=>
  hr h o2 H2 S2 x y v u R Q s2 (x1.mono e2) y2 d2 (c.pre (e1.trans e2))
theorem wQ{r:V->Hp->VK->Prop}{rd:XV->Sto->RX->Prop}(hr:RU r rd)(ha:RE ta da):RE (tUn r ta) (dUn rd da):=fun h o H δ σ S R Q he hs q c=>
 ha h o H δ σ S _ _ he hs q fun o1 H1 S1 x v e1 s1 x1 d1=>hr h o1 H1 S1 x v R Q s1 x1 d1 (c.pre e1)
theorem zw:RA kP zo:=fun h o H δ σ S R Q he hs q c=>c o H S [] [] Ex.refl hs rfl q
theorem zk(ha:RE ta da)(hb:RA tl dl):RA (jH ta tl) (zc da dl):=fun h o H δ σ S R Q he hs q c=>
 ha h o H δ σ S _ _ he hs q fun o1 H1 S1 x v e1 s1 x1 d1=>hb h o1 H1 δ σ S1 _ _ (he.mono e1) s1 d1 fun o2 H2 S2 xs vs e2 s2 x2 d2=>
  c o2 H2 S2 (x::xs) (v::vs) (e1.trans e2) s2 ⟨v,vs,rfl,x1.mono e2,x2⟩ d2
theorem bC{r:List V->Hp->VK->Prop}{rd:List XV->Sto->RX->Prop}(hr:RC r rd)(ha:RA tl dl):RE (tCB r tl) (dCB rd dl):=fun h o H δ σ S R Q he hs q c=>
 ha h o H δ σ S _ _ he hs q fun o1 H1 S1 xs vs e1 s1 x1 d1=>hr h o1 H1 S1 xs vs R Q s1 x1 d1 (c.pre e1)
theorem fK(ha:RA tl dl):RE (w4 tl) (aI dl):=fun h o H δ σ S R Q he hs q c=>
 ha h o H δ σ S _ _ he hs q fun o1 H1 S1 xs vs e1 s1 x1 ⟨ds,e,hl,d1⟩=>by
  have l:=k9 x1 (eL e);exact⟨by rw[l.length];exact im (small1000 hl),kA s1 l (c.pre e1) d1⟩
theorem jW(ha:RA tl dl):RE (lA tl) (aO dl):=fun h o H δ σ S R Q he hs q c=>
 ha h o H δ σ S _ _ he hs q fun o1 H1 S1 xs vs e1 s1 x1 ⟨ds,e,hl,d1⟩=>by
  have l:=k9 x1 (eL e);exact⟨by rw[l.length];exact im (small1000 hl),mZ s1 l (c.pre e1) d1⟩
theorem Ec(ha:RA tl dl):RE (lA tl) (cC dl):=fun h o H δ σ S R Q he hs q c=>
 ha h o H δ σ S _ _ he hs q fun o1 H1 S1 xs vs e1 s1 x1 ⟨ds,e,hl,d1⟩=>by
  have l:=k9 x1 (eL e);exact⟨by rw[l.length];exact im (small1000 hl),Aa s1 l (c.pre e1) d1⟩
def dB(a:DE):DT:=fun δ S R=>a δ S fun x S1=>asB x fun b=>R b S1
def b7(a:DT):DT:=fun δ S R=>a δ S fun b S1=>R (!b) S1
def dZ(a b:DT):DT:=fun δ S R=>a δ S fun x S1=>if x=true then b δ S1 R else R false S1
def dOr(a b:DT):DT:=fun δ S R=>a δ S fun x S1=>if x=true then R true S1 else b δ S1 R
def dQ(a b:DE):DE:=fun δ S R=>a δ S fun x S1=>asB x fun c=>if c=true then b δ S1 R else R (.d (.bool false)) S1
def l6(a b:DE):DE:=fun δ S R=>a δ S fun x S1=>asB x fun c=>if c=true then R (.d (.bool true)) S1 else b δ S1 R
def iR(a:DE):DE:=fun δ S R=>a δ S fun x S1=>asB x fun c=>R (.d (.bool (!c))) S1
def dIf(c:DT)(a b:DE):DE:=fun δ S R=>c δ S fun x S1=>if x=true then a δ S1 R else b δ S1 R
theorem nK(ha:RE ta da):RT (oH ta) (dB da):=fun h o H δ σ S R Q he hs q c=>
 ha h o H δ σ S _ _ he hs q fun o1 H1 S1 x v e1 s1 x1 d1=>by
  replace d1:=n6 d1;obtain⟨b,rfl,d1⟩:=d1;exact⟨b,gQ x1,c o1 H1 S1 b e1 s1 d1⟩
theorem jK(ha:RT tt dt):RT (Bl tt) (b7 dt):=fun h o H δ σ S R Q he hs q c=>
 ha h o H δ σ S _ _ he hs q fun o1 H1 S1 b e1 s1 d1=>c o1 H1 S1 _ e1 s1 d1
theorem Fm(ha:RT tt dt)(hb:RT tu du):RT (vV tt tu) (dZ dt du):=fun h o H δ σ S R Q he hs q c=>
 ha h o H δ σ S _ _ he hs q fun o1 H1 S1 b e1 s1 d1=>by
  cases b with
  |true=>exact eT (hb h o1 H1 δ σ S1 R Q (he.mono e1) s1 (by simpa using d1) fun o2 H2 S2 b e2=>c o2 H2 S2 b (e1.trans e2))
  |false=>exact eI (c o1 H1 S1 false e1 s1 (by simpa using d1))
theorem pK(ha:RT tt dt)(hb:RT tu du):RT (tOr tt tu) (dOr dt du):=fun h o H δ σ S R Q he hs q c=>
 ha h o H δ σ S _ _ he hs q fun o1 H1 S1 b e1 s1 d1=>by
  cases b with
  |false=>exact eI (hb h o1 H1 δ σ S1 R Q (he.mono e1) s1 (by simpa using d1) fun o2 H2 S2 b e2=>c o2 H2 S2 b (e1.trans e2))
  |true=>exact eT (c o1 H1 S1 true e1 s1 (by simpa using d1))
theorem qN(ha:RE ta da)(hb:RE tb db):RE (EB ta tb) (dQ da db):=fun h o H δ σ S R Q he hs q c=>
 ha h o H δ σ S _ _ he hs q fun o1 H1 S1 x v e1 s1 x1 d1=>by
  replace d1:=n6 d1;obtain⟨b,rfl,d1⟩:=d1;refine⟨b,gQ x1,?_⟩;cases b with
  |true=>exact eT (hb h o1 H1 δ σ S1 R Q (he.mono e1) s1 (by simpa using d1) (c.pre e1))
  |false=>exact eI (c o1 H1 S1 _ _ e1 s1 (xB false) (by simpa using d1))
theorem Ij(ha:RE ta da):RE (DP ta) (iR da):=fun h o H δ σ S R Q he hs q c=>
 ha h o H δ σ S _ _ he hs q fun o1 H1 S1 x v e1 s1 x1 d1=>by
  replace d1:=n6 d1;obtain⟨b,rfl,d1⟩:=d1;exact⟨b,gQ x1,c o1 H1 S1 _ _ e1 s1 (xB _) d1⟩
theorem IP(hc:RT tt dt)(ha:RE ta da)(hb:RE tb db):RE (tIf tt ta tb) (dIf dt da db):=fun h o H δ σ S R Q he hs q c=>
 hc h o H δ σ S _ _ he hs q fun o1 H1 S1 b e1 s1 d1=>by
  cases b with
  |true=>exact eT (ha h o1 H1 δ σ S1 R Q (he.mono e1) s1 (by simpa using d1) (c.pre e1))
  |false=>exact eI (hb h o1 H1 δ σ S1 R Q (he.mono e1) s1 (by simpa using d1) (c.pre e1))
def gI(rd aa:D2)(a b e:DE):DE:=fun δ S R=>a δ S fun x S1=>b δ S1 fun y S2=>rd x y S2 fun z S3=>asB z fun k=>if k=true then e δ S3 fun u S4=>aa y u S4 R else R (.d (.bool false)) S3
theorem Iu{r r':R2}{rd aa:D2}(hr:RO r rd)(ac:RO r' aa)(ha:RE ta da)(hb:RE tb db)(hc:RE tc dc):RE (vF r r' ta tb tc) (gI rd aa da db dc):=fun h o H δ σ S R Q he hs q c=>
 ha h o H δ σ S _ _ he hs q fun o1 H1 S1 x v e1 s1 x1 d1=>hb h o1 H1 δ σ S1 _ _ (he.mono e1) s1 d1 fun o2 H2 S2 y u e2 s2 y2 d2=>
  hr h o2 H2 S2 x y v u _ _ s2 (x1.mono e2) y2 d2 fun o3 H3 S3 z w e3 s3 z3 d3=>by
   replace d3:=n6 d3;obtain⟨b,rfl,d3⟩:=d3;refine⟨b,gQ z3,?_⟩;cases b with
   |false=>exact eI (c o3 H3 S3 _ _ ((e1.trans e2).trans e3) s3 (xB false) (by simpa using d3))
   |true=>exact eT (hc h o3 H3 δ σ S3 _ _ (((he.mono e1).mono e2).mono e3) s3 (by simpa using d3) fun o4 H4 S4 k w' e4 s4 k4 d4=>ac h o4 H4 S4 y k u w' R Q s4 ((y2.mono e3).mono e4) k4 d4 (c.pre (((e1.trans e2).trans e3).trans e4)))
end
def dI(C:Int->Int->Prop)(g:Int->Int->Int):D2:=fun x y S R=>asI x fun i=>asI y fun j=>C i j/\R (.d (.int (g i j))) S
def dI0(g:Int->Int->Int):D2:=fun x y S R=>asI x fun i=>asI y fun j=>R (.d (.int (g i j))) S
def dIb(g:Int->Int->Bool):D2:=fun x y S R=>asI x fun i=>asI y fun j=>R (.d (.bool (g i j))) S
def dUI(g:Int->Int):XV->Sto->RX->Prop:=fun x S R=>asI x fun i=>R (.d (.int (g i))) S
def aT:D2:=fun x y S R=>∃d,b0 S x=some d/\∃e,b0 S y=some e/\cu d=true/\cu e=true/\R (.d (.bool (gx d e))) S
def dP:D2:=fun x y S R=>∃d,b0 S x=some d/\∃e,b0 S y=some e/\cu d=true/\cu e=true/\R (.d (.bool (!PyData.eqv d e))) S
def cX:D2:=fun x _ S R=>asD x fun d=>R (.d (.bool (iT d))) S
def i0:D2:=fun x _ S R=>asD x fun d=>R (.d (.bool (!iT d))) S
def GQ:D2:=fun x y S R=>asT x fun ds=>asI y fun i=>∃d,atI ds i=some d/\R (.d d) S
def Hx:D2:=fun x y S R=>asL S x fun ds=>asI y fun i=>∃d,atI ds i=some d/\R (.d d) S
def Fk:D2:=fun x y S R=>asL S x fun ds=>asL S y fun es=>ds.length+es.length<=1000/\R (.d (.list (ds++es))) S
def GF:D2:=fun x y S R=>asT x fun ds=>asT y fun es=>ds≠[]/\ds.length+es.length<=1000/\R (.d (.tuple (ds++es))) S
section
theorem iC{C:Int->Int->Prop}{g:Int->Int->Int}:RO (rI C fun i j=>.int (g i j)) (dI C g):=fun h o H S x y v u R Q hs hx hy q c=>by
 replace q:=bA q;obtain⟨i,rfl,q⟩:=q;replace q:=bA q;obtain⟨j,rfl,hc,q⟩:=q;exact⟨i,j,aY hx,aY hy,hc,c o H S _ _ Ex.refl hs (xI _) q⟩
theorem lO{g:Int->Int->Int}:RO (rI0 fun i j=>.int (g i j)) (dI0 g):=fun h o H S x y v u R Q hs hx hy q c=>by
 replace q:=bA q;obtain⟨i,rfl,q⟩:=q;replace q:=bA q;obtain⟨j,rfl,q⟩:=q;exact⟨i,j,aY hx,aY hy,c o H S _ _ Ex.refl hs (xI _) q⟩
theorem Fx{g:Int->Int->Bool}:RO (rI0 fun i j=>.bl (g i j)) (dIb g):=fun h o H S x y v u R Q hs hx hy q c=>by
 replace q:=bA q;obtain⟨i,rfl,q⟩:=q;replace q:=bA q;obtain⟨j,rfl,q⟩:=q;exact⟨i,j,aY hx,aY hy,c o H S _ _ Ex.refl hs (xB _) q⟩
theorem u8{g:Int->Int}:RU (rU fun i=>.int (g i)) (dUI g):=fun h o H S x v R Q hs hx q c=>by
 replace q:=bA q;obtain⟨i,rfl,q⟩:=q;exact⟨i,aY hx,c o H S _ _ Ex.refl hs (xI _) q⟩
theorem jN:RO y8 aT:=fun h o H S x y v u R Q hs hx hy q c=>by
 obtain⟨d,q1,e,q2,q3,q4,q⟩:=q;exact⟨d,e,dF hs q1 hx,dF hs q2 hy,q3,q4,c o H S _ _ Ex.refl hs (xB _) q⟩
theorem vC:RO AK dP:=fun h o H S x y v u R Q hs hx hy q c=>by
 obtain⟨d,q1,e,q2,q3,q4,q⟩:=q;exact⟨d,e,dF hs q1 hx,dF hs q2 hy,q3,q4,c o H S _ _ Ex.refl hs (xB _) q⟩
theorem JI{ta:TE}{da:DE}(ha:RE ta da):RE (tOp vO ta (tC .non)) (dOp cX da (dC .none)):=fun h o H δ σ S R Q he hs q c=>
 ha h o H δ σ S _ _ he hs q fun o1 H1 S1 x v e1 s1 x1 d1=>by
  replace d1:=c4 d1;obtain⟨d,rfl,d1⟩:=d1;have e:=wV (show Has _ d v from x1);exact⟨rfl,by rw[e];exact c o1 H1 S1 _ _ e1 s1 (xB _) d1⟩
theorem KQ{ta:TE}{da:DE}(ha:RE ta da):RE (tOp CD ta (tC .non)) (dOp i0 da (dC .none)):=fun h o H δ σ S R Q he hs q c=>
 ha h o H δ σ S _ _ he hs q fun o1 H1 S1 x v e1 s1 x1 d1=>by
  replace d1:=c4 d1;obtain⟨d,rfl,d1⟩:=d1;have e:=wV (show Has _ d v from x1);exact⟨rfl,by rw[e];exact c o1 H1 S1 _ _ e1 s1 (xB _) d1⟩
theorem HasL.atI{H:Hp}{ds:List bd}{vs:List V}{i:Int}{d:bd}(l:HasL H ds vs)(e:L2.atI ds i=some d):∃v,L2.atI vs i=some v/\Has H d v:=by
 unfold L2.atI at e ⊢;rw[l.length];cases hn:ixN ds.length i with
 |none=>rw[hn]at e;cases e
 |some j=>
  rw[hn]at e;exact l.get (show ds[j]?=some d from e)
theorem G2{K:bj}:RO (uI K) GQ:=fun h o H S x y v u R Q hs hx hy q c=>by
 replace q:=m7 q;obtain⟨ds,rfl,q⟩:=q;replace q:=bA q;obtain⟨i,rfl,d,e,q⟩:=q;obtain⟨a,vs,rfl,ea,l⟩:=f6 hx;obtain⟨w,ew,hw⟩:=l.atI e;exact⟨a,vs,i,w,rfl,aY hy,.of ea,ew,c o H S (.d d) w Ex.refl hs hw q⟩
theorem xP{K:bj}:RO (tR K) Hx:=fun h o H S x y v u R Q hs hx hy q c=>by
 obtain⟨ds,e0,q⟩:=q;replace q:=bA q;obtain⟨i,rfl,d,e,q⟩:=q;obtain⟨a,vs,rfl,ea,l⟩:=bW hs e0 hx;obtain⟨w,ew,hw⟩:=l.atI e;exact⟨a,vs,i,w,rfl,aY hy,.of ea,ew,c o H S (.d d) w Ex.refl hs hw q⟩
theorem Ko:RO kZ Fk:=fun h o H S x y v u R Q hs hx hy q c=>by
 obtain⟨ds,e0,es,e1,hl,q⟩:=q;obtain⟨a,vs,rfl,ea,la⟩:=bW hs e0 hx;obtain⟨b,us,rfl,eb,lb⟩:=bW hs e1 hy;exact⟨a,b,vs,us,rfl,rfl,ea,eb,by rw[la.length,lb.length];exact im (small1000 hl),mZ hs (la.append lb) c q⟩
theorem Hf{K:bj}:RO (uX K) GF:=fun h o H S x y v u R Q hs hx hy q c=>by
 replace q:=m7 q;obtain⟨ds,rfl,q⟩:=q;replace q:=m7 q;obtain⟨es,rfl,hn,hl,q⟩:=q;obtain⟨a,vs,rfl,ea,la⟩:=f6 hx;obtain⟨b,us,rfl,eb,lb⟩:=f6 hy;refine⟨a,b,vs,us,rfl,rfl,.of ea,.of eb,fun z=>?_,by rw[la.length,lb.length];exact im (small1000 hl),fun z=>?_,fun _=>kA hs (la.append lb) c q⟩
 ·subst z;have:=la.length;exact hn (fm this.symm)
 ·subst z;have e:es=[]:=fm lb.length.symm;subst e;rw[gq]at q;exact c o H S (.d (.tuple ds)) _ Ex.refl hs hx q
end
abbrev DO:=XE->Sto->(Option Int->Sto->Prop)->Prop
def RP(t:TO)(dt:DO):Prop:=∀(h o:List Addr) (H:Hp) (δ:XE) (σ:St) (S:Sto) (R:Option Int->Sto->Prop) (Q:Option Int->Hp->Prop),RepE h o H δ σ->RepS h o H S->dt δ S R ->
 (∀o' H' S' b,Ex o H o' H'->RepS h o' H' S'->R b S'->Q b H')->t σ H Q
def fS:DO:=fun _ S R=>R none S
def fN(a:DE):DO:=fun δ S R=>a δ S fun x S1=>asI x fun i=>R (some i) S1
theorem tS:RP yK fS:=fun h o H δ σ S R Q he hs q c=>c o H S none Ex.refl hs q
theorem vU{t:TE}{da:DE}(ha:RE t da):RP (kE t) (fN da):=fun h o H δ σ S R Q he hs q c=>
 ha h o H δ σ S _ _ he hs q fun o1 H1 S1 x v e1 s1 x1 d1=>by
  replace d1:=bA d1;obtain⟨i,rfl,d1⟩:=d1;exact⟨i,aY x1,c o1 H1 S1 _ e1 s1 d1⟩
abbrev D3:=XV->Option Int->Option Int->Sto->RX->Prop
def RL(r:V->Option Int->Option Int->Hp->VK->Prop)(rd:D3):Prop:=∀(h o:List Addr) (H:Hp) (S:Sto) (x:XV) (v:V) (a b:Option Int) (R:RX) (Q:VK),RepS h o H S->HasX h o H x v->rd x a b S R->Cn h o H R Q->r v a b H Q
def dSl(rd:D3)(e:DE)(a b:DO):DE:=fun δ S R=>e δ S fun x S1=>a δ S1 fun i S2=>b δ S2 fun j S3=>rd x i j S3 R
theorem wB{r:V->Option Int->Option Int->Hp->VK->Prop}{rd:D3}{te:TE}{de:DE}{ta tb:TO}{da db:DO}(hr:RL r rd)(z:RE te de)(ha:RP ta da)(hb:RP tb db):RE (tSl r te ta tb) (dSl rd de da db):=fun h o H δ σ S R Q he hs q c=>
 z h o H δ σ S _ _ he hs q fun o1 H1 S1 x v e1 s1 x1 d1=>ha h o1 H1 δ σ S1 _ _ (he.mono e1) s1 d1 fun o2 H2 S2 i e2 s2 d2=>hb h o2 H2 δ σ S2 _ _ ((he.mono e1).mono e2) s2 d2 fun o3 H3 S3 j e3 s3 d3=>
  hr h o3 H3 S3 x v i j R Q s3 ((x1.mono e2).mono e3) d3 (c.pre ((e1.trans e2).trans e3))
def F5:D3:=fun x i j S R=>asL S x fun ds=>R (.d (.list (aV ds i j))) S
def Fo:D3:=fun x i j S R=>asT x fun ds=>¬(HT.sIx ds.length 0 i=0/\HT.sIx ds.length ds.length j=ds.length)/\R (.d (.tuple (aV ds i j))) S
theorem Bt{K:bj}:RL (nX K) F5:=fun h o H S x v a b R Q hs hx q c=>by
 obtain⟨ds,e0,q⟩:=q;obtain⟨p,vs,rfl,ea,l⟩:=bW hs e0 hx;exact⟨p,vs,rfl,.of ea,mZ hs (l.cut a b) c q⟩
theorem KW{K:bj}:RL (uJ K) Fo:=fun h o H S x v a b R Q hs hx q c=>by
 replace q:=m7 q;obtain⟨ds,rfl,hn,q⟩:=q;obtain⟨p,vs,rfl,ea,l⟩:=f6 hx;exact⟨p,vs,rfl,.of ea,by rw[l.length];exact hn,kA hs (l.cut a b) c q⟩
def asQ(S:Sto):XV->Option (List bd)
 | .d (.tuple ds)=>some ds
 | .d (.list ds)=>some ds
 | .l k=>S[k]?
 |_=>none
theorem rY{h o:List Addr}{H:Hp}{S:Sto}{x:XV}{v:V}{ds:List bd}(r:RepS h o H S)(e:asQ S x=some ds)(q:HasX h o H x v):∃a vs,v=.ref a/\(H a=some (.tup vs)\/H a=some (.lst vs))/\HasL (vx h o H) ds vs:=by
 unfold asQ at e;split at e
 ·cases e;obtain⟨a,vs,e,q,l⟩:=f6 q;exact⟨a,vs,e,.inl q,l⟩
 ·cases e;obtain⟨a,vs,e,q,l⟩:=bW (x:=.d (.list ds)) (ds:=ds) r rfl q;exact⟨a,vs,e,.inr q,l⟩
 ·rename_i k;obtain⟨a,vs,e,q,l⟩:=bW (x:=.l k) r e q;exact⟨a,vs,e,.inr q,l⟩
 ·cases e
def arg1:List XV->(XV->Prop)->Prop
 | [x],k=>k x
 |_,_=>False
def arg2:List XV->(XV->XV->Prop)->Prop
 | [x,y],k=>k x y
 |_,_=>False
theorem cP{xs:List XV}{k:XV->Prop}(h:arg1 xs k):∃x,xs=[x]/\k x:=by
 unfold arg1 at h;split at h
 ·exact⟨_,rfl,h⟩
 ·exact h.elim
theorem mS{xs:List XV}{k:XV->XV->Prop}(h:arg2 xs k):∃x y,xs=[x,y]/\k x y:=by
 unfold arg2 at h;split at h
 ·exact⟨_,_,rfl,h⟩
 ·exact h.elim
theorem hxs1{h o:List Addr}{H:Hp}{x:XV}{vs:List V}(q:HasXs h o H [x] vs):∃v,vs=[v]/\HasX h o H x v:=by
 obtain⟨v,r,e,hx,hr⟩:=q;cases hr;exact⟨v,e,hx⟩
theorem hxs2{h o:List Addr}{H:Hp}{x y:XV}{vs:List V}(q:HasXs h o H [x,y] vs):∃v u,vs=[v,u]/\HasX h o H x v/\HasX h o H y u:=by
 obtain⟨v,r,e,hx,q⟩:=q;obtain⟨u,e',hy⟩:=hxs1 q;subst e';exact⟨v,u,e,hx,hy⟩
def uW:XV->(String->Prop)->Prop
 | .o v,k=>∃c,v=.ty c/\k c
 |_,_=>False
def uC:XV->(Int->Prop)->Prop
 | .d d,k=>match d with
  | .int i=>k i
  | .bool b=>k (if b then 1 else 0)
  |_=>False
 |_,_=>False
theorem HV{x:XV}{k:String->Prop}(h:uW x k):∃c,x=.o (.ty c)/\k c:=by
 cases x with
 |o v=>
  obtain⟨c,rfl,h⟩:=h;exact⟨c,rfl,h⟩
 |d d=>exact h.elim
 |l j=>exact h.elim
 |x _ _=>exact h.elim
 |p _ _=>exact h.elim
theorem F7{x:XV}{k:Int->Prop}(h:uC x k):(∃i,x=.d (.int i)/\k i)\/∃b,x=.d (.bool b)/\k (if b then 1 else 0):=by
 cases x with
 |d d=>
  cases d with
  |int i=>exact .inl ⟨i,rfl,h⟩
  |bool b=>exact .inr ⟨b,rfl,h⟩
  |_=>exact h.elim
 |_=>exact h.elim
def KA:List XV->Sto->RX->Prop:=fun xs S R=>arg1 xs fun x=>∃ds,asQ S x=some ds/\R (.d (.int ds.length)) S
theorem tZ{K:bj}:RC (uR K) KA:=fun h o H S xs vs R Q hs hx q c=>by
 obtain⟨x,rfl,ds,hd,q1⟩:=cP q;obtain⟨v,rfl,aa⟩:=hxs1 hx;obtain⟨a,ws,rfl,ea,l⟩:=rY hs hd aa;refine⟨a,ws,rfl,ea.elim (fun z=>.inr (.of z)) (fun z=>.inl (.of z)),?_⟩;rw[l.length];exact c o H S _ _ Ex.refl hs (xI _) q1
def cT:List XV->Sto->RX->Prop:=fun xs S R=>arg2 xs fun x y=>uW y fun cl=>∃d,b0 S x=some d/\cl∈gA/\R (.d (.bool (iY d cl))) S
theorem JL:RC wX cT:=fun h o H S xs vs R Q hs hx q c=>by
 obtain⟨x,y,rfl,q1⟩:=mS q;obtain⟨cl,rfl,d,hd,hc,q2⟩:=HV q1;obtain⟨v,u,rfl,z,hu⟩:=hxs2 hx;cases hu;exact Gi (dF hs hd z) hc (c o H S _ _ Ex.refl hs (xB _) q2)
def j4:List XV->Sto->RX->Prop:=fun xs S R=>arg1 xs fun x=>uC x fun i=>R (.d (.int i)) S
theorem IH:RC (fun xs H Q=>(∃i,xs=[.int i]/\Q (.int i) H)\/∃k,xs=[.bl k]/\Q (.int (if k then 1 else 0)) H) j4:=fun h o H S xs vs R Q hs hx q c=>by
 obtain⟨x,rfl,q1⟩:=cP q;obtain⟨v,rfl,z⟩:=hxs1 hx;rcases F7 q1 with ⟨i,rfl,q2⟩|⟨b,rfl,q2⟩
 ·exact .inl ⟨_,by rw[aY z],c o H S _ _ Ex.refl hs (xI _) q2⟩
 ·exact .inr ⟨_,by rw[gQ z],c o H S _ _ Ex.refl hs (xI _) q2⟩
def dI2(g:Int->Int->Int):List XV->Sto->RX->Prop:=fun xs S R=>arg2 xs fun x y=>asI x fun i=>asI y fun j=>R (.d (.int (g i j))) S
theorem IU{g:Int->Int->Int}:RC (fun xs H Q=>∃i j,xs=[.int i,.int j]/\Q (.int (g i j)) H) (dI2 g):=fun h o H S xs vs R Q hs hx q c=>by
 obtain⟨x,y,rfl,q1⟩:=mS q;obtain⟨v,u,rfl,z,hu⟩:=hxs2 hx;obtain⟨i,rfl,q2⟩:=bA q1;obtain⟨j,rfl,q3⟩:=bA q2;exact⟨i,j,by rw[aY z,aY hu],c o H S _ _ Ex.refl hs (xI _) q3⟩
def dH:List XV->Sto->RX->Prop:=fun xs S R=>arg1 xs fun x=>∃ds,asQ S x=some ds/\R (.d (.tuple ds)) S
theorem sF{K:bj}:RC (fun xs H Q=>∃p ys,xs=[.ref p]/\((SqL K H p ys/\∀l,H l=none->Q (.ref l) (upd H l (.tup ys)))\/(SqT K H p ys/\Q (.ref p) H))) dH:=fun h o H S xs vs R Q hs hx q c=>by
 obtain⟨x,rfl,ds,hd,q1⟩:=cP q;obtain⟨v,rfl,aa⟩:=hxs1 hx;obtain⟨a,ws,rfl,ea,l⟩:=rY hs hd aa;refine⟨a,ws,rfl,ea.elim (fun z=>.inr ⟨.of z,?_⟩) (fun z=>.inl ⟨.of z,kA hs l c q1⟩)⟩;have hh:HasX h o H (.d (.tuple ds)) (.ref a):=by
  unfold asQ at hd;split at hd
  ·cases hd;exact aa
  ·obtain⟨a',us,e1,e2,_⟩:=bW (x:=.d (.list _)) hs rfl aa;cases e1;rw[z]at e2;cases e2
  ·rename_i k;obtain⟨a',us,e1,e2,_⟩:=bW (x:=.l k) hs hd aa;cases e1;rw[z]at e2;cases e2
  ·cases hd
 exact c o H S _ _ Ex.refl hs hh q1
theorem o8{H:Hp}:∀{ns:List Int}{vs:List V},HasL H (ns.map bp) vs->vs=ns.map V.int
 | [],vs,h=>zv.mp h
 |n::ns,vs,h=>by
  obtain⟨v,r,rfl,h1,h2⟩:=zn.mp h;rw[d9.mp h1,o8 h2];rfl
def yZ:List XV->Sto->RX->Prop:=fun xs S R=>arg1 xs fun x=>∃ds,asQ S x=some ds/\∃ns,ds=ns.map bp/\ns≠[]/\∀m,m∈ns->(∀a,a∈ns->m<=a)->R (.d (.int m)) S
def uO:List XV->Sto->RX->Prop:=fun xs S R=>arg1 xs fun x=>∃ds,asQ S x=some ds/\∃ns,ds=ns.map bp/\ns≠[]/\∀m,m∈ns->(∀a,a∈ns->a<=m)->R (.d (.int m)) S
theorem Kp{K:bj}:RC (vI K) yZ:=fun h o H S xs vs R Q hs hx q c=>by
 obtain⟨x,rfl,ds,hd,ns,rfl,hn,q1⟩:=cP q;obtain⟨v,rfl,aa⟩:=hxs1 hx;obtain⟨a,ws,rfl,ea,l⟩:=rY hs hd aa;rw[o8 l]at ea;exact⟨a,ns,rfl,ea.elim (fun z=>.inr (.of z)) (fun z=>.inl (.of z)),hn,fun m m1 m2=>c o H S _ _ Ex.refl hs (xI _) (q1 m m1 m2)⟩
theorem Eg{K:bj}:RC (Dj K) uO:=fun h o H S xs vs R Q hs hx q c=>by
 obtain⟨x,rfl,ds,hd,ns,rfl,hn,q1⟩:=cP q;obtain⟨v,rfl,aa⟩:=hxs1 hx;obtain⟨a,ws,rfl,ea,l⟩:=rY hs hd aa;rw[o8 l]at ea;exact⟨a,ns,rfl,ea.elim (fun z=>.inr (.of z)) (fun z=>.inl (.of z)),hn,fun m m1 m2=>c o H S _ _ Ex.refl hs (xI _) (q1 m m1 m2)⟩
def dBM(rd:XV->List XV->Sto->RX->Prop)(e:DE)(a:DA):DE:=fun δ S R=>e δ S fun x S1=>∃k,x=.l k/\k<S1.length/\a δ S1 fun xs S2=>rd x xs S2 R
def gZ(rd:XV->List XV->Sto->RX->Prop)(e:DE):DE:=fun δ S R=>e δ S fun x S1=>∃k,x=.l k/\k<S1.length/\rd x [] S1 R
def RM(r:V->List V->Hp->VK->Prop)(rd:XV->List XV->Sto->RX->Prop):Prop:=∀(h o:List Addr) (H:Hp) (S:Sto) (x:XV) (v:V) (xs:List XV) (vs:List V) (R:RX) (Q:VK),RepS h o H S->HasX h o H x v->HasXs h o H xs vs->rd x xs S R->Cn h o H R Q->r v vs H Q
theorem v3{K:bj}{H:Hp}{a:Addr}{vs:List V}(e:H a=some (.lst vs)):tyV K "list" (.ref a) H:=.inl ⟨rfl,vs,.of e⟩
theorem Dv{h o:List Addr}{H:Hp}{S:Sto}{k:Nat}{v:V}(hs:RepS h o H S)(hk:k<S.length)(hx:HasX h o H (.l k) v):∃a vs,v=.ref a/\H a=some (.lst vs):=by
 obtain⟨a,e,rfl⟩:=hx;obtain⟨vs,e2,_⟩:=hs.cont k a _ e (bq hk);exact⟨a,vs,rfl,e2⟩
theorem mJ{K:bj}{r:V->List V->Hp->VK->Prop}{rd:XV->List XV->Sto->RX->Prop}{te:TE}{de:DE}{tl:TA}{dl:DA}(hr:RM r rd)(z:RE te de)(ha:RA tl dl):RE (tBM K "list" r te tl) (dBM rd de dl):=fun h o H δ σ S R Q he hs q c=>
 z h o H δ σ S _ _ he hs q fun o1 H1 S1 x v e1 s1 x1 ⟨k,ek,hk,d1⟩=>by
  subst ek;obtain⟨a,ws,rfl,ea⟩:=Dv s1 hk x1;exact⟨v3 ea,ha h o1 H1 δ σ S1 _ _ (he.mono e1) s1 d1 fun o2 H2 S2 xs vs e2 s2 x2 d2=>hr h o2 H2 S2 (.l k) _ xs vs R Q s2 (x1.mono e2) x2 d2 (c.pre (e1.trans e2))⟩
theorem JP{K:bj}{r:V->List V->Hp->VK->Prop}{rd:XV->List XV->Sto->RX->Prop}{te:TE}{de:DE}(hr:RM r rd)(z:RE te de):RE (yM K "list" r te) (gZ rd de):=fun h o H δ σ S R Q he hs q c=>
 z h o H δ σ S _ _ he hs q fun o1 H1 S1 x v e1 s1 x1 ⟨k,ek,hk,d1⟩=>by
  subst ek;obtain⟨a,ws,rfl,ea⟩:=Dv s1 hk x1;exact⟨v3 ea,hr h o1 H1 S1 (.l k) _ [] [] R Q s1 x1 rfl d1 (c.pre e1)⟩
def eY:XV->List XV->Sto->RX->Prop:=fun x xs S R=>∃k,x=.l k/\∃ds,S[k]?=some ds/\arg1 xs fun y=>asD y fun d=>ds.length<1000/\R (.d .none) (S.set k (ds++[d]))
theorem G0:RM xY eY:=fun h o H S x v xs vs R Q hs hx z q c=>by
 obtain⟨k,rfl,ds,e,q1⟩:=q;obtain⟨y,rfl,q2⟩:=cP q1;obtain⟨d,rfl,hl,q3⟩:=c4 q2;obtain⟨a,ea,rfl⟩:=hx;obtain⟨u,rfl,hu⟩:=hxs1 z;obtain⟨ws,ew,l⟩:=hs.cont k a ds ea e;exact⟨a,ws,u,rfl,rfl,ew,by rw[l.length];exact small1000 (im hl),c o _ _ (.d .none) _ (Ex.upd ea) (hs.upd ea (l.append (zn.mpr ⟨u,[],rfl,hu,zv.mpr rfl⟩))) xN q3⟩
def j6:XV->List XV->Sto->RX->Prop:=fun x xs S R=>∃k,x=.l k/\∃ds,S[k]?=some ds/\xs=[]/\R (.d .none) (S.set k ds.reverse)
theorem G3:RM yJ j6:=fun h o H S x v xs vs R Q hs hx z q c=>by
 obtain⟨k,rfl,ds,e,rfl,q1⟩:=q;obtain⟨a,ea,rfl⟩:=hx;obtain⟨ws,ew,l⟩:=hs.cont k a ds ea e;cases z;exact⟨a,ws,rfl,rfl,ew,c o _ _ (.d .none) _ (Ex.upd ea) (hs.upd ea l.rev) xN q1⟩
def gB:XV->List XV->Sto->RX->Prop:=fun x xs S R=>∃k,x=.l k/\∃ds,S[k]?=some ds/\arg1 xs fun y=>∃es,c5 S y=some es/\ds.length+es.length<=1000/\R (.d .none) (S.set k (ds++es))
theorem rZ:RM Ar gB:=fun h o H S x v xs vs R Q hs hx z q c=>by
 obtain⟨k,rfl,ds,e,q1⟩:=q;obtain⟨y,rfl,es,ey,hl,q3⟩:=cP q1;obtain⟨a,ea,rfl⟩:=hx;obtain⟨u,rfl,hu⟩:=hxs1 z;obtain⟨ws,ew,l⟩:=hs.cont k a ds ea e;obtain⟨b,zs,rfl,eb,lb⟩:=bW hs ey hu;exact⟨a,b,ws,zs,rfl,rfl,ew,eb,by rw[l.length,lb.length];exact im (small1000 hl),c o _ _ (.d .none) _ (Ex.upd ea) (hs.upd ea (l.append lb)) xN q3⟩
def ret0(S:Sto)(R:RX):RX:=fun y S'=>match y,S' with
 | .d d,[]=>R (.d d) S
 | .l 0,[ds]=>R (.l S.length) (S++[ds])
 |_,_=>False
def rF(k:Nat)(S:Sto)(R:RX):RX:=fun y S'=>match y,S' with
 | .d d,[p]=>R (.d d) (S.set k p)
 | .l 1,[p,ds]=>R (.l S.length) (S.set k p++[ds])
 |_,_=>False
section
variable {h o:List Addr}{H:Hp}{S:Sto}{R:RX}{Q:VK}
theorem iB{h o h' o':List Addr}{H:Hp}(e:∀b,(b∈h'\/b∈o')↔(b∈h\/b∈o)):vx h' o' H=vx h o H:=by
 funext b;have z:∀u,vx h' o' H b=some u↔vx h o H b=some u:=fun u=>by
  rw[zL,zL];have:=e b;constructor
  ·rintro⟨a1,a2,a3⟩;exact⟨fun m=>(this.mpr (.inl m)).elim a1 a2,fun m=>(this.mpr (.inr m)).elim a1 a2,a3⟩
  ·rintro⟨a1,a2,a3⟩;exact⟨fun m=>(this.mp (.inl m)).elim a1 a2,fun m=>(this.mp (.inr m)).elim a1 a2,a3⟩
 cases e1:vx h' o' H b with
 |some u=>exact((z u).mp e1).symm
 |none=>
  cases e2:vx h o H b with
  |none=>rfl
  |some u=>rw[(z u).mpr e2]at e1;cases e1
theorem rep0(hs:RepS h o H S):RepS (h++o) [] H [] where
 len:=rfl
 nd:=nodup_nil
 dis:=fun a ha=>by cases ha
 hal:=fun b hb=>(mem_append.mp hb).elim (hs.hal b) (hs.oam b)
 cont:=fun k a ds e=>by simp at e
theorem hx0{d:bd}{v:V}(hx:HasX h o H (.d d) v):HasX (h++o) [] H (.d d) v:=by
 show Has (vx (h++o) [] H) d v;rw[iB (h:=h) (o:=o) fun b=>by simp];exact hx
theorem hx0'{d:bd}{v:V}(hx:HasX (h++o) [] H (.d d) v):HasX h o H (.d d) v:=by
 show Has (vx h o H) d v;rw[<- iB (h':=h++o) (o':=[]) (h:=h) (o:=o) fun b=>by simp];exact hx
theorem cn0(hs:RepS h o H S)(c:Cn h o H R Q):Cn (h++o) [] H (ret0 S R) Q:=fun o' H' S' y v e s' hy q=>by
 have sm:Same H (vx [] o' H'):=fun b u eb=>by
  obtain⟨a1,a2⟩:=e.kp b u yv eb;exact zL.mpr ⟨yv,a1,a2⟩
 have sH:Same H H':=fun b u eb=>(zL.mp (sm b u eb)).2.2;unfold ret0 at q;split at q
 ·have e0:o'=[]:=fm s'.len.symm;subst e0;exact c o H' S _ v (Ex.of_same sH) (hs.same sH) (hx0' hy) q
 ·rename_i ds;obtain⟨a,rfl⟩:∃a,o'=[a]:=List.length_eq_one_iff.mp s'.len.symm;obtain⟨a',ea,rfl⟩:=hy;cases ea;obtain⟨vs,ev,l⟩:=s'.cont 0 a ds rfl rfl;have na:a∉h++o:=s'.dis a yv;have hn:H a=none:=by
   cases eh:H a with
   |none=>rfl
   |some u=>exact absurd (e.kp a u yv eh).1 yv
  have e2:Ex o H (o++[a]) H':=⟨⟨[a],rfl⟩,fun b u hb eb=>by
   obtain⟨a1,a2⟩:=e.kp b u yv eb;exact⟨by simp only[mem_append,not_or];exact⟨hb,a1⟩,a2⟩⟩
  have z:vx (h++o) [a] H'=vx h (o++[a]) H':=iB fun b=>by simp[or_assoc]
  rw[z]at l;refine c (o++[a]) H' (S++[ds]) (.l S.length) _ e2 ⟨by simp[hs.len],pE hs.nd fun m=>na (cv _ m),fun b hb=>?_,fun b hb=>?_,fun k b es q1 q2=>?_⟩ ⟨a,by rw[hs.len,bn],rfl⟩ q
  ·rcases mem_append.mp hb with hb|hb
   ·exact hs.dis b hb
   ·rw[mem_singleton.mp hb];exact fun m=>na (cq _ m)
  ·obtain⟨u,eb⟩:=hs.hal b hb;exact⟨u,sH b _ eb⟩
  ·by_cases hk:k<o.length
   ·rw[dm hk]at q1;rw[dm (by rw[hs.len];exact hk)]at q2;obtain⟨ws,e3,l3⟩:=hs.cont k b es q1 q2;exact⟨ws,sH _ _ e3,l3.mono e2.vx⟩
   ·have aa:k=o.length:=by
     obtain⟨q,_⟩:=List.getElem?_eq_some_iff.mp q1;rw[bx,fb]at q;omega
    subst aa;rw[bn]at q1;rw[<- hs.len,bn]at q2;cases q1;cases q2;exact⟨vs,ev,l⟩
 ·exact q.elim
theorem qH{k:Nat}{a:Addr}{p:List bd}(hs:RepS h o H S)(ea:o[k]?=some a)(ep:S[k]?=some p):RepS (h++o.filter (fun b=>b≠a)) [a] H [p] where
 len:=rfl
 nd:=by simp
 dis:=fun b hb=>by
  rw[mem_singleton.mp hb];intro m;rcases mem_append.mp m with m|m
  ·exact hs.dis a (cj ea) m
  ·have:=(mem_filter.mp m).2;simp at this
 hal:=fun b hb=>(mem_append.mp hb).elim (hs.hal b) fun m=>hs.oam b (mem_filter.mp m).1
 cont:=fun j b ds e1 e2=>by
  cases j with
  |succ j=>simp at e1
  |zero=>
   cases e1;cases e2;obtain⟨vs,e3,l⟩:=hs.cont k a p ea ep;refine⟨vs,e3,?_⟩;rw[iB (h:=h) (o:=o) (mem_pen ea)];exact l
where
 mem_pen {h o:List Addr}{k:Nat}{a:Addr} (ea:o[k]?=some a) (b:Addr):(b∈h++o.filter (fun b=>b≠a)\/b∈[a])↔(b∈h\/b∈o):=by
  have ma:=cj ea;by_cases e:b=a
  ·subst e;simp[ma]
  ·simp[e]
theorem hxP{k:Nat}{a:Addr}{d:bd}{v:V}(ea:o[k]?=some a)(hx:HasX h o H (.d d) v):HasX (h++o.filter (fun b=>b≠a)) [a] H (.d d) v:=by
 show Has (vx _ _ H) d v;rw[iB (h:=h) (o:=o) (qH.mem_pen ea)];exact hx
theorem cnP{k:Nat}{a:Addr}{p:List bd}(hs:RepS h o H S)(ea:o[k]?=some a)(ep:S[k]?=some p)(c:Cn h o H R Q):Cn (h++o.filter (fun b=>b≠a)) [a] H (rF k S R) Q:=fun o' H' S' y v e s' hy q=>by
 have ma:=cj ea;have hk:k<o.length:=(List.getElem?_eq_some_iff.mp ea).1;unfold rF at q;split at q
 ·rename_i d p';obtain⟨r,rfl⟩:=e.pre;have er:r=[]:=by
   have:=s'.len;simp at this;exact this
  subst er;have ex:Ex o H o H':=⟨⟨[],yv⟩,fun b u hb eb=>⟨hb,(e.kp b u (fun m=>hb (by rw[mem_singleton.mp m];exact ma)) eb).2⟩⟩;obtain⟨vs,ev,l⟩:=s'.cont 0 a p' rfl rfl;have aa:vx (h++o.filter (fun b=>b≠a)) ([a]++[]) H'=vx h o H':=iB (qH.mem_pen ea);rw[aa]at l;refine c o H' (S.set k p') (.d d) v ex ⟨by simp[hs.len],hs.nd,hs.dis,fun b hb=>?_,fun j b es q1 q2=>?_⟩ (by
   have ac:Has (vx (h++o.filter (fun b=>b≠a)) ([a]++[]) H') d v:=hy;rw[aa]at ac;exact ac) q
  ·obtain⟨u,eb⟩:=hs.hal b hb;exact⟨u,(e.kp b _ (fun m=>hs.dis a ma (by rw[<- mem_singleton.mp m];exact hb)) eb).2⟩
  ·by_cases hj:j=k
   ·subst hj;rw[q1]at ea;cases ea;rw[lw (by rw[hs.len];exact hk)]at q2;cases q2;exact⟨vs,ev,l⟩
   ·rw[nq (gs hj)]at q2;obtain⟨ws,e3,l3⟩:=hs.cont j b es q1 q2;have ne:b≠a:=fun z=>hj (pW hs.nd q1 (z▸ea));exact⟨ws,(e.kp b _ (by simp[ne]) e3).2,l3.mono ex.vx⟩
 ·rename_i p' ds;obtain⟨r,rfl⟩:=e.pre;obtain⟨a2,rfl⟩:∃a2,r=[a2]:=by
   have:=s'.len;simp at this;exact List.length_eq_one_iff.mp this
  obtain⟨b2,ah,rfl⟩:=hy;cases ah;obtain⟨vs,ev,l⟩:=s'.cont 0 a p' rfl rfl;obtain⟨ag,af,l2⟩:=s'.cont 1 a2 ds rfl rfl;have n2:a2∉h++o.filter (fun b=>b≠a):=s'.dis a2 yv;have n3:a≠a2:=by
   have:=s'.nd;simp at this;exact this
  have n4:a2∉o:=fun m=>n2 (cv _ (mem_filter.mpr ⟨m,by simp[gs n3]⟩));have ex:Ex o H (o++[a2]) H':=⟨⟨[a2],rfl⟩,fun b u hb eb=>by
   obtain⟨z1,z2⟩:=e.kp b u (fun m=>hb (by rw[mem_singleton.mp m];exact ma)) eb;refine⟨?_,z2⟩;simp only[mem_append,not_or];exact⟨hb,fun m=>z1 (by simp at m ⊢;exact .inr m)⟩⟩
  have aa:vx (h++o.filter (fun b=>b≠a)) ([a]++[a2]) H'=vx h (o++[a2]) H':=iB fun b=>by
   have:=qH.mem_pen (h:=h) ea b;simp only[mem_append]at this ⊢;rw[<- or_assoc,this,or_assoc]
  rw[aa]at l l2;refine c (o++[a2]) H' (S.set k p'++[ds]) (.l S.length) _ ex ⟨by simp[hs.len],pE hs.nd n4,fun b hb=>?_,fun b hb=>?_,fun j b es q1 q2=>?_⟩ ⟨a2,by rw[hs.len,bn],rfl⟩ q
  ·rcases mem_append.mp hb with hb|hb
   ·exact hs.dis b hb
   ·rw[mem_singleton.mp hb];exact fun m=>n2 (cq _ m)
  ·obtain⟨u,eb⟩:=hs.hal b hb;exact⟨u,(e.kp b _ (fun m=>hs.dis a ma (by rw[<- mem_singleton.mp m];exact hb)) eb).2⟩
  ·by_cases hjo:j<o.length
   ·rw[dm hjo]at q1;rw[dm (by rw[length_set,hs.len];exact hjo)]at q2;by_cases hj:j=k
    ·subst hj;rw[q1]at ea;cases ea;rw[lw (by rw[hs.len];exact hk)]at q2;cases q2;exact⟨vs,ev,l⟩
    ·rw[nq (gs hj)]at q2;obtain⟨ws,e3,l3⟩:=hs.cont j b es q1 q2;have ne:b≠a:=fun z=>hj (pW hs.nd q1 (z▸ea));exact⟨ws,(e.kp b _ (by simp[ne]) e3).2,l3.mono ex.vx⟩
   ·have ae:j=o.length:=by
     obtain⟨q,_⟩:=List.getElem?_eq_some_iff.mp q1;rw[bx,fb]at q;omega
    subst ae;rw[bn]at q1;rw[<- hs.len,<- length_set (i:=k) (a:=p'),bn]at q2;cases q1;cases q2;exact⟨ag,af,l2⟩
 ·exact q.elim
end
structure DEnds where
 nx:XE->Sto->Prop
 rt:RX
 bk:XE->Sto->Prop:=fun _ _=>False
 ct:XE->Sto->Prop:=fun _ _=>False
abbrev DS:=DEnds->XE->Sto->Prop
abbrev DG:=XV->XE->Sto->(XE->Sto->Prop)->Prop
abbrev DGs:=List bd->XE->Sto->(XE->Sto->Prop)->Prop
def Nx(h o:List Addr)(H:Hp)(N:XE->Sto->Prop)(M:St->Hp->Prop):Prop:=∀o' H' δ' S' σ',Ex o H o' H'->RepE h o' H' δ' σ'->RepS h o' H' S'->N δ' S'->M σ' H'
theorem Nx.pre{h o o':List Addr}{H H':Hp}{N:XE->Sto->Prop}{M:St->Hp->Prop}(c:Nx h o H N M)(e:Ex o H o' H'):Nx h o' H' N M:=fun o2 H2 δ2 S2 σ2 e2=>c o2 H2 δ2 S2 σ2 (e.trans e2)
structure EOk(h o:List Addr)(H:Hp)(E:DEnds)(D:Ends):Prop where
 nx:Nx h o H E.nx D.nx
 rt:Cn h o H E.rt D.rt
 bk:Nx h o H E.bk D.bk
 ct:Nx h o H E.ct D.ct
theorem EOk.pre{h o o':List Addr}{H H':Hp}{E:DEnds}{D:Ends}(c:EOk h o H E D)(e:Ex o H o' H'):EOk h o' H' E D:=⟨c.nx.pre e,c.rt.pre e,c.bk.pre e,c.ct.pre e⟩
def RS(t:TS)(dt:DS):Prop:=∀(h o:List Addr) (H:Hp) (δ:XE) (σ:St) (S:Sto) (E:DEnds) (D:Ends),RepE h o H δ σ->RepS h o H S->dt E δ S->EOk h o H E D->t D σ H
def RG(t:TG)(dt:DG):Prop:=∀(h o:List Addr) (H:Hp) (δ:XE) (σ:St) (S:Sto) (x:XV) (v:V) (N:XE->Sto->Prop) (M:St->Hp->Prop),RepE h o H δ σ->RepS h o H S->HasX h o H x v->dt x δ S N->Nx h o H N M->t v σ H M
def RGs(t:TGs)(dt:DGs):Prop:=∀(h o:List Addr) (H:Hp) (δ:XE) (σ:St) (S:Sto) (ds:List bd) (vs:List V) (N:XE->Sto->Prop) (M:St->Hp->Prop),RepE h o H δ σ->RepS h o H S->HasL (vx h o H) ds vs->dt ds δ S N->Nx h o H N M->t vs σ H M
def zm(i:Nat):DG:=fun x δ S N=>N (δ.set i (some x)) S
def c7:DGs:=fun ds δ S N=>ds=[]/\N δ S
def hdD:List bd->(bd->List bd->Prop)->Prop
 |d::es,k=>k d es
 | [],_=>False
theorem KI{ds:List bd}{k:bd->List bd->Prop}(h:hdD ds k):∃d es,ds=d::es/\k d es:=by
 cases ds with
 |nil=>exact h.elim
 |cons d es=>exact⟨d,es,rfl,h⟩
theorem nB{d:bd}{es:List bd}{k:bd->List bd->Prop}:hdD (d::es) k=k d es:=rfl
def aZ(g:DG)(r:DGs):DGs:=fun ds δ S N=>hdD ds fun d es=>g (.d d) δ S fun δ' S'=>r es δ' S' N
def c9(n:Nat)(r:DGs):DG:=fun x δ S N=>asT x fun ds=>ds.length=n/\r ds δ S N
def hW(a b:DE):DG:=fun x δ S N=>a δ S fun y S1=>b δ S1 fun z S2=>asD x fun d=>∃k,y=.l k/\∃ds,S2[k]?=some ds/\asI z fun i=>∃j,ixN ds.length i=some j/\N δ (S2.set k (ds.set j d))
theorem zu{i:Nat}:RG (g0 i) (zm i):=fun h o H δ σ S x v N M he hs hx q c=>c o H _ S _ Ex.refl (he.set hx) hs q
theorem rV:RGs Am c7:=fun h o H δ σ S ds vs N M he hs l ⟨e,q⟩ c=>by
 subst e;exact⟨zv.mp l,c o H δ S σ Ex.refl he hs q⟩
theorem iP{t:TG}{u:TGs}{g:DG}{r:DGs}(h1:RG t g)(h2:RGs u r):RGs (B1 t u) (aZ g r):=fun h o H δ σ S ds vs N M he hs l q0 c=>by
 obtain⟨d,es,rfl,q⟩:=KI q0;obtain⟨v,ws,rfl,hv,l⟩:=zn.mp l;exact⟨v,ws,rfl,h1 h o H δ σ S (.d d) v _ _ he hs hv q fun o1 H1 δ1 S1 σ1 e1 aa z q1=>h2 h o1 H1 δ1 σ1 S1 es ws N M aa z (l.mono e1.vx) q1 (c.pre e1)⟩
theorem sK{K:bj}{n:Nat}{t:TGs}{r:DGs}(h1:RGs t r):RG (y6 K n t) (c9 n r):=fun h o H δ σ S x v N M he hs hx q c=>by
 replace q:=m7 q;obtain⟨ds,rfl,hn,q⟩:=q;obtain⟨a,vs,rfl,ea,l⟩:=f6 hx;exact⟨a,vs,rfl,.of ea,by rw[l.length];exact hn,h1 h o H δ σ S ds vs N M he hs l q c⟩
theorem HasL.setAt{H:Hp}:∀{ds:List bd}{vs:List V}{j:Nat}{d:bd}{v:V},HasL H ds vs->Has H d v->HasL H (ds.set j d) (vs.set j v)
 | [],vs,j,d,v,l,_=>by rw[zv.mp l];exact zv.mpr rfl
 |c::ds,vs,0,d,v,l,q=>by
  obtain⟨u,r,rfl,_,l⟩:=zn.mp l;exact zn.mpr ⟨v,r,rfl,q,l⟩
 |c::ds,vs,j+1,d,v,l,q=>by
  obtain⟨u,r,rfl,hu,l⟩:=zn.mp l;exact zn.mpr ⟨u,r.set j v,rfl,hu,HasL.setAt l q⟩
theorem Jc{ta tb:TE}{da db:DE}(ha:RE ta da)(hb:RE tb db):RG (C5 ta tb yA) (hW da db):=fun h o H δ σ S x v N M he hs hx q c=>
 ha h o H δ σ S _ _ he hs q fun o1 H1 S1 y u e1 s1 y1 d1=>hb h o1 H1 δ σ S1 _ _ (he.mono e1) s1 d1 fun o2 H2 S2 z w e2 s2 z2 d0=>by
  obtain⟨d,rfl,k,rfl,ds,es,d2⟩:=c4 d0;replace d2:=bA d2;obtain⟨i,rfl,j,ej,d2⟩:=d2;obtain⟨a,ea,rfl⟩:=y1.mono e2;obtain⟨ws,ew,l⟩:=s2.cont k a ds ea es;refine⟨a,ws,i,j,rfl,aY z2,ew,by rw[l.length];exact ej,?_⟩;exact c o2 _ δ _ σ ((e1.trans e2).trans (Ex.upd ea)) (((he.mono e1).mono e2).mono (Ex.upd ea)) (s2.upd ea (l.setAt (hx.mono (e1.trans e2)))) d2
def aH:DS:=fun E δ S=>E.nx δ S
def zS(t u:DS):DS:=fun E δ S=>t { E with nx:=u E } δ S
def aA(e:DE)(g:DG):DS:=fun E δ S=>e δ S fun x S1=>g x δ S1 E.nx
def bV(e:DE):DS:=fun E δ S=>e δ S fun _ S1=>E.nx δ S1
def aC(e:DE):DS:=fun E δ S=>e δ S E.rt
def aJ(c:DT)(t u:DS):DS:=fun E δ S=>c δ S fun b S1=>if b=true then t E δ S1 else u E δ S1
section
variable {t u:TS}{dt du:DS}{te:TE}{de:DE}
theorem dA:RS t9 aH:=fun h o H δ σ S E D he hs q c=>c.nx o H δ S σ Ex.refl he hs q
theorem zO(ht:RS t dt)(hu:RS u du):RS (aR t u) (zS dt du):=fun h o H δ σ S E D he hs q c=>
 ht h o H δ σ S _ _ he hs q ⟨fun o1 H1 δ1 S1 σ1 e1 aa z q1=>hu h o1 H1 δ1 σ1 S1 E D aa z q1 (c.pre e1),c.rt,c.bk,c.ct⟩
theorem bL{g:TG}{dg:DG}(z:RE te de)(hg:RG g dg):RS (iN te g) (aA de dg):=fun h o H δ σ S E D he hs q c=>
 z h o H δ σ S _ _ he hs q fun o1 H1 S1 x v e1 s1 x1 d1=>hg h o1 H1 δ σ S1 x v _ _ (he.mono e1) s1 x1 d1 (c.nx.pre e1)
theorem lS(z:RE te de):RS (oO te) (bV de):=fun h o H δ σ S E D he hs q c=>
 z h o H δ σ S _ _ he hs q fun o1 H1 S1 x v e1 s1 x1 d1=>c.nx o1 H1 δ S1 σ e1 (he.mono e1) s1 d1
theorem bO(z:RE te de):RS (mT te) (aC de):=fun h o H δ σ S E D he hs q c=>z h o H δ σ S _ _ he hs q c.rt
theorem gO{tc:TT}{dc:DT}(hc:RT tc dc)(ht:RS t dt)(hu:RS u du):RS (nN tc t u) (aJ dc dt du):=fun h o H δ σ S E D he hs q c=>
 hc h o H δ σ S _ _ he hs q fun o1 H1 S1 b e1 s1 d1=>by
  cases b with
  |true=>exact eT (ht h o1 H1 δ σ S1 E D (he.mono e1) s1 (by simpa using d1) (c.pre e1))
  |false=>exact eI (hu h o1 H1 δ σ S1 E D (he.mono e1) s1 (by simpa using d1) (c.pre e1))
def frz(n:Nat)(ds:List bd):Option XV->Option XV
 |some (.l k)=>if k=n then some (.d (.list ds))else some (.l k)
 |some (.p k d)=>if k=n then some (.d (.tuple [.list ds,d]))else some (.p k d)
 |y=>y
end
abbrev DI:=XE->Sto->(List bd->Sto->Prop)->Prop
structure WalkX(h o:List Addr)(H:Hp)(J:It)(ds:List bd):Prop where
 stop:∀(i:Nat) o2 H2,ExH h o H o2 H2->ds.length<=i->J.stop i H2
 go:∀(i:Nat) d o2 H2,ExH h o H o2 H2->ds[i]?=some d->J.go i H2
 yld:∀(i:Nat) d o2 H2 x H3 S2,ExH h o H o2 H2->RepS h o2 H2 S2->ds[i]?=some d->J.yld i H2 x H3->Same H2 H3/\Has (vx h o2 H3) d x
def RI(w:TI)(di:DI):Prop:=∀(h o:List Addr) (H:Hp) (δ:XE) (σ:St) (S:Sto) (R:List bd->Sto->Prop) (Q:It->Hp->Prop),RepE h o H δ σ->RepS h o H S->di δ S R ->
 (∀o' H' S' ds J,Ex o H o' H'->RepS h o' H' S'->WalkX h o' H' J ds->R ds S'->Q J H')->w σ H Q
theorem CH{h o:List Addr}{H:Hp}{lo:Int}{n:Nat}:WalkX h o H (Itr lo n) (fU lo n) where
 stop:=fun i _ _ _ hi=>by rw[kF]at hi;exact hi
 go:=fun i d _ _ _ hi=>(r9 hi).1
 yld:=fun i d o2 H2 x H3 S2 _ _ hi y=>by
  obtain⟨e,ex⟩:=y;subst e ex;rw[(r9 hi).2];exact⟨Same.refl _,d9.mpr rfl⟩
def kM(g:DG)(b:DS):List bd->DS
 | [],E,δ,S=>E.nx δ S
 |d::ds,E,δ,S=>g (.d d) δ S fun δ1 S1=>b { nx:=fun δ2 S2=>kM g b ds E δ2 S2,ct:=fun δ2 S2=>kM g b ds E δ2 S2,bk:=E.nx,rt:=E.rt } δ1 S1
def bI(i:DI)(g:DG)(b:DS):DS:=fun E δ S=>i δ S fun ds S1=>kM g b ds E δ S1
theorem k8{wi:TI}{g:TG}{tb:TS}{di:DI}{dg:DG}{db:DS}(hi:RI wi di)(hg:RG g dg)(hb:RS tb db):RS (k7 wi g tb) (bI di dg db):=fun h o H δ σ S E D he hs q c=>
 hi h o H δ σ S _ _ he hs q fun o1 H1 S1 ds J e1 s1 wk d1=>by
  refine⟨fun i m σ2 H2=>m=ds.length-i/\i<=ds.length/\∃o2 δ2 S2,Ex o1 H1 o2 H2/\RepE h o2 H2 δ2 σ2/\RepS h o2 H2 S2/\kM dg db (ds.drop i) E δ2 S2,⟨ds.length,yv,mj _,o1,δ,S1,Ex.refl,he.mono e1,s1,d1⟩,?_⟩;rintro i m σ2 H2 ⟨rfl,hi,o2,δ2,S2,e2,af,aa,d2⟩;by_cases hlt:i<ds.length
  ·have ed:ds[i]?=some ds[i]:=bq hlt;rw[jz hlt]at d2;refine .inr ⟨wk.go i _ o2 H2 e2.hid ed,fun σ3 H3=>∃o3 δ3 S3,Ex o1 H1 o3 H3/\RepE h o3 H3 δ3 σ3/\RepS h o3 H3 S3/\kM dg db (ds.drop (i+1)) E δ3 S3,fun σ3 H3 n=>⟨ds.length-(i+1),yw,rfl,hlt,n⟩,fun x H3 y=>?_⟩;obtain⟨s3,hx⟩:=wk.yld i _ o2 H2 x H3 S2 e2.hid aa ed y;have ag:Ex o2 H2 o2 H3:=Ex.of_same s3;refine hg h o2 H3 δ2 σ2 S2 (.d ds[i]) x _ _ (af.mono ag) (aa.same s3) hx d2 fun o4 H4 δ4 S4 σ4 e4 ai ah d4=>?_;have z:Ex o1 H1 o4 H4:=(e2.trans ag).trans e4;have ce:=(c.pre e1).pre z;exact hb h o4 H4 δ4 σ4 S4 _ _ ai ah d4 ⟨fun o5 H5 δ5 S5 σ5 e5 ae ac d5=>⟨o5,δ5,S5,z.trans e5,ae,ac,d5⟩,ce.rt,ce.nx,fun o5 H5 δ5 S5 σ5 e5 ae ac d5=>⟨o5,δ5,S5,z.trans e5,ae,ac,d5⟩⟩
  ·have ei:i=ds.length:=yw
   subst ei;rw[drop_length]at d2;exact .inl ⟨wk.stop _ o2 H2 e2.hid (cw _),c.nx o2 H2 δ2 S2 σ2 (e1.trans e2) af aa d2⟩
def tU(cd:DT)(b:DS):DS:=fun E δ S=>∃W:Nat->XE->Sto->Prop,(∃m,W m δ S)/\∀m δ S,W m δ S ->
 cd δ S fun x S1=>if x=true then ∃N:XE->Sto->Prop,(∀ δ' S',N δ' S'->∃m',m'<m/\W m' δ' S')/\b { nx:=N,ct:=N,bk:=E.nx,rt:=E.rt } δ S1 else E.nx δ S1
theorem t0{tc:TT}{tb:TS}{dc:DT}{db:DS}(hc:RT tc dc)(hb:RS tb db):RS (Cj tc tb) (tU dc db):=fun h o H δ σ S E D he hs ⟨W,⟨m0,w0⟩,q⟩ c=>by
 refine⟨fun m σ2 H2=>∃o2 δ2 S2,Ex o H o2 H2/\RepE h o2 H2 δ2 σ2/\RepS h o2 H2 S2/\W m δ2 S2,⟨m0,o,δ,S,Ex.refl,he,hs,w0⟩,?_⟩;rintro m σ2 H2 ⟨o2,δ2,S2,e2,aa,ag,w2⟩;refine hc h o2 H2 δ2 σ2 S2 _ _ aa ag (q m δ2 S2 w2) fun o3 H3 S3 b e3 s3 d3=>?_;cases b with
 |false=>exact eI (c.nx o3 H3 δ2 S3 σ2 (e2.trans e3) (aa.mono e3) s3 (by simpa using d3))
 |true=>
  refine eT ?_;obtain⟨N,n1,d3⟩:∃N:XE->Sto->Prop,(∀ δ' S',N δ' S'->∃m',m'<m/\W m' δ' S')/\db { nx:=N,ct:=N,bk:=E.nx,rt:=E.rt } δ2 S3:=by simpa using d3
  have ac:=e2.trans e3;have ce:=c.pre ac;refine⟨fun σ4 H4=>∃o4 δ4 S4,Ex o H o4 H4/\RepE h o4 H4 δ4 σ4/\RepS h o4 H4 S4/\N δ4 S4,fun σ4 H4 ⟨o4,δ4,S4,e4,ah,af,n4⟩=>?_,?_⟩
  ·obtain⟨m',hm,w'⟩:=n1 δ4 S4 n4;exact⟨m',hm,o4,δ4,S4,e4,ah,af,w'⟩
  ·exact hb h o3 H3 δ2 σ2 S3 _ _ (aa.mono e3) s3 d3 ⟨fun o5 H5 δ5 S5 σ5 e5 ae z d5=>⟨o5,δ5,S5,ac.trans e5,ae,z,d5⟩,ce.rt,ce.nx,fun o5 H5 δ5 S5 σ5 e5 ae z d5=>⟨o5,δ5,S5,ac.trans e5,ae,z,d5⟩⟩
def aK:DT:=fun _ S R=>R true S
theorem cH:RT A5 aK:=fun h o H δ σ S R Q he hs q c=>c o H S true Ex.refl hs q
def bM(n:Nat)(g:DG)(tt:DT)(te:DE)(fin:Sto->Prop):List bd->XE->Sto->Prop
 | [],_,S=>fin S
 |d::ds,τ,S=>g (.d d) τ S fun τ1 S1=>tt τ1 S1 fun b S2=>if b=true then te τ1 S2 fun x S3=>asD x fun e=>∃acc,S3[n]?=some acc/\acc.length<1000/\bM n g tt te fin ds τ1 (S3.set n (acc++[e]))else bM n g tt te fin ds τ1 S2
def fV(caps:List (Option Nat))(i:DI)(g:DG)(tt:DT)(te:DE):DE:=fun δ S R=>i δ S fun ds S1=>bM S1.length g tt te (fun S2=>R (.l S1.length) S2) ds (eR caps δ) (S1++[[]])
def bK(caps:List (Option Nat))(i:DI)(g:DG)(tt:DT)(te:DE):DE:=fun δ S R=>i δ S fun ds S1=>bM S1.length g tt te (fun S2=>∃S0 acc,S2=S0++[acc]/\S0.length=S1.length/\R (.d (.list acc)) S0) ds (eR caps δ) (S1++[[]])
theorem RepS.pop{h o r:List Addr}{H:Hp}{S0 T:Sto}(hs:RepS h (o++r) H (S0++T))(hl:S0.length=o.length):RepS h o H S0 where
 len:=hl
 nd:=(nodup_append.mp hs.nd).1
 dis:=fun a ha=>hs.dis a (cq _ ha)
 hal:=hs.hal
 cont:=fun k a ds e1 e2=>by
  obtain⟨vs,e3,l⟩:=hs.cont k a ds (fH e1) (fH e2);exact⟨vs,e3,l.mono fun b u e=>by
   obtain⟨z1,z2,z3⟩:=zL.mp e;exact zL.mpr ⟨z1,fun m=>z2 (cq _ m),z3⟩⟩
theorem dW{h o r:List Addr}{H:Hp}:Same (vx h (o++r) H) (vx h o H):=fun b u e=>by
 obtain⟨z1,z2,z3⟩:=zL.mp e;exact zL.mpr ⟨z1,fun m=>z2 (cq _ m),z3⟩
theorem Ex.pop{o o' r:List Addr}{H H':Hp}(e:Ex o H (o++r) H'):Ex o H o H':=⟨⟨[],yv⟩,fun b u hb eb=>⟨hb,(e.kp b u hb eb).2⟩⟩
theorem AH{caps:List (Option Nat)}{wi:TI}{g:TG}{tt:TT}{te:TE}{di:DI}{dg:DG}{ae:DT}{af:DE}(hi:RI wi di)(hg:RG g dg)(ht:RT tt ae)(ak:RE te af)
  {h o:List Addr}{H:Hp}{δ:XE}{σ:St}{S:Sto}{Q:VK}{fin:Nat->Sto->Prop} (he:RepE h o H δ σ) (hs:RepS h o H S) (q:di δ S fun ds S1=>bM S1.length dg ae af (fin S1.length) ds (eR caps δ) (S1++[[]]))
  (c:∀o1 H1 D o2 H2 S2,Ex o H o1 H1->H1 D=none->Ex (o1++[D]) (upd H1 D (.lst [])) o2 H2->RepS h o2 H2 S2->fin o1.length S2->Q (.ref D) H2):iD caps wi g tt te σ H Q:=by
 refine hi h o H δ σ S _ _ he hs q fun o1 H1 S1 ds J e1 s1 wk d1 D hD=>?_;have eN:Ex o1 H1 (o1++[D]) (upd H1 D (.lst [])):=Ex.new s1 hD;have sN:RepS h (o1++[D]) (upd H1 D (.lst [])) (S1++[[]]):=s1.new hD (zv.mpr rfl);have hn:S1.length=o1.length:=s1.len;refine⟨fun i m τ H2=>m=ds.length-i/\i<=ds.length/\∃o2 δ2 S2,Ex (o1++[D]) (upd H1 D (.lst [])) o2 H2/\RepE h o2 H2 δ2 τ/\RepS h o2 H2 S2/\bM S1.length dg ae af (fin S1.length) (ds.drop i) δ2 S2,⟨ds.length,yv,mj _,_,_,_,Ex.refl,((he.mono e1).mono eN).tau,sN,d1⟩,?_⟩;rintro i m τ H2 ⟨rfl,hi,o2,δ2,S2,e2,al,ac,d2⟩;by_cases hlt:i<ds.length
 ·have ed:ds[i]?=some ds[i]:=bq hlt;rw[jz hlt]at d2;refine .inr ⟨wk.go i _ o2 H2 (eN.trans e2).hid ed,fun x H3 y=>?_⟩;obtain⟨s3,hx⟩:=wk.yld i _ o2 H2 x H3 S2 (eN.trans e2).hid ac ed y;have ai:Ex o2 H2 o2 H3:=Ex.of_same s3;refine hg h o2 H3 δ2 τ S2 (.d ds[i]) x _ _ (al.mono ai) (ac.same s3) hx d2 fun o4 H4 δ4 S4 τ4 e4 aa aj d4=>?_;refine ht h o4 H4 δ4 τ4 S4 _ _ aa aj d4 fun o5 H5 S5 b e5 s5 d5=>?_;have ah:=((e2.trans ai).trans e4).trans e5;cases b with
  |false=>exact eI ⟨ds.length-(i+1),yw,rfl,hlt,o5,δ4,S5,ah,aa.mono e5,s5,by simpa using d5⟩
  |true=>
   refine eT (ak h o5 H5 δ4 τ4 S5 _ _ (aa.mono e5) s5 (by simpa using d5) fun o6 H6 S6 z v e6 s6 z6 d6=>?_);replace d6:=c4 d6;obtain⟨e,rfl,acc,ea,hl,d6⟩:=d6;have ag:=ah.trans e6;have eD:o6[S1.length]?=some D:=by
    obtain⟨r,rfl⟩:=ag.pre;rw[hn];exact fH (by rw[bn])
   obtain⟨vs,ev,l⟩:=s6.cont _ D acc eD ea;refine⟨vs,ev,by rw[l.length];exact small1000 (im hl),ds.length-(i+1),yw,rfl,hlt,o6,δ4,_,ag.trans (Ex.upd eD),((aa.mono e5).mono e6).mono (Ex.upd eD),s6.upd eD (l.append (zn.mpr ⟨v,[],rfl,z6,zv.mpr rfl⟩)),d6⟩
 ·have ei:i=ds.length:=yw
  subst ei;rw[drop_length]at d2;exact .inl ⟨wk.stop _ o2 H2 (eN.trans e2).hid (cw _),c o1 H1 D o2 H2 S2 e1 hD e2 ac (hn▸d2)⟩
theorem uQ{caps:List (Option Nat)}{wi:TI}{g:TG}{tt:TT}{te:TE}{di:DI}{dg:DG}{z:DT}{aa:DE}(hi:RI wi di)(hg:RG g dg)(ht:RT tt z)(ac:RE te aa):RE (iD caps wi g tt te) (fV caps di dg z aa):=fun h o H δ σ S R Q he hs q c=>by
 refine AH (fin:=fun n S2=>R (.l n) S2) hi hg ht ac he hs q fun o1 H1 D o2 H2 S2 e1 hD e2 s2 f=>?_;have eN:Ex o1 H1 (o1++[D]) (upd H1 D (.lst [])):=⟨⟨[D],rfl⟩,fun b w hb e=>by
  have ne:b≠D:=zG e hD;exact⟨by simp[hb,ne],by rw[zE ne];exact e⟩⟩
 refine c o2 H2 S2 (.l o1.length) _ ((e1.trans eN).trans e2) s2 ⟨D,?_,rfl⟩ f;obtain⟨r,rfl⟩:=e2.pre;exact fH (by rw[bn])
theorem dM{caps:List (Option Nat)}{wi:TI}{g:TG}{tt:TT}{te:TE}{di:DI}{dg:DG}{aa:DT}{ac:DE}(hi:RI wi di)(hg:RG g dg)(ht:RT tt aa)(ae:RE te ac):RE (iD caps wi g tt te) (bK caps di dg aa ac):=fun h o H δ σ S R Q he hs q c=>by
 refine AH (fin:=fun n S2=>∃(S0:Sto) (acc:List bd),S2=S0++[acc]/\S0.length=n/\R (.d (.list acc)) S0) hi hg ht ae he hs q fun o1 H1 D o2 H2 S2 e1 hD e2 s2 ⟨S0,acc,eS,hl,f⟩=>?_;subst eS;have eN:Ex o1 H1 (o1++[D]) (upd H1 D (.lst [])):=⟨⟨[D],rfl⟩,fun b w hb e=>by
  have ne:b≠D:=zG e hD;exact⟨by simp[hb,ne],by rw[zE ne];exact e⟩⟩
 have z:=eN.trans e2;obtain⟨r,rfl⟩:=e2.pre;have er:r=[]:=by
  have:=s2.len;simp only[bx,fb,hl]at this;exact fm yw
 subst er;rw[gq]at s2 z;have s0:RepS h o1 H2 S0:=s2.pop hl;refine c o1 H2 S0 (.d (.list acc)) _ (e1.trans (Ex.pop (o':=o1) z)) s0 ?_ f;obtain⟨vs,ev,l⟩:=s2.cont o1.length D acc (by rw[bn]) (by rw[<- hl,bn]);have nD:D∉o1:=by
  have:=(nodup_append.mp s2.nd).2.2;intro m;exact this D m D yv rfl
 exact cU.mpr ⟨D,vs,rfl,zL.mpr ⟨s2.dis D yv,nD,ev⟩,l.mono dW⟩
def fin(n:Nat)(R:RX):RX:=fun y S'=>match y with
 | .l k=>if k<n then R (.l k) (S'.take n)else ∃ds,S'[k]?=some ds/\(R (.d (.list ds)) (S'.take n)\/R (.l n) (S'.take n++[ds]))
 | .p k d=>n<=k/\∃ds,S'[k]?=some ds/\R (.p n d) (S'.take n++[ds])
 |y=>R y (S'.take n)
theorem Be{h o r:List Addr}{H H':Hp}{S S':Sto}{k:Nat}{a:Addr}{ds:List bd}(hs:RepS h o H S)(e:Ex o H (o++r) H')(s':RepS h (o++r) H' S')(hk:¬ k<S.length)(ea:(o++r)[k]?=some a)(ac:S'[k]?=some ds):
  Ex o H (o++[a]) H'/\Same (vx h (o++r) H') (vx h (o++[a]) H')/\RepS h (o++[a]) H' (S'.take S.length++[ds]):=by
 have eS:S'=S'.take S.length++S'.drop S.length:=(jr _ _).symm;have hl:(S'.take S.length).length=o.length:=by
  have:=s'.len;rw[bx]at this;rw[iy,this,hs.len];omega
 have s0:RepS h o H' (S'.take S.length):=by
  rw[eS]at s';exact s'.pop hl
 have e0:Ex o H o H':=Ex.pop (o':=o) e;obtain⟨vs,ev,l⟩:=s'.cont k a ds ea ac;have na:a∉o:=fun m=>by
  obtain⟨j,ej⟩:=mem_iff_getElem?.mp m;have hj:j<o.length:=(List.getElem?_eq_some_iff.mp ej).1;have:=pW s'.nd (fH (t:=r) ej) ea;rw[hs.len]at hk;omega
 have nh:a∉h:=s'.dis a (cj ea);have hn:H a=none:=by
  cases eh:H a with
  |none=>rfl
  |some u=>exact absurd (cj ea) (e.kp a u na eh).1
 have e1:Ex o H (o++[a]) H':=⟨⟨[a],rfl⟩,fun b u hb eb=>⟨by simp only[mem_append,mem_singleton,not_or];exact⟨hb,zG eb hn⟩,(e0.kp b u hb eb).2⟩⟩;have sub:Same (vx h (o++r) H') (vx h (o++[a]) H'):=fun b u eb=>by
  obtain⟨z1,z2,z3⟩:=zL.mp eb;refine zL.mpr ⟨z1,?_,z3⟩;simp only[mem_append,mem_singleton,not_or];exact⟨fun m=>z2 (cq _ m),fun z=>z2 (by rw[z];exact cj ea)⟩
 refine⟨e1,sub,⟨by rw[bx,bx,hl];rfl,pE hs.nd na,fun b hb=>?_,s0.hal,fun j b es q1 q2=>?_⟩⟩
 ·rcases mem_append.mp hb with hb|hb
  ·exact hs.dis b hb
  ·rw[mem_singleton.mp hb];exact nh
 ·by_cases hj:j<o.length
  ·rw[dm hj]at q1;rw[dm (by rw[hl];exact hj),List.getElem?_take_of_lt (by rw[hs.len];exact hj)]at q2;obtain⟨ws,e3,l3⟩:=s'.cont j b es (fH q1) q2;exact⟨ws,e3,l3.mono sub⟩
  ·have aa:j=o.length:=by
    obtain⟨q,_⟩:=List.getElem?_eq_some_iff.mp q1;rw[bx,fb]at q;omega
   subst aa;rw[bn]at q1;rw[<- hl,bn]at q2;cases q1;cases q2;exact⟨vs,ev,l.mono sub⟩
theorem Ad{h o:List Addr}{H:Hp}{S:Sto}{R:RX}{Q:VK}(hs:RepS h o H S)(c:Cn h o H R Q):Cn h o H (fin S.length R) Q:=fun o' H' S' y v e s' hy q=>by
 obtain⟨r,rfl⟩:=e.pre;have eS:S'=S'.take S.length++S'.drop S.length:=(jr _ _).symm;have hl:(S'.take S.length).length=o.length:=by
  have:=s'.len;rw[bx]at this;rw[iy,this,hs.len];omega
 have s0:RepS h o H' (S'.take S.length):=by
  rw[eS]at s';exact s'.pop hl
 have e0:Ex o H o H':=Ex.pop (o':=o) e;cases y with
 |d d=>exact c o H' _ (.d d) v e0 s0 (Has.mono dW d v hy) q
 |o w=>exact c o H' _ (.o w) v e0 s0 hy q
 |x C fs=>exact c o H' _ (.x C fs) v e0 s0 (HasE.mono dW hy) q
 |p k d=>
  obtain⟨hk,ds,z,q⟩:=q;obtain⟨t,a,u,rfl,ea,et,hu⟩:=hy;obtain⟨e1,sub,s1⟩:=Be hs e s' yw ea z;exact c (o++[a]) H' _ (.p S.length d) _ e1 s1 ⟨t,a,u,rfl,by rw[hs.len,bn],sub _ _ et,Has.mono sub _ _ hu⟩ q
 |l k=>
  unfold fin at q;by_cases hk:k<S.length
  ·simp only[hk,↓reduceIte]at q;obtain⟨a,ea,rfl⟩:=hy;exact c o H' _ (.l k) _ e0 s0 ⟨a,by rw[dm (by rw[<- hs.len];exact hk)]at ea;exact ea,rfl⟩ q
  ·simp only[hk,↓reduceIte]at q;obtain⟨ds,z,q⟩:=q;obtain⟨a,ea,rfl⟩:=hy;obtain⟨vs,ev,l⟩:=s'.cont k a ds ea z;have na:a∉o:=fun m=>by
    obtain⟨j,ej⟩:=mem_iff_getElem?.mp m;have hj:j<o.length:=(List.getElem?_eq_some_iff.mp ej).1;have:=pW s'.nd (fH (t:=r) ej) ea;rw[hs.len]at hk;omega
   have nh:a∉h:=s'.dis a (cj ea);rcases q with q|q
   ·exact c o H' _ (.d (.list ds)) _ e0 s0 (cU.mpr ⟨a,vs,rfl,zL.mpr ⟨nh,na,ev⟩,l.mono dW⟩) q
   ·obtain⟨e1,sub,s1⟩:=Be hs e s' hk ea z;exact c (o++[a]) H' _ (.l S.length) _ e1 s1 ⟨a,by rw[hs.len,bn],rfl⟩ q
def aD(n:Nat)(R:RX):DEnds:={ nx:=fun _ S'=>fin n R (.d .none) S',rt:=fin n R }
theorem eok{h o:List Addr}{H:Hp}{S:Sto}{R:RX}{Q:VK}(hs:RepS h o H S)(c:Cn h o H R Q):EOk h o H (aD S.length R) { nx:=fun _ H'=>Q .non H',rt:=Q } :=
 ⟨fun o' H' δ' S' σ' e he z q=>Ad hs c o' H' S' _ _ e z xN q,Ad hs c,fun _ _ _ _ _ _ _ _ q=>q.elim,fun _ _ _ _ _ _ _ _ q=>q.elim⟩
def aS(p:List bd):Prop:=∃l g s:Int,p=[.int l,.int g,.int s]/\0<=l
end
section
def BI(K:bj):List V->Hp->VK->Prop:=fun xs H Q=>∃(p:Addr) (ns:List Int),xs=[.ref p]/\SqL K H p (ns.map V.int)/\Q (.int ns.sum) H
def Du(K:bj):List V->Hp->VK->Prop:=fun xs H Q=>∃(p:Addr) (bs:List Bool),xs=[.ref p]/\SqL K H p (bs.map V.bl)/\Q (.bl (bs.all id)) H
theorem Al:fy "sum" = some (.builtin "sum"):=by decide +kernel
theorem vQ:fy "all" = some (.builtin "all"):=by decide +kernel
section
variable {X:Cx}
theorem Dx(hc:X.calm=true):CallR X (.builtin "sum") (BI X.K):=by
 intro zf s σ H xs us Q I r h;obtain⟨p,ns,rfl,hq,q⟩:=h;obtain⟨u,rfl,rx⟩:=vals1 r;cases (show u=bu p from rx);obtain⟨aa,rv,pl,_⟩:=I.list hq;obtain⟨ys,e,z⟩:=nQ (jP rv);refine sum_intListG (I.ok.hd hc) (by rw[<- e];exact pl.isList) fun h' tk t' hk=>⟨.int ns.sum,H,I.kept (t':=tk) hk,⟨t',?_⟩,q⟩;have es:preSum (numAt ys) ys.size=ns.sum:=by
  rw[preSum_eq,z,List.take_of_length_le yv]
 rw[es]
theorem AY:∀{bs:List Bool}{us:List bb}{i:Nat}{v:bb},Vals (bs.map V.bl) us->us[i]?=some v->∃b,bs[i]?=some b/\v=.bool b
 | [],_,i,v,.nil,e=>by simp at e
 |b::bs,_,0,v,.cons r _,e=>by
  rw[kz]at e;cases e;exact⟨b,rfl,r⟩
 |b::bs,_,i+1,v,.cons _ t,e=>by
  obtain⟨c,e1,e2⟩:=AY (i:=i) (v:=v) t (by simpa using e);exact⟨c,by simpa using e1,e2⟩
theorem Hd(bs:List Bool):((dj bs.length).all fun i=>(bs[i]?).getD true)=bs.all id:=by
 rw[Bool.eq_iff_iff,all_eq_true,all_eq_true];constructor
 ·intro h b hb;obtain⟨i,hi⟩:=mem_iff_getElem?.mp hb;have hl:=(List.getElem?_eq_some_iff.mp hi).1;have:=h i (mem_range.mpr hl);rw[hi]at this;exact this
 ·intro h i hi;have hl:=mem_range.mp hi;rw[bq hl];exact h _ (getElem_mem hl)
theorem wE(hc:X.calm=true):CallR X (.builtin "all") (Du X.K):=by
 intro zf s σ H xs us Q I r h;obtain⟨p,bs,rfl,hq,q⟩:=h;obtain⟨u,rfl,rx⟩:=vals1 r;cases (show u=bu p from rx);obtain⟨z,rv,pl,_⟩:=I.list hq;have hl:=pl.isList;have ac:p<s.heap.objs.size:=by
  obtain⟨_,e,_⟩:=hl;exact dn e
 refine call_all_walk (x:=bu p) (wpAny_pyIter_list hl ?_);refine⟨s.heap.objs.size,[s.heap.objs.size,p],[s.heap.objs.size],z.toArray.size,_,_,fun i=>(bs[i]?).getD true,rfl,
  Walks.list (A:=X.A.in1) (I.ok.hd hc) _ p (gf ac) z.toArray,⟨⟨_,cf _ rfl,rfl,rfl⟩,hl.push _⟩,fun i v s' Q' E' hP hQ=>?_,fun h' tk hk=>?_⟩
 ·obtain⟨b,e,rfl⟩:=AY (i:=i) (v:=v) rv (by simpa using hP);have aa:Q' b s':=by simpa[e]using hQ
  exact ic aa
 ·have hz:z.toArray.size=bs.length:=by
   have:=rv.length;rw[cg]at this;simp[this]
  rw[hz,Hd];refine⟨.bl _,H,I.kept (t':=tk) fun b o e=>hk b o (fun hm=>?_) (bi _ e),rfl,q⟩;rw[mem_singleton.mp hm]at e;exact jp _ (dn e)
end
def iJ:List XV->Sto->RX->Prop:=fun xs S R=>arg1 xs fun x=>∃ds,c5 S x=some ds/\∃ns:List Int,ds=ns.map bp/\R (.d (.int ns.sum)) S
theorem wU{K:bj}:RC (BI K) iJ:=fun h o H S xs vs R Q hs hx q c=>by
 obtain⟨x,rfl,ds,hd,ns,rfl,q1⟩:=cP q;obtain⟨v,rfl,z⟩:=hxs1 hx;obtain⟨a,ws,rfl,ea,l⟩:=bW hs hd z;rw[o8 l]at ea;exact⟨a,ns,rfl,.of ea,c o H S _ _ Ex.refl hs (xI _) q1⟩
theorem Dw{H:Hp}:∀{ns:List Bool}{vs:List V},HasL H (ns.map ke) vs->vs=ns.map V.bl
 | [],vs,h=>zv.mp h
 |n::ns,vs,h=>by
  obtain⟨v,r,rfl,h1,h2⟩:=zn.mp h;rw[gM.mp h1,Dw h2];rfl
def gE:List XV->Sto->RX->Prop:=fun xs S R=>arg1 xs fun x=>∃ds,c5 S x=some ds/\∃ns:List Bool,ds=ns.map ke/\R (.d (.bool (ns.all id))) S
theorem sX{K:bj}:RC (Du K) gE:=fun h o H S xs vs R Q hs hx q c=>by
 obtain⟨x,rfl,ds,hd,ns,rfl,q1⟩:=cP q;obtain⟨v,rfl,z⟩:=hxs1 hx;obtain⟨a,ws,rfl,ea,l⟩:=bW hs hd z;rw[Dw l]at ea;exact⟨a,ns,rfl,.of ea,c o H S _ _ Ex.refl hs (xB _) q1⟩
section
variable {S:Sto}{i:Int}{b:Bool}{z:Str}{ds:List bd}{d:bd}{k:Nat}{x y:XV}{R:RX}{c:String}{p:List bd}{n:Nat}{v:V}
theorem oX{K:Int->Prop}:asI (.d (.int i)) K=K i:=rfl
theorem oZ{K:Bool->Prop}:asB (.d (.bool b)) K=K b:=rfl
theorem mV{K:Str->Prop}:asS (.d (.str z)) K=K z:=rfl
theorem pC{K:List bd->Prop}:asT (.d (.tuple ds)) K=K ds:=rfl
theorem mC{K:bd->Prop}:asD (.d d) K=K d:=rfl
theorem m3:c5 S (.d (.list ds))=some ds:=rfl
theorem lC:asQ S (.d (.list ds))=some ds:=rfl
theorem pD:asQ S (.l k)=S[k]?:=rfl
theorem oB:b0 S (.d d)=some d:=rfl
theorem nU:b0 S (.l k)=(S[k]?).map .list:=rfl
theorem oF:ret0 S R (.d d) []=R (.d d) S:=rfl
theorem nJ:ret0 S R (.l 0) [ds]=R (.l S.length) (S++[ds]):=rfl
theorem lB:rF k S R (.d d) [p]=R (.d d) (S.set k p):=rfl
theorem oM:fin n R (.d d) S=R (.d d) (S.take n):=rfl
theorem oR:fin n R (.l k) S=if k<n then R (.l k) (S.take n)else ∃ds,S[k]?=some ds/\(R (.d (.list ds)) (S.take n)\/R (.l n) (S.take n++[ds])):=rfl
theorem pI{K:XV->Prop}:arg1 [x] K=K x:=rfl
theorem nG{K:XV->XV->Prop}:arg2 [x,y] K=K x y:=rfl
theorem pN{K:String->Prop}:uW (.o (.ty c)) K↔K c:=⟨fun⟨_,e,q⟩=>by cases e;exact q,fun q=>⟨c,rfl,q⟩⟩
theorem nP{K:Int->Prop}:uC (.d (.bool b)) K=K (if b then 1 else 0):=rfl
theorem pJ{δ:XE}:(aD n R).nx δ S=fin n R (.d .none) S:=rfl
theorem qB:(aD n R).rt x S=fin n R x S:=rfl
theorem nI:datas []=some []:=rfl
theorem l9{r:List XV}:datas (.d d::r)=(datas r).map (d :: ·):=rfl
end
theorem pO{α:Type}{a:α}{l:List α}:atI (a::l) 0=some a:=gN (j:=0) rfl
theorem lG{α:Type}{a b:α}{l:List α}:atI (a::b::l) 1=some b:=gN (j:=1) rfl
theorem oQ{α:Type}{a b c:α}{l:List α}:atI (a::b::c::l) 2=some c:=gN (j:=2) rfl
theorem lQ{α:Type}{a b c d:α}{l:List α}:atI (a::b::c::d::l) 3=some d:=gN (j:=3) rfl
theorem pF{α:Type}{a b c d e:α}{l:List α}:atI (a::b::c::d::e::l) 4=some e:=gN (j:=4) rfl
def Shp(n:Nat)(d:bd):Prop:=d.canLay0=true/\d.depth<=n
theorem vP{n:Nat}{i:Int}:Shp n (.int i):=⟨rfl,mj _⟩
theorem CC{n:Nat}{i:Bool}:Shp n (.bool i):=⟨rfl,mj _⟩
theorem u0{n:Nat}:∀{ds:List bd},(∀d∈ds,Shp n d)->jh ds=true/\jl ds<=n
 | [],_=>⟨by simp only[jh],by simp only[jl];exact mj _⟩
 |d::ds,h=>by
  obtain⟨h1,h2⟩:=h d ck;obtain⟨h3,h4⟩:=u0 (ds:=ds) fun e m=>h e (bw _ m);simp only[jh,jl,h1,h3,Bool.and_true,true_and];omega
theorem wO{n:Nat}{ds:List bd}(h:∀d∈ds,Shp n d):Shp (n+1) (.list ds):=by
 obtain⟨h1,h2⟩:=u0 h;exact⟨by simp only[iq];exact h1,by simp only[PyData.depth];omega⟩
theorem DV{n:Nat}{ds:List bd}(h:∀d∈ds,Shp n d):Shp (n+1) (.tuple ds):=by
 obtain⟨h1,h2⟩:=u0 h;exact⟨by simp only[iq];exact h1,by simp only[PyData.depth];omega⟩
theorem tD{α:Type}{n:Nat}{f:α->bd}{l:List α}(h:∀x∈l,Shp n (f x)):∀d∈l.map f,Shp n d:=fun d m=>by
 obtain⟨x,hx,rfl⟩:=mem_map.mp m;exact h x hx
theorem Fp{n:Nat}{a b:bd}(h1:Shp n a)(h2:Shp n b):∀d∈[a,b],Shp n d:=by
 intro d m;simp only[gj,fj,or_false]at m;rcases m with rfl|rfl
 ·exact h1
 ·exact h2
theorem Shp.ok{n:Nat}{d:bd}(h:Shp n d)(hn:n<=64:=by decide):cu d=true:=by
 unfold cu;rw[h.1,ju (ip h.2 hn)];rfl
theorem fD{g:DG}{b:DS}{E:DEnds}:∀{ds:List bd}{δ:XE}{S:Sto} (I:Nat->XE->Sto->Prop),I 0 δ S ->
  (∀i d δ S (N:XE->Sto->Prop),ds[i]?=some d->I i δ S->(∀ δ' S',I (i+1) δ' S'->N δ' S')->g (.d d) δ S fun δ1 S1=>b { nx:=N,ct:=N,bk:=E.nx,rt:=E.rt } δ1 S1) ->
  (∀ δ S,I ds.length δ S->E.nx δ S)->kM g b ds E δ S
 | [],δ,S,I,h0,_,fin=>fin δ S h0
 |d::ds,δ,S,I,h0,step,fin=>by
  show g (.d d) δ S fun δ1 S1=>b _ δ1 S1;refine step 0 d δ S _ rfl h0 fun δ' S' h1=>?_;exact fD (ds:=ds) (fun i=>I (i+1)) h1 (fun i e δ S N hi=>step (i+1) e δ S N (by simpa using hi)) fin
theorem Dc{α:Type}{l:List α}{a b:α}{n:Nat}(h:l.length=n):(l++[a]).set n b=l++[b]:=by
 subst h;rw[List.set_append_right _ _ (cw _),Nat.sub_self];rfl
theorem HM{H:Hp}:RepS [] [] H []:=⟨rfl,nodup_nil,fun _ h=>(nomatch h),fun _ h=>(nomatch h),fun _ _ _ e=>(by simp at e)⟩
theorem Ex.same_nil{o':List Addr}{H H':Hp}(e:Ex [] H o' H'):Same H H':=fun b u q=>(e.kp b u yv q).2
theorem Kl{K:bj}{a:Addr}{ns:List Int}{N:Int}{j m:Nat}{tb:TS}{db:DS}{D:Ends}{σ:St}{H:Hp}(hb:RS tb db)(h0:σ[0]?=some (some (.ref a)))(hl:σ.length=m+1)(hS:SqL K H a (ns.map V.int))(z:ns.length<=63)
  (turn:∀n:Int,db { nx:=fun δ _=>δ[0]?=some (some (.o (.ref a)))/\δ.length=m+1,ct:=fun δ _=>δ[0]?=some (some (.o (.ref a)))/\δ.length=m+1,rt:=fun _ _=>False } ((some (.o (.ref a))::bg m none).set j (some (.d (.int n)))) [])
  (hj:j≠0) (done:∀(σ:St) (H1:Hp),Same H H1->D.nx σ H1):
  k7 (vK K (tOp kZ (lA (jH (tC2 (vB K) (cO 0) (tC (.int 0))) kP)) (tSl (nX K) (cO 0) (kE (tC (.int 1))) (kE (tC (.int N)))))) (g0 j) tb D σ H:=by
 refine EZ (a:=a) (ns:=ns) (fun σ=>σ[0]?=some (some (.ref a))/\σ.length=m+1) h0 hS z ⟨h0,hl⟩ ?_ fun σ H1 _ s=>done σ H1 s;rintro n σ1 H1 H2 ⟨z0,z1⟩ s1 s2;refine hb [] [] H2 _ _ [] _ _ ⟨by simp[z1],fun i x e=>?_⟩ HM (turn n) ⟨?_,fun _ _ _ _ _ _ _ _ q=>q.elim,fun _ _ _ _ _ _ _ _ q=>q.elim,?_⟩
 ·rw[List.getElem?_set]at e ⊢;by_cases hij:j=i
  ·rw[cy hij]at e ⊢;by_cases hjl:j<m+1
   ·rw[cy (by simpa using hjl)]at e;rw[cy (by rw[z1];exact hjl)];cases e;exact⟨.int n,rfl,xI n⟩
   ·rw[bv (by simpa using hjl)]at e;cases e
  ·rw[bv hij]at e ⊢;cases i with
   |zero=>
    cases e;exact⟨.ref a,z0,rfl⟩
   |succ i=>
    rw[lc,List.getElem?_replicate]at e;split at e<;>cases e
 ·rintro o' H' δ' S' σ' e he hs ⟨q1,q2⟩;obtain⟨v,ev,hv⟩:=he.get 0 _ q1;cases hv;exact⟨s2.trans e.same_nil,ev,by rw[<- he.len];exact q2⟩
 ·rintro o' H' δ' S' σ' e he hs ⟨q1,q2⟩;obtain⟨v,ev,hv⟩:=he.get 0 _ q1;cases hv;exact⟨s2.trans e.same_nil,ev,by rw[<- he.len];exact q2⟩
end
section
theorem LM{P:bz}{w:dh}{K:bj}{tg:Expr}(it:Addr)(lo:Int)(n:Nat):Turn P w K tg (Itr lo n) [it] it (fun i h=>IsLongIter h it (lo+(i:Nat)*1) ((n:Int)-(i:Nat)) 1) where
 mem:=by simp
 obj:=fun i h st b hb=>by
  have e:b=it:=by simpa using hb
  subst e;exact⟨_,st,fun v z=>by
   have z':Data.fields _=Data.cell v:=z;cases z'⟩
 keep:=fun i h h' st k=>k it yv _ st
 item:=by
  intro X hP hw hK hc i zf s σ H E I hf st hg;subst hP hw hK;obtain⟨f0,f1,f2,f3,f4,f5⟩:=hf it yv;have W:=Walks.longrange (prog:=X.prog) (w:=X.w) (I.ok.hd hc) it lo 1 n;refine W.item i s _ _ hg st fun v h' tk hv aa kk=>?_;obtain⟨t,rfl⟩:=hv;have I1:Inv X zf σ H { s with heap:=h',toks:=tk }:=I.turned (fun b o hb e=>kk b o (by simpa using hb) e) f0 f1 f3 f4 f5;refine⟨_,rfl,sG (s:={ s with heap:=h',toks:=tk }) (n:="longrange_iterator") aa rfl rfl dz ⟨.int (lo+i),H,I1,⟨t,?_⟩,⟨rfl,rfl⟩,aa,fun b hb=>(hf b hb).1⟩⟩;rw[Int.mul_one]
 done:=by
  intro X hP hw hK hc i zf s σ H E I hf st hg;subst hP hw hK;obtain⟨f0,f1,f2,f3,f4,f5⟩:=hf it yv;exact wpAny_pyNext_long_end (I.ok.hd hc) st (by have:n<=i:=hg;omega) fun h' eb=>⟨rfl,I.turned (t':=s.toks) (fun b o hb e=>eb b o hb e) f0 f1 f3 f4 f5⟩
 self:=fun _ _ _ _ _ st h=>wpAny_pyIter_longiter st h
section
variable {X:Cx}{tg:Expr}
theorem BA{zf:List (Addr×Obj)}{σ:St}{H:Hp}{s:be}{R:It->Hp->Prop}{E:bb->be->Prop}{lo hi:Int}{t u v:Tok}{tk:Nat}(I:Inv X zf σ H s)
  (q:R (Itr lo (hi-lo).toNat) H):bo (model X.prog X.w) X.A (pyIter (.ref s.heap.objs.size)) (PIE X zf σ tg R) E { s with heap:=s.heap.push { cls:=.type "range",data:=.fields #[.int lo t,.int hi u,.int 1 v] },toks:=tk }:=by
 have I1:Inv X zf σ H { s with heap:=s.heap.push { cls:=.type "range",data:=.fields #[.int lo t,.int hi u,.int 1 v] },toks:=tk }:=I.kept fun b o e=>bi _ e;have e1:lo+((0:Nat):Int)*1=lo:=by simp
 have e2:(((hi-lo).toNat:Nat):Int)-((0:Nat):Int)=fi lo hi 1:=by rw[rangeSize_one];split<;>omega
 cases hsm:iu lo hi 1 with
 |true=>
  refine wpAny_pyIter_range (IsRange.new ..) hsm ?_;refine⟨(s.heap.push { cls:=.type "range",data:=.fields #[.int lo t,.int hi u,.int 1 v] }).objs.size,[(s.heap.push { cls:=.type "range",data:=.fields #[.int lo t,.int hi u,.int 1 v] }).objs.size],_,_,H,rfl,
   I1.kept (t':=tk) fun b o e=>bi _ e,HG _ lo (hi-lo).toNat,?_,fun b hb=>?_,q⟩
  ·show IsRangeIter _ _ (lo+((0:Nat):Int)*1) ((((hi-lo).toNat:Nat):Int)-((0:Nat):Int)) 1;rw[e1,e2];exact cf _ rfl
  ·have e:b=(s.heap.push { cls:=.type "range",data:=.fields #[.int lo t,.int hi u,.int 1 v] }).objs.size:=by simpa using hb
   subst e;exact I1.fpOk (cw _) (I1.hok.fresh (cw _))
 |false=>
  refine wpAny_pyIter_longrange (IsRange.new ..) hsm ?_;refine⟨(s.heap.push { cls:=.type "range",data:=.fields #[.int lo t,.int hi u,.int 1 v] }).objs.size,[(s.heap.push { cls:=.type "range",data:=.fields #[.int lo t,.int hi u,.int 1 v] }).objs.size],_,_,H,rfl,
   I1.kept (t':=tk) fun b o e=>bi _ e,LM _ lo (hi-lo).toNat,?_,fun b hb=>?_,q⟩
  ·show IsLongIter _ _ (lo+((0:Nat):Int)*1) ((((hi-lo).toNat:Nat):Int)-((0:Nat):Int)) 1;rw[e1,e2];exact cf _ rfl
  ·have e:b=(s.heap.push { cls:=.type "range",data:=.fields #[.int lo t,.int hi u,.int 1 v] }).objs.size:=by simpa using hb
   subst e;exact I1.fpOk (cw _) (I1.hok.fresh (cw _))
def AB(ta:TA):TI:=fun σ H R=>ta σ H fun vs H1=>∃j:Int,vs=[.int j]/\R (Itr 0 j.toNat) H1
def Cd(ta:TA):TI:=fun σ H R=>ta σ H fun vs H1=>∃i j:Int,vs=[.int i,.int j]/\R (Itr i (j-i).toNat) H1
theorem fC{a:Expr}{ta:TA}{p pos:Pos}(hg:Gl X "range")(hm:X.mg "range" = none)(ha:PA X [a] ta)(hs:cp [a] X.env=[(false,eval a X.env)]:=by rfl):PI X tg (.Call (.Name "range" p) [a] [] pos) (AB ta):=by
 intro zf s σ H R I h;refine Call_ (gG I hg hm boot_range (ge (thn (ha pos zf s σ H _ I h) fun us s1 ⟨vs,H1,I1,r1,q1⟩=>?_) hs rfl));obtain⟨j,e,q⟩:=q1;subst e;cases r1 with
 |cons r rr=>
  cases rr;obtain⟨t,rfl⟩:=r;exact call_range_1 (BA I1 (by simpa using q))
theorem F3{a b:Expr}{ta:TA}{p pos:Pos}(hg:Gl X "range")(hm:X.mg "range" = none)(ha:PA X [a,b] ta)(hs:cp [a,b] X.env=[(false,eval a X.env),(false,eval b X.env)]:=by rfl)(z:cp [b] X.env=[(false,eval b X.env)]:=by rfl):
  PI X tg (.Call (.Name "range" p) [a,b] [] pos) (Cd ta):=by
 intro zf s σ H R I h;refine Call_ (gG I hg hm boot_range (ge (thn (ha pos zf s σ H _ I h) fun us s1 ⟨vs,H1,I1,r1,q1⟩=>?_) (by rw[hs,z]) (by rw[z];rfl)));obtain⟨i,j,e,q⟩:=q1;subst e;cases r1 with
 |cons r rr=>
  cases rr with
  |cons r' rr=>
   cases rr;obtain⟨t,rfl⟩:=r;obtain⟨t',rfl⟩:=r';exact call_range_2 (BA I1 q)
end
def bY(a:DA):DI:=fun δ S R=>a δ S fun xs S1=>arg1 xs fun x=>asI x fun j=>R (fU 0 j.toNat) S1
def jD(a:DA):DI:=fun δ S R=>a δ S fun xs S1=>arg2 xs fun x y=>asI x fun i=>asI y fun j=>R (fU i (j-i).toNat) S1
theorem gY{ta:TA}{da:DA}(ha:RA ta da):RI (AB ta) (bY da):=fun h o H δ σ S R Q he hs q c=>
 ha h o H δ σ S _ _ he hs q fun o1 H1 S1 xs vs e1 s1 x1 d0=>by
  obtain⟨x,rfl,d2⟩:=cP d0;obtain⟨j,rfl,d1⟩:=bA d2;obtain⟨v,rfl,hv⟩:=hxs1 x1;rw[aY hv];exact⟨j,rfl,c o1 H1 S1 _ _ e1 s1 CH d1⟩
theorem Kg{ta:TA}{da:DA}(ha:RA ta da):RI (Cd ta) (jD da):=fun h o H δ σ S R Q he hs q c=>
 ha h o H δ σ S _ _ he hs q fun o1 H1 S1 xs vs e1 s1 x1 d0=>by
  obtain⟨x,y,rfl,d2⟩:=mS d0;obtain⟨i,rfl,d3⟩:=bA d2;obtain⟨j,rfl,d1⟩:=bA d3;obtain⟨v,u,rfl,hv,hu⟩:=hxs2 x1;rw[aY hv,aY hu];exact⟨i,j,rfl,c o1 H1 S1 _ _ e1 s1 CH d1⟩
end
section
open Sem (wp)
open AutoSeq1 (wpAny_loadPart')
section
variable {X:Cx}{zf:List (Addr×Obj)}{σ:St}{H:Hp}{s:be}{h':Heap}
theorem Inv.turnLaid{t':Nat}{ch:List Addr}{T:Addr}{o:HO}(I:Inv X zf σ H s)(k:∀b u,b∉ch->s.heap.get? b=some u->h'.get? b=some u)(hf:∀b∈ch,FpOk X zf H b)(hT:s.heap.objs.size<=T)
  (new:ObjOk X.prog X.w (upd H T o) h' T o):Inv X zf σ (upd H T o) { s with heap:=h',toks:=t' }:=by
 have hn:H T=none:=I.hok.fresh hT;have aa:∀b u,H b=some u->b∉ch:=fun b u e m=>by rw[(hf b m).1]at e;cases e
 have ac:∀b u,s.heap.get? b=some u->b≠T:=fun b u e z=>absurd (fk (dn e) hT) (by rw[z];exact jp _);have up:∀b u,H b=some u->upd H T o b=some u:=fun b u e=>(zE (zG e hn)).trans e;refine I.step (g':=s.gens) (d':=s.drawn) (ch:=ch) (fun b hb=>?_) (fun b u _ _ hc e _=>k b u hc e) (fun b u _ _ hc e _=>⟨u.slots,k b u hc e⟩) (fun b u _ e n=>(zE (ac b u e)).trans n)
  (fun b u hc e=>⟨u,k b u hc e⟩) (fun b xs e=>up b _ e) (fun b u v e=>up b _ e) (fun b ps e=>up b _ e) (fun m hm=>?_) (fun b u e=>?_) I.bare
 ·obtain⟨_,f1,_,f3,f4,f5⟩:=hf b hb;exact⟨f3,f1,f4,f5⟩
 ·obtain⟨ob,es,ep,ho,r⟩:=hm;exact⟨ob,es,ep,k _ ob (fun z=>(hf _ z).2.1 rfl) ho,r⟩
 ·by_cases hb:b=T
  ·subst hb;rw[zP]at e;cases e;exact new
  ·rw[zE hb]at e;refine(I.hok b u e).stay (fun c v hc q=>k c v ?_ q) (fun c q=>up c _ q) (fun c xs q=>up c _ q) fun c o u q=>up c _ q;rcases hc with z|z
   ·rw[z];exact aa b u e
   ·exact aa c _ z
end
def BE(i:Nat):List bd->List bd
 | []=>[]
 |d::ds=>.tuple [.int i,d]::BE (i+1) ds
theorem wF{X:Cx}{x:Str}{i:Int}{pos:Pos}(hg:Gl X x)(hm:∃t,X.mg x=some (.int i t))(hd:(x==("__debug__":Str))=false:=by decide):PE X (.Name x pos) (tC (.int i)):=by
 obtain⟨t,e⟩:=hm;exact dR hg e ⟨t,rfl⟩ hd
end
section
def dIx:D2:=fun x y S R=>asI y fun i=>match x with
 | .d (.tuple ds)=>∃d,atI ds i=some d/\R (.d d) S
 | .d (.list ds)=>∃d,atI ds i=some d/\R (.d d) S
 | .l k=>∃ds,S[k]?=some ds/\∃d,atI ds i=some d/\R (.d d) S
 | .d (.str z)=>z.length<=br/\∃c,atI z.cps.toList i=some c/\R (.d (.str ⟨#[c]⟩)) S
 |_=>False
theorem LH:RO wT (fun x y S R=>asS x fun z=>asI y fun i=>z.length<=br/\∃c,atI z.cps.toList i=some c/\R (.d (.str ⟨#[c]⟩)) S):=fun h o H S x y v u R Q hs hx hy q c=>by
 replace q:=uY q;obtain⟨z,rfl,q⟩:=q;replace q:=bA q;obtain⟨i,rfl,hz,k,ek,q⟩:=q;exact⟨z,i,k,eZ hx,aY hy,hz,ek,c o H S _ _ Ex.refl hs (xS _) q⟩
theorem cV{K:bj}:RO (rIx K) dIx:=fun h o H S x y v u R Q hs hx hy q c=>by
 replace q:=bA q;obtain⟨i,rfl,q⟩:=q;split at q
 ·exact .inr (.inl (G2 h o H S _ _ v u R Q hs hx hy q c))
 ·exact .inl (xP h o H S _ _ v u R Q hs hx hy ⟨_,rfl,q⟩ c)
 ·exact .inl (xP h o H S _ _ v u R Q hs hx hy q c)
 ·exact .inr (.inr (LH h o H S _ _ v u R Q hs hx hy q c))
 ·exact q.elim
section
variable {S:Sto}{R:RX}{ds:List bd}{i:Int}{k:Nat}{z:Str}
theorem pS:dIx (.d (.tuple ds)) (.d (.int i)) S R=∃d,atI ds i=some d/\R (.d d) S:=rfl
theorem m6:dIx (.d (.list ds)) (.d (.int i)) S R=∃d,atI ds i=some d/\R (.d d) S:=rfl
theorem pP:dIx (.l k) (.d (.int i)) S R=∃ds,S[k]?=some ds/\∃d,atI ds i=some d/\R (.d d) S:=rfl
theorem nA:dIx (.d (.str z)) (.d (.int i)) S R=(z.length<=br/\∃c,atI z.cps.toList i=some c/\R (.d (.str ⟨#[c]⟩)) S):=rfl
end
def D8(K:bj):V->Option Int->Option Int->Hp->VK->Prop:=fun x a b H Q=>nX K x a b H Q\/(uJ K x a b H Q\/Bp x a b H Q)
theorem qP{X:Cx}:SlR X (D8 X.K):=AA.or (Kw.or KJ)
def gF:D3:=fun x i j S R=>match x with
 | .d (.tuple ds)=>¬(HT.sIx ds.length 0 i=0/\HT.sIx ds.length ds.length j=ds.length)/\R (.d (.tuple (aV ds i j))) S
 | .d (.list ds)=>R (.d (.list (aV ds i j))) S
 | .l k=>∃ds,S[k]?=some ds/\R (.d (.list (aV ds i j))) S
 | .d (.str z)=>z.length<=br/\R (.d (.str (PySem.Txt.slice z i j))) S
 |_=>False
theorem vM{K:bj}:RL (D8 K) gF:=fun h o H S x v a b R Q hs hx q c=>by
 unfold gF at q;split at q
 ·exact .inr (.inl (KW h o H S _ v a b R Q hs hx q c))
 ·exact .inl (Bt h o H S _ v a b R Q hs hx ⟨_,rfl,q⟩ c)
 ·exact .inl (Bt h o H S _ v a b R Q hs hx q c)
 ·exact .inr (.inr ⟨_,eZ hx,q.1,c o H S _ _ Ex.refl hs (xS _) q.2⟩)
 ·exact q.elim
section
variable {S:Sto}{R:RX}{ds:List bd}{i j:Option Int}{k:Nat}{z:Str}
theorem lX:gF (.d (.tuple ds)) i j S R=(¬(HT.sIx ds.length 0 i=0/\HT.sIx ds.length ds.length j=ds.length)/\R (.d (.tuple (aV ds i j))) S):=rfl
theorem mP:gF (.l k) i j S R=∃ds,S[k]?=some ds/\R (.d (.list (aV ds i j))) S:=rfl
theorem mG:gF (.d (.str z)) i j S R=(z.length<=br/\R (.d (.str (PySem.Txt.slice z i j))) S):=rfl
end
def x8(K:bj):R2:=fun x y H Q=>∃a b ys,x=.ref a/\y=.ref b/\SqT K H a []/\SqT K H b ys/\Q (.ref b) H
theorem GX{X:Cx}:OpR X (jf .Add) (x8 X.K):=by
 intro zf s σ H x y v u Q I rx ry h;obtain⟨a,b,ys,rfl,rfl,ha,hb,q⟩:=h;cases rx;cases ry;obtain⟨aa,r1,p1,_⟩:=I.tuple ha;obtain⟨z,r2,p2,_⟩:=I.tuple hb;cases r1;obtain⟨⟨c1,d1,e1,l1⟩,o1,w1,n1,k1⟩:=id p1;obtain⟨⟨c2,d2,e2,l2⟩,o2,w2,n2,k2⟩:=id p2;simp only at w1 k1 w2 k2;subst w1 k1 w2 k2;exact concat_meets ⟨_,o1,rfl⟩ ⟨_,o2,rfl⟩ noFill_tuple_add seq_tuple_add PySem.F.slot_tuple_add PySem.F.entry_tuple_add (PySem.F.args_tuple_add_2 _ _) (tuple_addW0 a b _ _ n1 n2 d1 d2 l1 l2 yv) ⟨o1,o2,⟨.ref b,H,I,rfl,q⟩⟩
def D6(K:bj):R2:=fun x y H Q=>rI0 (fun i j=>.int (i+j)) x y H Q\/(kZ x y H Q\/(uX K x y H Q\/(x8 K x y H Q\/∃i j,x=.str i/\y=.str j/\i.length+j.length<=br/\Q (.str (i++j)) H)))
theorem zJ{X:Cx}:OpR X (jf .Add) (D6 X.K):=Ge.or (v7.or (EK.or (GX.or Ik)))
def aF:D2:=fun x y S R=>match x,y with
 | .d (.int i),.d (.int j)=>R (.d (.int (i+j))) S
 | .d (.tuple ds),.d (.tuple es)=>ds.length+es.length<=1000/\R (.d (.tuple (ds++es))) S
 | .d (.str a),.d (.str b)=>a.length+b.length<=br/\R (.d (.str (a++b))) S
 |x,y=>asL S x fun ds=>asL S y fun es=>ds.length+es.length<=1000/\R (.d (.list (ds++es))) S
theorem bR{K:bj}:RO (D6 K) aF:=fun h o H S x y v u R Q hs hx hy q c=>by
 unfold aF at q;split at q
 ·exact .inl (lO h o H S _ _ v u R Q hs hx hy q c)
 ·rename_i ds es;cases ds with
  |cons d ds=>exact .inr (.inr (.inl (Hf h o H S _ _ v u R Q hs hx hy ⟨yv,q⟩ c)))
  |nil=>
   obtain⟨a,vs,rfl,ea,l⟩:=f6 hx;obtain⟨b,us,rfl,eb,l'⟩:=f6 hy;rw[zv.mp l]at ea;exact .inr (.inr (.inr (.inl ⟨a,b,us,rfl,rfl,.of ea,.of eb,c o H S (.d (.tuple es)) _ Ex.refl hs hy q.2⟩)))
 ·exact .inr (.inr (.inr (.inr ⟨_,_,eZ hx,eZ hy,q.1,c o H S _ _ Ex.refl hs (xS _) q.2⟩)))
 ·exact .inr (.inl (Ko h o H S _ _ v u R Q hs hx hy q c))
section
variable {S:Sto}{R:RX}{ds es:List bd}{i j:Int}{k l:Nat}{a b:Str}
theorem pR:aF (.d (.int i)) (.d (.int j)) S R=R (.d (.int (i+j))) S:=rfl
theorem oE:aF (.d (.tuple ds)) (.d (.tuple es)) S R=(ds.length+es.length<=1000/\R (.d (.tuple (ds++es))) S):=rfl
theorem l7:aF (.d (.list ds)) (.d (.list es)) S R↔(ds.length+es.length<=1000/\R (.d (.list (ds++es))) S):=⟨fun⟨_,e,_,e',q⟩=>by cases e;cases e';exact q,fun q=>⟨_,rfl,_,rfl,q⟩⟩
end
def Bf:R2:=fun x y H Q=>rI IntMulOk (fun i j=>.int (i*j)) x y H Q\/(x3 x y H Q\/Bi x y H Q)
theorem cI{X:Cx}:OpR X (jf .Mult) Bf:=F6.or (GS.or GB)
def bH:D2:=fun x y S R=>asI y fun j=>match x with
 | .d (.int i)=>IntMulOk i j/\R (.d (.int (i*j))) S
 | .d (.str z)=>z.length<=1000/\j<=1000/\-1000<=j/\R (.d (.str (PySem.Txt.mul z j))) S
 | .d (.list ds)=>j<=1000/\-1000<=j/\ds.length*j.toNat<=1000/\R (.d (.list (bg j.toNat ds).flatten)) S
 |_=>False
theorem HasL.rep{H:Hp}{ds:List bd}{vs:List V}(l:HasL H ds vs):∀n:Nat,HasL H (bg n ds).flatten (bg n vs).flatten
 | 0=>zv.mpr rfl
 |n+1=>by
  rw[kq,kq,flatten_cons,flatten_cons];exact l.append (HasL.rep l n)
theorem gR:RO Bf bH:=fun h o H S x y v u R Q hs hx hy q c=>by
 replace q:=bA q;obtain⟨j,rfl,q⟩:=q;split at q
 ·exact .inl (iC h o H S _ _ v u R Q hs hx hy q c)
 ·exact .inr (.inl ⟨_,_,eZ hx,aY hy,q.1,q.2.1,q.2.2.1,c o H S _ _ Ex.refl hs (xS _) q.2.2.2⟩)
 ·obtain⟨a,vs,rfl,ea,l⟩:=bW (x:=.d (.list _)) hs rfl hx;obtain⟨h1,h2,h3,q⟩:=q;exact .inr (.inr ⟨a,j,vs,rfl,aY hy,ea,yw,yw,by rw[l.length];exact im (small1000 h3),mZ hs (l.rep j.toNat) c q⟩)
 ·exact q.elim
section
variable {S:Sto}{R:RX}{i j:Int}{z:Str}{ds:List bd}
theorem nE:bH (.d (.list ds)) (.d (.int j)) S R=(j<=1000/\-1000<=j/\ds.length*j.toNat<=1000/\R (.d (.list (bg j.toNat ds).flatten)) S):=rfl
theorem pY:bH (.d (.int i)) (.d (.int j)) S R=(IntMulOk i j/\R (.d (.int (i*j))) S):=rfl
theorem mQ:bH (.d (.str z)) (.d (.int j)) S R=(z.length<=1000/\j<=1000/\-1000<=j/\R (.d (.str (PySem.Txt.mul z j))) S):=rfl
end
def CF:R2:=fun x y H Q=>rI CDivX (fun i j=>.int (i/j)) x y H Q\/rI CDivN (fun i j=>.int (i.fdiv j)) x y H Q
theorem jS{X:Cx}:OpR X (jf .FloorDiv) CF:=Gp.or JJ
def dFd:D2:=fun x y S R=>asI x fun i=>asI y fun j=>(CDivX i j/\R (.d (.int (i/j))) S)\/(CDivN i j/\R (.d (.int (i.fdiv j))) S)
theorem v4:RO CF dFd:=fun h o H S x y v u R Q hs hx hy q c=>by
 replace q:=bA q;obtain⟨i,rfl,q⟩:=q;replace q:=bA q;obtain⟨j,rfl,q⟩:=q;rcases q with q|q
 ·exact .inl (iC (C:=CDivX) (g:=fun i j=>i/j) h o H S _ _ v u R Q hs hx hy q c)
 ·exact .inr (iC (C:=CDivN) (g:=fun i j=>i.fdiv j) h o H S _ _ v u R Q hs hx hy q c)
def pX(S:Sto):XV->Option Bool
 | .d .none=>some false
 | .d (.bool b)=>some b
 | .d (.int i)=>some (i != 0)
 | .d (.str z)=>if z.length<=br then some ((z.length:Int) != 0)else none
 | .d (.list ds)=>some (!ds.isEmpty)
 | .d (.tuple ds)=>some (!ds.isEmpty)
 | .l k=>(S[k]?).map fun ds=>!ds.isEmpty
 |_=>none
def bJ(a:DE):DT:=fun δ S R=>a δ S fun x S1=>∃k,pX S1 x=some k/\R k S1
theorem xG{H:Hp}{ds:List bd}{vs:List V}(l:HasL H ds vs):(!ds.isEmpty)=!vs.isEmpty:=by
 have:=l.length;cases ds<;>cases vs<;>simp_all
theorem iS{K:bj}{ta:TE}{da:DE}(ha:RE ta da):RT (fun σ H Q=>ta σ H fun x H'=>∃k,TruV K x H' k/\Q k H') (bJ da):=fun h o H δ σ S R Q he hs q c=>
 ha h o H δ σ S _ _ he hs q fun o1 H1 S1 x v e1 s1 x1 ⟨k,ek,d1⟩=>by
  refine⟨k,?_,c o1 H1 S1 k e1 s1 d1⟩;unfold pX at ek;split at ek
  ·cases ek;rw[(gT (H:=vx h o1 H1)).mp x1];rfl
  ·cases ek;rw[gQ x1];rfl
  ·cases ek;rw[aY x1];rfl
  ·split at ek
   ·rename_i hz;cases ek;rw[eZ x1];exact⟨hz,rfl⟩
   ·cases ek
  ·obtain⟨a,vs,rfl,ea,l⟩:=bW (x:=.d (.list _)) s1 rfl x1;cases ek;exact .inl ⟨vs,.of ea,xG l⟩
  ·obtain⟨a,vs,rfl,ea,l⟩:=f6 x1;cases ek;exact .inr (.inl ⟨vs,.of ea,xG l⟩)
  ·rename_i j _;cases hj:S1[j]? with
   |none=>rw[hj]at ek;cases ek
   |some ds=>
    rw[hj]at ek;cases ek;obtain⟨a,vs,rfl,ea,l⟩:=bW (x:=.l j) s1 hj x1;exact .inl ⟨vs,.of ea,xG l⟩
  ·cases ek
section
variable {S:Sto}{b:Bool}{i:Int}{ds:List bd}{k:Nat}
theorem lD:pX S (.d (.bool b))=some b:=rfl
theorem qA:pX S (.d (.tuple ds))=some (!ds.isEmpty):=rfl
theorem pL:pX S (.l k)=(S[k]?).map fun ds=>!ds.isEmpty:=rfl
end
def fZ:DS:=fun _ _ _=>False
theorem vG:RS B8 fZ:=fun h o H δ σ S E D he hs q c=>q.elim
def wG(K:bj)(tl:TE):TI:=fun σ H R=>tl σ H fun x H1=>∃a,x=.ref a/\(((∃xs,SqL K H1 a xs)/\R (Itl K a) H1)\/((∃xs,SqT K H1 a xs)/\R (Itt K a) H1))
theorem bD{X:Cx}{tg:Expr}{l:Expr}{tl:TE}(hl:PE X l tl):PI X tg l (wG X.K tl):=by
 intro zf s σ H R I h;refine thn (hl zf s σ H _ I h) fun v s1 ⟨x,H1,I1,r1,q1⟩=>?_;obtain⟨a,e,⟨⟨xs,hq⟩,q⟩|⟨⟨xs,hq⟩,q⟩⟩:=q1
 ·subst e;cases r1;obtain⟨z,rv,p,hz⟩:=I1.list hq;refine wpAny_pyIter_list p.isList ?_;refine⟨s1.heap.objs.size,[s1.heap.objs.size],_,_,H1,rfl,I1.kept (t':=s1.toks) fun b o e=>bi _ e,B2 a _,⟨_,cf _ rfl,rfl,rfl⟩,fun b hb=>?_,q⟩;have e:b=s1.heap.objs.size:=by simpa using hb
  subst e;exact I1.fpOk (cw _) (I1.hok.fresh (cw _))
 ·subst e;cases r1;obtain⟨z,rv,p,hz⟩:=I1.tuple hq;refine wpAny_pyIter_tuple (show s1.heap.IsTuple a z.toArray from p) ?_;refine⟨s1.heap.objs.size,[s1.heap.objs.size],_,_,H1,rfl,I1.kept (t':=s1.toks) fun b o e=>bi _ e,HQ a _,⟨_,cf _ rfl,rfl,rfl⟩,fun b hb=>?_,q⟩;have e:b=s1.heap.objs.size:=by simpa using hb
  subst e;exact I1.fpOk (cw _) (I1.hok.fresh (cw _))
def eO:XV->Option (List bd)
 | .d (.list ds)=>some ds
 | .d (.tuple ds)=>some ds
 |_=>none
theorem nC{ds:List bd}:eO (.d (.list ds))=some ds:=rfl
theorem mR{ds:List bd}:eO (.d (.tuple ds))=some ds:=rfl
def aQ(e:DE):DI:=fun δ S R=>e δ S fun x S1=>∃ds,eO x=some ds/\R ds S1
theorem b9{K:bj}{te:TE}{de:DE}(z:RE te de):RI (wG K te) (aQ de):=fun h o H δ σ S R Q he hs q c=>
 z h o H δ σ S _ _ he hs q fun o1 H1 S1 x v e1 s1 x1 ⟨ds,ex,d1⟩=>by
  unfold eO at ex;split at ex
  ·cases ex;obtain⟨a,vs,rfl,ea,l⟩:=cU.mp (show Has _ _ _ from x1);have hl:=l.length;refine⟨a,rfl,.inl ⟨⟨vs,.of (zU _ _ ea)⟩,c o1 H1 S1 ds _ e1 s1 ⟨fun i o2 H2 e2 hi=>⟨vs,.of (zU _ _ (e2.vx _ _ ea)),yw⟩,fun i d o2 H2 e2 hi=>?_,fun i d o2 H2 x H3 S2 e2 s2 hi y=>?_⟩ d1⟩⟩
   ·obtain⟨v,ev,_⟩:=l.get hi;exact⟨vs,v,.of (zU _ _ (e2.vx _ _ ea)),ev⟩
   ·obtain⟨v,ev,hv⟩:=l.get hi;have e3:H3=H2:=y.1;subst e3;have ex:=y.2 vs (.of (zU _ _ (e2.vx _ _ ea)));rw[ev]at ex;cases ex;exact⟨Same.refl _,hv.mono e2.vx⟩
  ·cases ex;obtain⟨a,vs,rfl,ea,l⟩:=zW.mp (show Has _ _ _ from x1);have hl:=l.length;refine⟨a,rfl,.inr ⟨⟨vs,.of (zU _ _ ea)⟩,c o1 H1 S1 ds _ e1 s1 ⟨fun i o2 H2 e2 hi=>⟨vs,.of (zU _ _ (e2.vx _ _ ea)),yw⟩,fun i d o2 H2 e2 hi=>?_,fun i d o2 H2 x H3 S2 e2 s2 hi y=>?_⟩ d1⟩⟩
   ·obtain⟨v,ev,_⟩:=l.get hi;exact⟨vs,v,.of (zU _ _ (e2.vx _ _ ea)),ev⟩
   ·obtain⟨v,ev,hv⟩:=l.get hi;have e3:H3=H2:=y.1;subst e3;have ex:=y.2 vs (.of (zU _ _ (e2.vx _ _ ea)));rw[ev]at ex;cases ex;exact⟨Same.refl _,hv.mono e2.vx⟩
  ·cases ex
def iE(dt:DS):DS:=fun E δ S=>dt { E with nx:=fun δ' S'=>∃S0 ds,S'=S0++[ds]/\S.length<=S0.length/\E.nx (δ'.map (frz S0.length ds)) S0 } δ S
theorem A2{t:TS}{dt:DS}(ht:RS t dt):RS t (iE dt):=fun h o H δ σ S E D he hs q c=>by
 refine ht h o H δ σ S _ D he hs q ⟨fun o' H' δ' S' σ' e aa ac ⟨S0,ds,eS,hl,n⟩=>?_,c.rt,c.bk,c.ct⟩;subst eS;obtain⟨r,rfl⟩:=e.pre;have hL:=ac.len;simp only[bx,fb]at hL;have hS:=hs.len;have af:r≠[]:=fun z=>by subst z;simp at hL;omega
 obtain⟨r0,a,rfl⟩:∃r0 a,r=r0++[a]:=⟨r.dropLast,r.getLast af,(List.dropLast_concat_getLast af).symm⟩;have ae:S0.length=(o++r0).length:=by simp at hL ⊢;omega
 rw[<- fz]at ac aa e;have nd:=nodup_append.mp ac.nd;have na:a∉o++r0:=fun m=>nd.2.2 a m a yv rfl;have nh:a∉h:=ac.dis a yv;refine c.nx (o++r0) H' _ S0 σ' ⟨⟨r0,rfl⟩,fun b u hb eb=>?_⟩ ⟨by rw[cg];exact aa.len,fun i x ex=>?_⟩ (ac.pop ae) n
 ·obtain⟨z1,z2⟩:=e.kp b u hb eb;exact⟨fun m=>z1 (cq _ m),z2⟩
 ·rw[gi]at ex;obtain⟨y,ey,ex⟩:=map_eq_some_iff.mp ex
  match y,ey,ex with
  |none,ey,ex=>cases ex
  |some (.d d),ey,ex=>
   cases ex;obtain⟨v,e1,e2⟩:=aa.get i _ ey;exact⟨v,e1,Has.mono dW d v e2⟩
  |some (.o w),ey,ex=>
   cases ex;exact aa.get i _ ey
  |some (.x C fs),ey,ex=>
   cases ex;obtain⟨v,e1,e2⟩:=aa.get i _ ey;exact⟨v,e1,HasE.mono dW e2⟩
  |some (.p k d),ey,ex=>
   obtain⟨v,e1,t,b,u,rfl,eb,et,hu⟩:=aa.get i _ ey;unfold frz at ex;by_cases hk:k=S0.length
   ·simp only[hk,↓reduceIte]at ex;cases ex;rw[hk,ae,bn]at eb;cases eb;obtain⟨vs,ev,l⟩:=ac.cont S0.length a ds (by rw[ae,bn]) (by rw[bn]);exact⟨_,e1,zW.mpr ⟨t,_,rfl,dW _ _ et,zn.mpr ⟨_,_,rfl,cU.mpr ⟨a,vs,rfl,zL.mpr ⟨nh,na,ev⟩,l.mono dW⟩,zn.mpr ⟨u,_,rfl,Has.mono dW _ _ hu,zv.mpr rfl⟩⟩⟩⟩
   ·simp only[hk,↓reduceIte]at ex;cases ex;refine⟨_,e1,t,b,u,rfl,?_,dW _ _ et,Has.mono dW _ _ hu⟩;have ag:k<(o++r0).length:=by
     obtain⟨z,_⟩:=List.getElem?_eq_some_iff.mp eb;rw[bx,fb]at z;omega
    rw[dm ag]at eb;exact eb
  |some (.l k),ey,ex=>
   obtain⟨v,e1,b,eb,rfl⟩:=aa.get i _ ey;unfold frz at ex;by_cases hk:k=S0.length
   ·simp only[hk,↓reduceIte]at ex;cases ex;rw[hk,ae,bn]at eb;cases eb;obtain⟨vs,ev,l⟩:=ac.cont k a ds (by rw[hk,ae,bn]) (by rw[hk,bn]);exact⟨_,e1,cU.mpr ⟨a,vs,rfl,zL.mpr ⟨nh,na,ev⟩,l.mono dW⟩⟩
   ·simp only[hk,↓reduceIte]at ex;cases ex;have ah:=(List.getElem?_eq_some_iff.mp eb).1;simp only[bx,fb]at ah;simp only[bx]at ae;rw[dm (by simp only[bx];omega)]at eb;exact⟨_,e1,b,eb,rfl⟩
section
variable {t1 t2 t3 t4 t5 t6 t7 t8:TS}{d:DS}
theorem IJ(h:RS (aR (aR t1 t2) t3) d):RS (aR t1 (aR t2 t3)) d:=h
theorem Gv(h:RS (aR (aR t1 (aR t2 t3)) t4) d):RS (aR t1 (aR t2 (aR t3 t4))) d:=h
end
end
section
abbrev PN:=List XV->Sto->RX->Prop
def lfN(q:PN):List V->Hp->VK->Prop:=fun vs H Q=>∃h o S xs R,RepS h o H S/\HasXs h o H xs vs/\q xs S R/\Cn h o H R Q
def spN(ps:List Str)(q:PN):Sp:=fun vs H Q _=>vs.length=ps.length/\lfN q vs H Q
theorem HasXs.len{h o:List Addr}{H:Hp}:∀{xs:List XV}{vs:List V},HasXs h o H xs vs->vs.length=xs.length
 | [],vs,q=>by rw[show vs=[]from q];rfl
 |x::xs,vs,⟨v,r,e,_,l⟩=>by rw[e,cn,cn,HasXs.len l]
theorem HasXs.get{h o:List Addr}{H:Hp}:∀{xs:List XV}{vs:List V}{i:Nat}{x:XV},HasXs h o H xs vs->xs[i]?=some x->∃v,vs[i]?=some v/\HasX h o H x v
 | [],_,i,_,_,e=>by simp at e
 |y::xs,vs,0,x,⟨v,r,e1,q,l⟩,e=>by
  rw[kz]at e;cases e;subst e1;exact⟨v,rfl,q⟩
 |y::xs,vs,i+1,x,⟨v,r,e1,q,l⟩,e=>by
  subst e1;rw[lc]at e ⊢;exact HasXs.get l e
theorem uH{h o:List Addr}{H:Hp}{xs:List XV}{vs:List V}{n:Nat}(q:HasXs h o H xs vs):RepE h o H (xs.map some++bg n none) (vs.map some++bg n none):=by
 have hl:=q.len;refine⟨by simp[hl],fun i x e=>?_⟩;by_cases hi:i<xs.length
 ·rw[dm (by rw[cg];exact hi),gi]at e;obtain⟨y,ey,e⟩:=map_eq_some_iff.mp e;cases e;obtain⟨v,ev,hv⟩:=q.get ey;exact⟨v,by rw[dm (by rw[cg,hl];exact hi),gi,ev];rfl,hv⟩
 ·rw[List.getElem?_append_right (by rw[cg];omega),List.getElem?_replicate]at e;split at e<;>cases e
section
variable {P:bz}{w:dh}{K:bj}{mg:Str->Option bb}{base:Heap}{x:Str}{st:Stmt}{N ps:List Str}{k:Nat}
theorem Df.dN{q:PN}(D:Dd K mg x st ps)(S:FnScope N ps (zh st))(n:Nat)(hn:N.length=ps.length+n)
  (hbody:∀(f:Addr) (z:bb) (A:cz) (outer:List Env) (s:be) (H:Hp) (E:XK),Room k (A.deeper (ij x (zh st) s.heap.objs.size f z)) ->
   ∃t dt,PSs (cE CX0 P w K mg base N x (zh st) f z A outer s H E).nox (cL st) t/\RS t dt/\∀xs S R,q xs S R->dt (aD S.length R) (xs.map some++bg n none) S):Df P w K mg base x ps (k+1) (spN ps q):=by
 refine Df.of D S (fun vs H Q E h=>h.1) fun f z A outer s H vs Q E hr ⟨hl,h,o,S',xs,R,aa,hx,hq,c⟩=>?_;obtain⟨t,dt,h1,h2,h3⟩:=hbody f z A outer s H E hr;refine⟨t,h1,h2 h o H _ _ S' _ _ ?_ aa (h3 xs S' R hq) (eok aa c)⟩;have e:N.length-vs.length=n:=yw
 unfold start;rw[e];exact uH hx
end
section
variable {X:Cx}{x:Str}{ps:List Str}{k j:Nat}{pos pos':Pos}{e:Expr}{es:List Expr}{t:TA}
theorem zx{q:PN}(D:Df X.prog X.w X.K X.mg X.base x ps k (spN ps q))(hr:Room j X.A)(hk:k<=j)(ha:PA X (e::es) t)(hg:Gl X x:=by rfl)(z:(x==("__debug__":Str))=false:=by decide)
  (q1:cp (e::es) X.env=(false,eval e X.env)::cp es X.env:=by rfl) (q2:((kx pos (cp es X.env)).any fun x=>x.fst)=false:=by rfl):PE X (.Call (.Name x pos') (e::es) [] pos) (fQ (spN ps q) [] E0 t):=by
 obtain⟨f,fd,F,hm,kp,hb⟩:=D.ex;exact wW (dvs:=[]) (ds:=[]) (E:=E0) F (hr.mono hk) hg hm kp hb .nil pass0 ha z q1 q2
end
def aE(m:Nat)(q:PN)(da:DA):DE:=fun δ S R=>da δ S fun xs S1=>∃ds,datas xs=some ds/\ds.length=m/\q (ds.map XV.d) [] (ret0 S1 R)
theorem hxs0{h o:List Addr}{H:Hp}:∀{ds:List bd}{vs:List V},HasXs h o H (ds.map XV.d) vs->HasXs (h++o) [] H (ds.map XV.d) vs
 | [],_,q=>q
 |d::ds,vs,⟨v,r,e,q,l⟩=>⟨v,r,e,hx0 q,hxs0 l⟩
theorem dG{ps:List Str}{q:PN}{m:Nat}{t:TA}{da:DA}(ha:RA t da)(hm:ps.length=m:=by rfl):RE (fQ (spN ps q) [] E0 t) (aE m q da):=fun h o H δ σ S R Q he hs w c=>
 ha h o H δ σ S _ _ he hs w fun o1 H1 S1 xs vs e1 s1 x1 ⟨ds,e,hl,d1⟩=>by
  have ex:=eL e;subst ex;have hv:=x1.len;rw[gq];exact⟨by rw[hv,cg,hl,hm],h++o1,[],[],_,_,rep0 s1,hxs0 x1,d1,cn0 s1 (c.pre e1)⟩
def aL(i m:Nat)(q:PN)(da:DA):DE:=fun δ S R=>da δ S fun xs S1=>∃k,xs[i]?=some (.l k)/\∃p,S1[k]?=some p/\∃ds,datas (xs.set i (.d .none))=some ds/\ds.length=m/\q ((ds.map XV.d).set i (.l 0)) [p] (rF k S1 R)
theorem xV{h o:List Addr}{H:Hp}{k:Nat}{a:Addr}(ea:o[k]?=some a):∀{xs:List XV}{vs:List V}{ds:List bd}{i:Nat},HasXs h o H xs vs->xs[i]?=some (.l k)->datas (xs.set i (.d .none))=some ds->HasXs (h++o.filter (fun b=>b≠a)) [a] H ((ds.map XV.d).set i (.l 0)) vs
 | [],_,_,i,_,e,_=>by simp at e
 |x::xs,vs,ds,0,⟨v,r,e1,q,l⟩,e,ed=>by
  rw[kz]at e;cases e;rw[set_cons_zero]at ed;obtain⟨z,rfl⟩:∃z,ds=.none::z:=by
   unfold datas at ed;cases hd:datas xs with
   |none=>rw[hd]at ed;cases ed
   |some y=>rw[hd]at ed;cases ed;exact⟨y,rfl⟩
  have aa:datas xs=some z:=by
   unfold datas at ed;cases hd:datas xs with
   |none=>rw[hd]at ed;cases ed
   |some y=>rw[hd]at ed;cases ed;rfl
  have ex:=eL aa;subst ex;obtain⟨b,eb,rfl⟩:=q;rw[ea]at eb;cases eb;exact⟨_,r,e1,⟨a,rfl,rfl⟩,go (ea:=ea) l⟩
 |x::xs,vs,ds,i+1,⟨v,r,e1,q,l⟩,e,ed=>by
  rw[lc]at e;rw[set_cons_succ]at ed
  match x,q,ed with
  | .d d,q,ed=>
   unfold datas at ed;cases hd:datas (xs.set i (.d .none))with
   |none=>rw[hd]at ed;cases ed
   |some z=>
    rw[hd]at ed;cases ed;exact⟨v,r,e1,hxP ea q,xV ea l e hd⟩
  | .l j,q,ed=>cases ed
  | .o w,q,ed=>cases ed
  | .x _ _,q,ed=>cases ed
  | .p _ _,q,ed=>cases ed
where
 go {h o:List Addr}{H:Hp}{k:Nat}{a:Addr}{ea:o[k]?=some a}:∀{ds:List bd}{vs:List V},HasXs h o H (ds.map XV.d) vs->HasXs (h++o.filter (fun b=>b≠a)) [a] H (ds.map XV.d) vs
 | [],_,q=>q
 |d::ds,vs,⟨v,r,e,q,l⟩=>⟨v,r,e,hxP ea q,go (ea:=ea) l⟩
theorem Ft:∀{xs:List XV}{ds:List bd},datas xs=some ds->xs.length=ds.length:=fun e=>by
 rw[eL e,cg]
theorem gP{ps:List Str}{q:PN}{i m:Nat}{t:TA}{da:DA}(ha:RA t da)(hm:ps.length=m:=by rfl):RE (fQ (spN ps q) [] E0 t) (aL i m q da):=fun h o H δ σ S R Q he hs w c=>
 ha h o H δ σ S _ _ he hs w fun o1 H1 S1 xs vs e1 s1 x1 ⟨k,ek,p,ep,ds,e,hl,d1⟩=>by
  have hv:=x1.len;have hd:=Ft e;rw[length_set]at hd;obtain⟨v,_,a,ea,_⟩:=x1.get ek;rw[gq];exact⟨by rw[hv,hd,hl,hm],_,[a],[p],_,_,qH s1 ea ep,xV ea x1 ek e,d1,cnP s1 ea ep (c.pre e1)⟩
mutual
def jI:bd->Bool
 | .list _=>false
 | .dict _=>false
 | .tuple ds=>pT ds
 |_=>true
def pT:List bd->Bool
 | []=>true
 |d::ds=>jI d&&pT ds
end
mutual
theorem DK{h o:List Addr}{H G:Hp}(sm:Same G H)(hh:∀b,b∈h\/b∈o->∃u:MO,H b=some u.ho):∀(d:bd) (v:V),jI d=true->Has G d v->Has (vx h o H) d v
 | .none,v,_,q=>gT.mpr (gT.mp q)
 | .bool b,v,_,q=>gM.mpr (gM.mp q)
 | .int i,v,_,q=>d9.mpr (d9.mp q)
 | .str z,v,_,q=>fX.mpr (fX.mp q)
 | .list ds,v,n,_=>by simp[jI]at n
 | .dict ds,v,n,_=>by simp[jI]at n
 | .tuple ds,v,n,q=>by
  obtain⟨a,vs,e,ea,l⟩:=zW.mp q;have n':pT ds=true:=by simpa[jI]using n
  have aa:=sm _ _ ea;refine zW.mpr ⟨a,vs,e,zL.mpr ⟨fun m=>?_,fun m=>?_,aa⟩,yE sm hh ds vs n' l⟩
  ·obtain⟨u,eu⟩:=hh a (.inl m);rw[aa]at eu;cases u<;>cases eu
  ·obtain⟨u,eu⟩:=hh a (.inr m);rw[aa]at eu;cases u<;>cases eu
theorem yE{h o:List Addr}{H G:Hp}(sm:Same G H)(hh:∀b,b∈h\/b∈o->∃u:MO,H b=some u.ho):∀(ds:List bd) (vs:List V),pT ds=true->HasL G ds vs->HasL (vx h o H) ds vs
 | [],vs,_,q=>zv.mpr (zv.mp q)
 |d::ds,vs,n,q=>by
  obtain⟨v,r,e,hv,l⟩:=zn.mp q;simp only[pT,jq]at n;exact zn.mpr ⟨v,r,e,DK sm hh d v n.1 hv,yE sm hh ds r n.2 l⟩
end
def rE(S:Sto)(R:RX):RX:=fun y S'=>match y,S' with
 | .d d,[]=>jI d=true/\R (.d d) S
 |_,_=>False
theorem lE{S:Sto}{R:RX}{d:bd}:rE S R (.d d) []=(jI d=true/\R (.d d) S):=rfl
def views(S:Sto):List XV->Option (List bd)
 | []=>some []
 |x::r=>(b0 S x).bind fun d=>(views S r).map (d :: ·)
theorem lW{S:Sto}:views S []=some []:=rfl
theorem kI{S:Sto}{x:XV}{r:List XV}:views S (x::r)=(b0 S x).bind fun d=>(views S r).map (d :: ·):=rfl
def jG(m:Nat)(q:PN)(da:DA):DE:=fun δ S R=>da δ S fun xs S1=>∃ds,views S1 xs=some ds/\ds.length=m/\q (ds.map XV.d) [] (rE S1 R)
theorem KP{h o:List Addr}{H:Hp}{S:Sto}(hs:RepS h o H S):RepS h [] H []:=⟨rfl,nodup_nil,(fun _ h=>(nomatch h)),hs.hal,(fun _ _ _ e=>(by simp at e))⟩
theorem hxV{h o:List Addr}{H:Hp}{S:Sto}{x:XV}{v:V}{d:bd}(hs:RepS h o H S)(e:b0 S x=some d)(q:HasX h o H x v):HasX h [] H (.d d) v:=by
 have sub:Same (vx h o H) (vx h [] H):=fun b u eb=>by
  obtain⟨z1,z2,z3⟩:=zL.mp eb;exact zL.mpr ⟨z1,yv,z3⟩
 unfold b0 at e;split at e
 ·cases e;exact Has.mono sub _ _ q
 ·rename_i k;obtain⟨a,ea,rfl⟩:=q;cases hk:S[k]? with
  |none=>rw[hk]at e;cases e
  |some ds=>
   rw[hk]at e;cases e;obtain⟨vs,ev,l⟩:=hs.cont k a ds ea hk;exact cU.mpr ⟨a,vs,rfl,zL.mpr ⟨hs.dis a (cj ea),yv,ev⟩,l.mono sub⟩
 ·cases e
 ·cases e
 ·rename_i k d';obtain⟨t,a,u,rfl,ea,et,hu⟩:=q;cases hk:S[k]? with
  |none=>rw[hk]at e;cases e
  |some ds=>
   rw[hk]at e;cases e;obtain⟨vs,ev,l⟩:=hs.cont k a ds ea hk;exact zW.mpr ⟨t,_,rfl,sub _ _ et,zn.mpr ⟨_,_,rfl,cU.mpr ⟨a,vs,rfl,zL.mpr ⟨hs.dis a (cj ea),yv,ev⟩,l.mono sub⟩,zn.mpr ⟨u,_,rfl,Has.mono sub _ _ hu,zv.mpr rfl⟩⟩⟩
theorem Do{h o:List Addr}{H:Hp}{S:Sto}(hs:RepS h o H S):∀{xs:List XV}{vs:List V}{ds:List bd},views S xs=some ds->HasXs h o H xs vs->HasXs h [] H (ds.map XV.d) vs/\vs.length=ds.length
 | [],vs,ds,e,q=>by cases e;exact⟨q,by rw[show vs=[]from q];rfl⟩
 |x::xs,vs,ds,e,⟨v,r,e1,q,l⟩=>by
  rw[kI]at e;cases hd:b0 S x with
  |none=>rw[hd]at e;cases e
  |some d=>
   rw[hd,Option.bind_some]at e;cases hr:views S xs with
   |none=>rw[hr]at e;cases e
   |some es=>
    rw[hr]at e;cases e;obtain⟨z1,z2⟩:=Do hs hr l;exact⟨⟨v,r,e1,hxV hs hd q,z1⟩,by rw[e1,cn,cn,z2]⟩
theorem cnV{h o:List Addr}{H:Hp}{S:Sto}{R:RX}{Q:VK}(hs:RepS h o H S)(c:Cn h o H R Q):Cn h [] H (rE S R) Q:=fun o' H' S' y v e s' hy q=>by
 unfold rE at q;split at q
 ·rename_i d;have sH:Same H H':=fun b u eb=>(e.kp b u yv eb).2;have e0:o'=[]:=fm s'.len.symm;subst e0;have z:=hs.same sH;refine c o H' S (.d d) v (Ex.of_same sH) z (DK (zU (h:=h) (o:=[])) (fun b m=>?_) d v q.1 hy) q.2;exact m.elim (z.hal b) (z.oam b)
 ·exact q.elim
theorem JZ{ps:List Str}{q:PN}{m:Nat}{t:TA}{da:DA}(ha:RA t da)(hm:ps.length=m:=by rfl):RE (fQ (spN ps q) [] E0 t) (jG m q da):=fun h o H δ σ S R Q he hs w c=>
 ha h o H δ σ S _ _ he hs w fun o1 H1 S1 xs vs e1 s1 x1 ⟨ds,e,hl,d1⟩=>by
  obtain⟨z1,z2⟩:=Do s1 e x1;rw[gq];exact⟨by rw[z2,hl,hm],h,[],[],_,_,KP s1,z1,d1,cnV s1 (c.pre e1)⟩
end
section
def CO(K:bj):List V->Hp->VK->Prop:=fun xs H Q=>uR K xs H Q\/∃z,xs=[.str z]/\z.length<=br/\Q (.int z.length) H
theorem cY{X:Cx}:CallR X (.builtin "len") (CO X.K):=Db.or Ie
def jC(S:Sto):XV->Option Nat
 | .d (.tuple ds)=>some ds.length
 | .d (.list ds)=>some ds.length
 | .l k=>(S[k]?).map List.length
 | .d (.str z)=>if z.length<=br then some z.length else none
 |_=>none
def bN:List XV->Sto->RX->Prop:=fun xs S R=>arg1 xs fun x=>∃n,jC S x=some n/\R (.d (.int n)) S
theorem rT{K:bj}:RC (CO K) bN:=fun h o H S xs vs R Q hs hx q c=>by
 obtain⟨x,rfl,n,hd,q1⟩:=cP q;unfold jC at hd;split at hd
 ·cases hd;exact .inl (tZ h o H S _ vs R Q hs hx ⟨_,rfl,q1⟩ c)
 ·cases hd;exact .inl (tZ h o H S _ vs R Q hs hx ⟨_,rfl,q1⟩ c)
 ·rename_i k;cases hk:S[k]? with
  |none=>rw[hk]at hd;cases hd
  |some ds=>
   rw[hk]at hd;cases hd;exact .inl (tZ h o H S _ vs R Q hs hx ⟨ds,hk,q1⟩ c)
 ·split at hd
  ·rename_i hz;cases hd;obtain⟨v,rfl,z⟩:=hxs1 hx;exact .inr ⟨_,by rw[eZ z],hz,c o H S _ _ Ex.refl hs (xI _) q1⟩
  ·cases hd
 ·cases hd
section
variable {S:Sto}{ds:List bd}{k:Nat}{z:Str}
theorem p6:jC S (.d (.tuple ds))=some ds.length:=rfl
theorem mE:jC S (.d (.list ds))=some ds.length:=rfl
end
def Cr(z:Bool):R2:=fun x y H Q=>∃d e ds,Has H d x/\Has H e y/\cu d=true/\cu (.list ds)=true/\(e=.list ds\/e=.tuple ds)/\Q (.bl (if z then !ds.any (fun y=>gx y d)else ds.any (fun y=>gx y d))) H
theorem EA{ds:List bd}(h:cu (.list ds)=true):jh ds=true/\jl ds<=63:=by
 have h1:=dw h;have h2:=SeqAt.depth_of_shaped h;simp only[iq,PyData.depth]at h1 h2;exact⟨h1,yw⟩
theorem El{X:Cx}(hu:X.A.units+64<gz):OpR X (fw .NotIn) (Cr true):=by
 intro zf s σ H x y v u Q I rx ry h;obtain⟨d,e,ds,hd,he,sd,se,ee,q⟩:=h;obtain⟨s1,s2⟩:=EA se;obtain⟨as,q1⟩:=Has.reads I d x v hd (dw sd) rx;have hm:X.A.units+1+min (jl ds) d.depth<gz:=by
  have:=Nat.min_le_left (jl ds) d.depth;omega
 rcases ee with rfl|rfl
 ·obtain⟨bs,q2⟩:=Has.reads I (.list ds) y u he (by simpa only[iq]using s1) ry;exact SeqAt.notIn_list_reads q2 q1 s1 (dw sd) hm ⟨.bl _,H,I,rfl,q⟩
 ·obtain⟨bs,q2⟩:=Has.reads I (.tuple ds) y u he (by simpa only[iq]using s1) ry;exact SeqAt.notIn_tuple_reads q2 q1 s1 (dw sd) hm ⟨.bl _,H,I,rfl,q⟩
def B9:R2:=fun x y H Q=>Cr true x y H Q\/∃i j,x=.str i/\y=.str j/\Q (.bl (!(!(Builtin.Str.occurrences j i 0 j.length 1).isEmpty))) H
theorem Cl{X:Cx}(hu:X.A.units+64<gz):OpR X (fw .NotIn) B9:=(El hu).or Kt
def lU:D2:=fun x y S R=>match y with
 | .d (.str b)=>asS x fun a=>R (.d (.bool (!(!(Builtin.Str.occurrences b a 0 b.length 1).isEmpty)))) S
 |y=>∃d,b0 S x=some d/\∃ds,asQ S y=some ds/\cu d=true/\cu (.list ds)=true/\R (.d (.bool (!ds.any fun y=>gx y d))) S
theorem Id{h o:List Addr}{H:Hp}{S:Sto}{x:XV}{v:V}{ds:List bd}(hs:RepS h o H S)(e:asQ S x=some ds)(q:HasX h o H x v):∃e,Has H e v/\(e=.list ds\/e=.tuple ds):=by
 unfold asQ at e;split at e
 ·cases e;exact⟨_,dF (x:=.d _) hs rfl q,.inr rfl⟩
 ·cases e;exact⟨_,dF (x:=.d _) hs rfl q,.inl rfl⟩
 ·rename_i k;exact⟨.list ds,dF (x:=.l k) hs (by show (S[k]?).map PyData.list=_;rw[e];rfl) q,.inl rfl⟩
 ·cases e
theorem Hj:RO B9 lU:=fun h o H S x y v u R Q hs hx hy q c=>by
 unfold lU at q;split at q
 ·replace q:=uY q;obtain⟨a,rfl,q⟩:=q;exact .inr ⟨_,_,eZ hx,eZ hy,c o H S _ _ Ex.refl hs (xB _) q⟩
 ·obtain⟨d,e1,ds,e2,s1,s2,q⟩:=q;obtain⟨e,he,ee⟩:=Id hs e2 hy;exact .inl ⟨d,e,ds,dF hs e1 hx,he,s1,s2,ee,c o H S _ _ Ex.refl hs (xB _) q⟩
section
variable {S:Sto}{ds:List bd}{k:Nat}{a b:Str}{x:XV}{R:RX}
theorem o9:lU x (.d (.tuple ds)) S R↔∃d,b0 S x=some d/\cu d=true/\cu (.list ds)=true/\R (.d (.bool (!ds.any fun y=>gx y d))) S:=⟨fun⟨d,e,_,e',q⟩=>by cases e';exact⟨d,e,q⟩,fun⟨d,e,q⟩=>⟨d,e,_,rfl,q⟩⟩
end
def lH(a:DA):DI:=fun δ S R=>a δ S fun xs S1=>arg1 xs fun x=>∃ds,eO x=some ds/\R (BE 0 ds) S1
def jV:XV->List XV->Sto->RX->Prop:=fun x xs S R=>∃k,x=.l k/\∃ds,S[k]?=some ds/\xs=[]/\∃d,ds[ds.length-1]?=some d/\R (.d d) (S.set k ds.dropLast)
theorem HasL.dropLast{H:Hp}:∀{ds:List bd}{vs:List V},HasL H ds vs->HasL H ds.dropLast vs.dropLast
 | [],vs,l=>by rw[zv.mp l];exact zv.mpr rfl
 | [d],vs,l=>by
  obtain⟨v,r,rfl,_,l⟩:=zn.mp l;rw[zv.mp l];exact zv.mpr rfl
 |d::e::ds,vs,l=>by
  obtain⟨v,r,rfl,hv,l⟩:=zn.mp l;obtain⟨w,r,rfl,hw,l'⟩:=zn.mp l;rw[List.dropLast_cons₂,List.dropLast_cons₂];exact zn.mpr ⟨v,_,rfl,hv,HasL.dropLast l⟩
theorem HF:RM AL jV:=fun h o H S x v xs vs R Q hs hx z q c=>by
 obtain⟨k,rfl,ds,e,rfl,d,ed,q1⟩:=q;obtain⟨a,ea,rfl⟩:=hx;obtain⟨ws,ew,l⟩:=hs.cont k a ds ea e;cases z;obtain⟨y,ey,hy⟩:=l.get ed;exact⟨a,ws,y,rfl,rfl,ew,by rw[l.length];exact ey,c o _ _ (.d d) _ (Ex.upd ea) (hs.upd ea l.dropLast) (HasX.mono (x:=.d d) (Ex.upd ea) hy) q1⟩
def jT(rd:XV->List XV->Sto->RX->Prop)(e:DE)(a:DA):DE:=fun δ S R=>e δ S fun x S1=>∃z,x=.d (.str z)/\a δ S1 fun xs S2=>rd x xs S2 R
theorem De{K:bj}{r:V->List V->Hp->VK->Prop}{rd:XV->List XV->Sto->RX->Prop}{te:TE}{de:DE}{tl:TA}{dl:DA}(hr:RM r rd)(aa:RE te de)(ha:RA tl dl):RE (tBM K "str" r te tl) (jT rd de dl):=fun h o H δ σ S R Q he hs q c=>
 aa h o H δ σ S _ _ he hs q fun o1 H1 S1 x v e1 s1 x1 ⟨z,ez,d1⟩=>by
  subst ez;cases eZ x1;exact⟨rfl,ha h o1 H1 δ σ S1 _ _ (he.mono e1) s1 d1 fun o2 H2 S2 xs vs e2 s2 x2 d2=>hr h o2 H2 S2 (.d (.str z)) _ xs vs R Q s2 (HasX.mono (x:=.d (.str z)) e2 x1) x2 d2 (c.pre (e1.trans e2))⟩
theorem Ct{H:Hp}:∀{ns:List Str}{vs:List V},HasL H (ns.map lg) vs->vs=ns.map V.str
 | [],vs,h=>zv.mp h
 |n::ns,vs,h=>by
  obtain⟨v,r,rfl,h1,h2⟩:=zn.mp h;rw[fX.mp h1,Ct h2];rfl
def iV:XV->List XV->Sto->RX->Prop:=fun x xs S R=>asS x fun z=>arg1 xs fun y=>∃ds,c5 S y=some ds/\∃zs:List Str,ds=zs.map lg/\z.length<=16/\zs.length<=1000/\(∀y∈zs,y.length<=1000)/\R (.d (.str (PySem.Txt.join z zs))) S
theorem J7{K:bj}:RM (BU K) iV:=fun h o H S x v xs vs R Q hs hx aa q c=>by
 replace q:=uY q;obtain⟨z,rfl,q⟩:=q;obtain⟨y,rfl,ds,e,zs,rfl,h1,h2,h3,q1⟩:=cP q;obtain⟨u,rfl,hu⟩:=hxs1 aa;obtain⟨a,ws,rfl,ea,l⟩:=bW hs e hu;rw[Ct l]at ea;exact⟨z,a,zs,eZ hx,rfl,.of ea,h1,h2,h3,c o H S _ _ Ex.refl hs (xS _) q1⟩
def jO:D2:=fun x y S R=>asL S x fun ds=>asL S y fun es=>ds.length+es.length<=1000/\R (.l S.length) (S++[ds++es])
theorem He:RO kZ jO:=fun h o H S x y v u R Q hs hx hy q c=>by
 obtain⟨ds,e0,es,e1,hl,q⟩:=q;obtain⟨a,vs,rfl,ea,la⟩:=bW hs e0 hx;obtain⟨b,us,rfl,eb,lb⟩:=bW hs e1 hy;exact⟨a,b,vs,us,rfl,rfl,ea,eb,by rw[la.length,lb.length];exact im (small1000 hl),Aa hs (la.append lb) c q⟩
def Bk:V->List V->Hp->VK->Prop:=fun x vs H Q=>∃(d:bd) (ds:List bd) (j:Nat),Has H (.list ds) x/\(∃v,vs=[v]/\Has H d v)/\cu d=true/\cu (.list ds)=true/\ds.length<=1000/\(∃e,ds[j]?=some e/\gx e d=true)/\(∀m e,m<j->ds[m]?=some e->gx e d=false)/\Q (.int j) H
theorem FM{X:Cx}(hu:X.A.units+64<gz):MtR X "list.index" Bk:=by
 intro zf s σ H x vs v us Q I rx rv h;obtain⟨d,ds,j,hl,⟨y,rfl,hy⟩,sd,se,ac,⟨e,ej,he⟩,af,q⟩:=h;obtain⟨s1,s2⟩:=EA se;obtain⟨u,rfl,r1⟩:=rv.one;obtain⟨as,q1⟩:=Has.reads I d y u hy (dw sd) r1;obtain⟨bs,q2⟩:=Has.reads I (.list ds) x v hl (by simpa only[iq]using s1) rx;have hm:X.A.units+1+min (jl ds) d.depth<gz:=by
  have:=Nat.min_le_left (jl ds) d.depth;omega
 cases q2 with
 | @list l o vs n xs as₁ h1 h2 h3 h4=>
  have hn:vs.size=ds.length:=by simpa using SeqAt.ReadsAll.length _ _ _ h4
  have aa:=SeqAt.readsAll_map _ _ _ s1 h4;have z:∀(m:Nat) (hm:m<vs.size) e,ds[m]?=some e->SeqAt.readOf s.heap vs[m]=e:=fun m hm e h=>by
   rw[<- aa,gi]at h;have:vs.toList[m]?=some vs[m]:=by simp[hm]
   rw[this]at h;exact fc h
  have hj:j<vs.size:=by rw[hn];exact(List.getElem?_eq_some_iff.mp ej).1
  obtain⟨cls,dd,data,sl⟩:=o;simp only at h2 h3;subst h2 h3;refine ny PySem.F.slot_list_index ⟨_,h1,rfl⟩ PySem.F.entry_list_index (PySem.F.args_list_index_2 _ _)
   (SeqAt.list_indexAt l vs n dd sl u (fun y=>gx (SeqAt.readOf s.heap y) d) j hj yw ?_ ?_) ⟨h1,SeqAt.items_eqAt h4 q1 s1 (dw sd) hm,⟨.int j,H,I.tok _,⟨_,rfl⟩,q⟩⟩
  ·show gx (SeqAt.readOf s.heap vs[j]) d=true;rw[z j hj e ej];exact he
  ·intro m hm ae;show gx (SeqAt.readOf s.heap vs[m]) d=false;have em:ds[m]?=some ds[m]:=bq yw;rw[z m hm _ em];exact af m _ ae em
def i6:XV->List XV->Sto->RX->Prop:=fun x xs S R=>arg1 xs fun y=>∃d,b0 S y=some d/\∃ds,c5 S x=some ds/\cu d=true/\cu (.list ds)=true/\ds.length<=1000/\∃j,(∃e,ds[j]?=some e/\gx e d=true)/\(∀m e,m<j->ds[m]?=some e->gx e d=false)/\R (.d (.int (j:Nat))) S
theorem K4:RM Bk i6:=fun h o H S x v xs vs R Q hs hx z q c=>by
 obtain⟨y,rfl,d,e1,ds,e2,s1,s2,h1,j,h2,h3,q1⟩:=cP q;obtain⟨u,rfl,hu⟩:=hxs1 z;have hl:Has H (.list ds) v:=dF (x:=x) hs (by
  unfold c5 at e2;split at e2
  ·cases e2;rfl
  ·rename_i k;show (S[k]?).map PyData.list=_;rw[e2];rfl
  ·cases e2) hx
 exact⟨d,ds,j,hl,⟨u,rfl,dF hs e1 hu⟩,s1,s2,h1,h2,h3,c o H S _ _ Ex.refl hs (xI _) q1⟩
def iK(rd:XV->List XV->Sto->RX->Prop)(e:DE)(a:DA):DE:=fun δ S R=>e δ S fun x S1=>∃ds,c5 S1 x=some ds/\a δ S1 fun xs S2=>rd x xs S2 R
theorem tP{K:bj}{r:V->List V->Hp->VK->Prop}{rd:XV->List XV->Sto->RX->Prop}{te:TE}{de:DE}{tl:TA}{dl:DA}(hr:RM r rd)(z:RE te de)(ha:RA tl dl):RE (tBM K "list" r te tl) (iK rd de dl):=fun h o H δ σ S R Q he hs q c=>
 z h o H δ σ S _ _ he hs q fun o1 H1 S1 x v e1 s1 x1 ⟨ds,ez,d1⟩=>by
  obtain⟨a,ws,rfl,ea,_⟩:=bW s1 ez x1;exact⟨v3 ea,ha h o1 H1 δ σ S1 _ _ (he.mono e1) s1 d1 fun o2 H2 S2 xs vs e2 s2 x2 d2=>hr h o2 H2 S2 x _ xs vs R Q s2 (x1.mono e2) x2 d2 (c.pre (e1.trans e2))⟩
abbrev Jk (a:Addr) (m:Nat):DEnds:={ nx:=fun δ _=>δ[0]?=some (some (.o (.ref a)))/\δ.length=m+1,ct:=fun δ _=>δ[0]?=some (some (.o (.ref a)))/\δ.length=m+1,rt:=fun _ _=>False }
end
section
open Sem (wp)
def uM:List bd->List bd->List bd
 |d::ds,e::es=>.tuple [d,e]::uM ds es
 |_,_=>[]
def lT(a:DA):DI:=fun δ S R=>a δ S fun xs S1=>arg2 xs fun x y=>∃ds,eO x=some ds/\∃es,eO y=some es/\R (uM ds es) S1
end
section
open Sem (wp)
section
variable {prog:bz}{w:dh}{A:cz}{R:Result->be->Prop}{I:Addr}{fp wr:List Addr}{n:Nat}{P:Nat->bb->Prop}{St:Nat->Heap->Prop}
def CmpH(prog:bz)(w:dh)(A:cz)(g:Heap)(z:List Addr)(P:Nat->bb->Prop)(bt:Nat->Nat->Bool):Prop:=
 ∀i j x y (s:be) (Q:bb->be->Prop) (E:bb->be->Prop),(∀b o,b∉z->g.get? b=some o->s.heap.get? b=some o)->P i x->P j y->Q (.bool (bt i j)) s->bo (model prog w) A (richCompare .Lt x y) Q E s
theorem IA(W:Walks prog w A.in1 I fp wr n P St)(bt:Nat->Nat->Bool){g:Heap}(S:Addr)(cm:CmpH prog w A.in1 g (S::wr) P bt)(nS:S∉fp):∀(d j:Nat) (s:be) (aa:bb) (c:Nat),n=j+1+d->(∀b o,b∉S::wr->g.get? b=some o->s.heap.get? b=some o)->St (j+1) s.heap->P (ki bt j) aa ->
   s.heap.get? S=some { cls:=.type "list",dict:=none,data:=.seq #[aa,aa] c,slots:=#[] } ->
   (∀v h' tk,P (ki bt (n-1)) v->(∀b o,b∉S::wr->s.heap.get? b=some o->h'.get? b=some o)->R (.ok (.ret v)) { s with heap:=h',toks:=tk })->me (model prog w) A (.builtin "min.loop" ⟨[.ref I,.none,.ref S],[]⟩) R s:=by
 have nw:S∉wr:=fun m=>nS (W.sub _ m);have nm:(toString "min" ++ toString ".loop":String) = "min.loop":=by decide
 intro d;induction d with
 |zero=>
  intro j s aa c hd kg st hb hS fin;have hj:j+1=n:=yw
  refine lq F.entry_min_loop ?_;rw[kh js _];show bo _ A.in1 (seqItems? (.ref S) >>= _) _ _ s;refine bc (wpAny_seqItems hS rfl ?_);show bo _ A.in1 (tryCatch (pyNext (.ref I)) _ >>= _) _ _ s;refine bc (wpAny_tryCatch (W.done s _ _ (by rw[<- hj];exact st) fun h1 t1 k1=>?_));have ac:=k1 S _ nw hS;show bo _ A.in1 (updateSeq S (fun _=>#[]) >>= _) _ _ _;refine bc (lr ac rfl (bc (wpAny_letGo (bh (fin aa _ t1 (by rw[<- hj];exact hb) fun b o hn e=>?_)))));rw[gj,not_or]at hn;exact(fh _ _ (gs hn.1)).trans (k1 b o hn.2 e)
 |succ d ih=>
  intro j s aa c hd kg st hb hS fin;refine lq F.entry_min_loop ?_;rw[kh js _];show bo _ A.in1 (seqItems? (.ref S) >>= _) _ _ s;refine bc (wpAny_seqItems hS rfl ?_);show bo _ A.in1 (tryCatch (pyNext (.ref I)) _ >>= _) _ _ s;refine bc (wpAny_tryCatch (W.item (j+1) s _ _ yw st fun x h1 t1 hx ae k1=>?_));have ac:=k1 S _ nw hS;have af:∀b o,b∉S::wr->g.get? b=some o->h1.get? b=some o:=fun b o hn e=>k1 b o (fun m=>hn (bw _ m)) (kg b o hn e);show bo _ A.in1 (tryCatch (holding [x,x] (richCompare .Lt x aa >>= _)) _ >>= _) _ _ _;refine bc (wpAny_tryCatch (je (bc (cm (j+1) (ki bt j) x aa _ _ _ af hx hb (bc (je (ic (bc (wpAny_letGo (bh ?_)))))))))) ;cases ht:bt (j+1) (ki bt j)with
  |true=>
   simp only[if_true];refine bc (lr ac rfl (bc (wpAny_letGo ?_)));rw[nm];have keep:∀b o,b∉S::wr->s.heap.get? b=some o->(h1.update S (jk fun _=>#[x,x])).get? b=some o:=fun b o hn e=>by
    rw[gj,not_or]at hn;exact(fh _ _ (gs hn.1)).trans (k1 b o hn.2 e)
   refine bh ⟨nk js _,ih (j+1) _ x _ yw (fun b o hn e=>keep b o hn (kg b o hn e)) (W.frame _ _ _ ae fun b m o e=>?_) (by simp only[ki,ht,if_true];exact hx) (gl _ ac rfl) fun v h2 t2 hv k2=>fin v h2 t2 hv fun b o hn e=>k2 b o hn (keep b o hn e)⟩;exact(fh _ _ (fun z:S=b=>nS (by rw[z];exact m))).trans e
  |false=>
   simp only[gy,if_false];refine bc (wpAny_letGo ?_);rw[nm];exact bh ⟨nk js _,ih (j+1) _ aa c yw af ae (by simp only[ki,ht,gy,if_false];exact hb) ac fun v h2 t2 hv k2=>fin v h2 t2 hv fun b o hn e=>k2 b o hn (k1 b o (fun m=>hn (bw _ m)) e)⟩
theorem Ey(W:Walks prog w A.in1 I fp wr n P St)(bt:Nat->Nat->Bool)(S:Addr)(nS:S∉fp)(hn:0<n){s:be}{c:Nat}(cm:CmpH prog w A.in1 s.heap (S::wr) P bt)(st:St 0 s.heap)(hS:s.heap.get? S=some { cls:=.type "list",dict:=none,data:=.seq #[] c,slots:=#[] })
  (fin:∀v h' tk,P (ki bt (n-1)) v->(∀b o,b∉S::wr->s.heap.get? b=some o->h'.get? b=some o)->R (.ok (.ret v)) { s with heap:=h',toks:=tk }):me (model prog w) A (.builtin "min.loop" ⟨[.ref I,.none,.ref S],[]⟩) R s:=by
 have nw:S∉wr:=fun m=>nS (W.sub _ m);have nm:(toString "min" ++ toString ".loop":String) = "min.loop":=by decide
 refine lq F.entry_min_loop ?_;rw[kh js _];show bo _ A.in1 (seqItems? (.ref S) >>= _) _ _ s;refine bc (wpAny_seqItems hS rfl ?_);show bo _ A.in1 (tryCatch (pyNext (.ref I)) _ >>= _) _ _ s;refine bc (wpAny_tryCatch (W.item 0 s _ _ hn st fun x h1 t1 hx ac k1=>?_));have aa:=k1 S _ nw hS;show bo _ A.in1 (updateSeq S (fun _=>#[x,x]) >>= _) _ _ _;refine bc (lr aa rfl ?_);rw[nm];have keep:∀b o,b∉S::wr->s.heap.get? b=some o->(h1.update S (jk fun _=>#[x,x])).get? b=some o:=fun b o hn e=>by
  rw[gj,not_or]at hn;exact(fh _ _ (gs hn.1)).trans (k1 b o hn.2 e)
 refine bh ⟨nk js _,IA W bt S cm nS (n-1) 0 _ x _ yw keep (W.frame _ _ _ ac fun b m o e=>?_) hx (gl _ aa rfl) fun v h2 t2 hv k2=>fin v h2 t2 hv fun b o hn e=>k2 b o hn (keep b o hn e)⟩;exact(fh _ _ (fun z:S=b=>nS (by rw[z];exact m))).trans e
end
section
variable {prog:bz}{w:dh}{A:cz}{E:bb->be->Prop}{s:be}
theorem GG{l:Addr}{z:Array bb}{Q:bb->be->Prop}(hh:A.handled=none)(hl:s.heap.IsList l z)(ac:0<z.size)(bt:Nat->Nat->Bool)
  (cm:∀i j x y (s':be) (Q:bb->be->Prop) (E:bb->be->Prop),(∀b o,s.heap.get? b=some o->s'.heap.get? b=some o)->z[i]?=some x->z[j]?=some y->Q (.bool (bt i j)) s'->bo (model prog w) A.in1 (richCompare .Lt x y) Q E s')
  (fin:∀v h' tk,z[ki bt (z.size-1)]?=some v->(∀b o,s.heap.get? b=some o->h'.get? b=some o)->Q v { s with heap:=h',toks:=tk }):bo (model prog w) A (call (.builtin "min") [.ref l]) Q E s:=by
 have nm:(toString "min" ++ toString ".loop":String) = "min.loop":=by decide
 have lt:l<s.heap.objs.size:=by obtain⟨o,e,_⟩:=hl;exact dn e
 refine call_function_tree F.kind_min F.plain_min F.entry_min (F.args_min1 _) ?_;show bo _ A.in1 (Builtin.Builtins.bindParams "min" ["key","default"] 0 ⟨[],[]⟩ >>= _) _ _ s;refine bc (wpAny_of_eq (show Builtin.Builtins.bindParams "min" ["key","default"] 0 ⟨[],[]⟩=pure [none,none]from rfl) (bc (bh (bc (wpAny_pyIter_list hl ?_)))));refine bc (ft ?_);rw[nm];have z1:(s.heap.push { cls:=.type "list_iterator",data:=.fields #[.ref l,.int 0 0] }).objs.size=s.heap.objs.size+1:=size_push ..;have nS:(s.heap.push { cls:=.type "list_iterator",data:=.fields #[.ref l,.int 0 0] }).objs.size∉[s.heap.objs.size,l]:=by
  rw[z1];simp only[gj,fj,or_false,not_or];exact⟨Nat.succ_ne_self _,ne_of_gt (Nat.lt_succ_of_lt lt)⟩
 have up:∀b o,s.heap.get? b=some o->((s.heap.push { cls:=.type "list_iterator",data:=.fields #[.ref l,.int 0 0] }).push { cls:=.type "list",data:=.seq #[] }).get? b=some o:=fun b o e=>bi _ (bi _ e);have aa:∀b o,s.heap.get? b=some o->b∉(s.heap.push { cls:=.type "list_iterator",data:=.fields #[.ref l,.int 0 0] }).objs.size :: [s.heap.objs.size]:=fun b o e=>by
  rw[z1];simp only[gj,fj,or_false,not_or];have:=dn e;exact⟨gf (Nat.lt_succ_of_lt this),gf this⟩
 refine bh ⟨nk js _,Ey (Walks.list (A:=A.in1) hh _ l (gf lt) z) bt _ nS ac (fun i j x y s' Q' E' k hi hj q=>cm i j x y s' Q' E' (fun b o e=>k b o (aa b o e) (up b o e)) hi hj q) ?_ (cf _ rfl) fun v h' tk hv k=>fin v h' tk hv fun b o e=>k b o (aa b o e) (up b o e)⟩;exact⟨⟨_,bi _ (cf _ rfl),rfl,rfl⟩,(hl.push _).push _⟩
end
def yX(K:bj):List V->Hp->VK->Prop:=fun xs H Q=>∃(p:Addr) (vs:List V) (nss:List (List Int)),xs=[.ref p]/\SqL K H p vs/\vs≠[]/\Paired (fun(v:V) (ns:List Int)=>∃a,v=.ref a/\H a=some (.tup (ns.map V.int))) vs nss /\
 ∀(i:Nat) v ns,vs[i]?=some v->nss[i]?=some ns->(∀ms∈nss,HT.lexLt ms ns=false)->Q v H
theorem CV{ns:Nat->List Int}(tr:∀a b c:List Int,HT.lexLt a b=false->HT.lexLt b c=false->HT.lexLt a c=false)(as:∀a b:List Int,HT.lexLt a b=true->HT.lexLt b a=false):∀k,ki (fun i j=>HT.lexLt (ns i) (ns j)) k<=k/\∀j,j<=k->HT.lexLt (ns j) (ns (ki (fun i j=>HT.lexLt (ns i) (ns j)) k))=false
 | 0=>⟨cw _,fun j hj=>by
   have:j=0:=yw
   subst this;show HT.lexLt (ns 0) (ns 0)=false;cases h:HT.lexLt (ns 0) (ns 0)with
   |false=>rfl
   |true=>have:=as _ _ h;rw[h]at this;cases this⟩
 |k+1=>by
  obtain⟨h1,h2⟩:=CV tr as (ns:=ns) k;simp only[ki];by_cases hb:HT.lexLt (ns (k+1)) (ns (ki (fun i j=>HT.lexLt (ns i) (ns j)) k))=true
  ·rw[cy hb];refine⟨cw _,fun j hj=>?_⟩;by_cases e:j=k+1
   ·subst e;cases h:HT.lexLt (ns (k+1)) (ns (k+1))with
    |false=>rfl
    |true=>have:=as _ _ h;rw[h]at this;cases this
   ·exact tr _ _ _ (h2 j yw) (as _ _ hb)
  ·rw[bv hb];refine⟨yw,fun j hj=>?_⟩;by_cases e:j=k+1
   ·subst e;exact Bool.eq_false_iff.mpr hb
   ·exact h2 j yw
theorem xL:∀a b:List Int,HT.lexLt a b=true->HT.lexLt b a=false
 | [],[],h=>by cases h
 | [],y::ys,_=>rfl
 |x::xs,[],h=>by cases h
 |x::xs,y::ys,h=>by
  rw[HT.lexLt_cons]at h ⊢;by_cases e:x=y
  ·subst e;rw[cy rfl]at h ⊢;exact xL xs ys h
  ·rw[bv e]at h;rw[bv (gs e)];simp only[decide_eq_true_eq]at h;simp only[decide_eq_false_iff_not];omega
theorem x6:∀a b c:List Int,HT.lexLt a b=false->HT.lexLt b c=false->HT.lexLt a c=false
 |_,_,[],_,_=>by rename_i a b _ _;cases a<;>rfl
 | [],[],z::zs,_,h=>by cases h
 | [],y::ys,z::zs,h,_=>by cases h
 |x::xs,[],z::zs,_,h=>by cases h
 |x::xs,y::ys,z::zs,h,k=>by
  rw[HT.lexLt_cons]at h k ⊢;by_cases e:x=y
  ·subst e;rw[cy rfl]at h;by_cases e2:x=z
   ·subst e2;rw[cy rfl]at k ⊢;exact x6 xs ys zs h k
   ·rw[bv e2]at k ⊢;exact k
  ·rw[bv e]at h;by_cases e2:y=z
   ·subst e2;rw[bv e];exact h
   ·rw[bv e2]at k;simp only[decide_eq_false_iff_not]at h k;rw[bv yw];simp only[decide_eq_false_iff_not];omega
theorem Hw{X:Cx}(hc:X.calm=true)(hu:X.A.units+64<gz):CallR X (.builtin "min") (yX X.K):=by
 intro zf s σ H xs us Q I r h;obtain⟨p,vs,z,rfl,hq,ac,pr,q⟩:=h;obtain⟨u,rfl,rx⟩:=vals1 r;cases (show u=bu p from rx);obtain⟨aa,rv,pl,_⟩:=I.list hq;have hl:=rv.length;have af:=Paired.length pr;have hsz:0<aa.toArray.size:=by
  rw[cr,<- hl];exact List.length_pos_iff.mpr ac
 have at_:∀(i:Nat) x,aa.toArray[i]?=some x->∃(v:V) (ns:List Int),vs[i]?=some v/\z[i]?=some ns/\RelV v x/\∃a,v=.ref a/\H a=some (.tup (ns.map V.int)):=fun i x hx=>by
  have hi:i<aa.length:=by
   have:=(Array.getElem?_eq_some_iff.mp hx).1;simpa using this
  have e1:vs[i]?=some vs[i]:=bq yw;have e2:z[i]?=some z[i]:=bq yw;obtain⟨x',ae,rr⟩:=rv.get e1;have:x=x':=by
   have h2:aa[i]?=some x:=by simpa using hx
   rw[ae]at h2;exact(fc h2).symm
  subst this;have pg:∀{a:List V}{b:List (List Int)}{i:Nat}{v:V}{ns:List Int},Paired (fun(v:V) (ns:List Int)=>∃a,v=.ref a/\H a=some (.tup (ns.map V.int))) a b->a[i]?=some v->b[i]?=some ns->∃a,v=.ref a/\H a=some (.tup (ns.map V.int)):=by
   intro a b i v ns pq;induction pq generalizing i with
   |nil=>intro h;simp at h
   |cons r0 _ ih=>
    cases i with
    |zero=>
     intro h1 h2;rw[kz]at h1 h2;cases h1;cases h2;exact r0
    |succ i=>
     intro h1 h2;rw[lc]at h1 h2;exact ih h1 h2
  exact⟨_,_,e1,e2,rr,pg pr e1 e2⟩
 refine GG (I.ok.hd hc) pl.isList hsz (fun i j=>HT.lexLt (z.getD i []) (z.getD j [])) (fun i j x y s' Q' E' k hx hy q'=>?_) fun v h' tk hv k=>?_
 ·obtain⟨v1,n1,_,f1,r1,a1,rfl,e1⟩:=at_ i x hx;obtain⟨v2,n2,_,f2,r2,a2,rfl,e2⟩:=at_ j y hy;cases r1;cases r2;obtain⟨_,ah,w1,t1⟩:=(show ObjOk X.prog X.w H s.heap a1 (.tup (n1.map V.int))from I.hok a1 _ e1);obtain⟨_,ag,w2,t2⟩:=(show ObjOk X.prog X.w H s.heap a2 (.tup (n2.map V.int))from I.hok a2 _ e2);have g1:z.getD i []=n1:=by rw[ig,f1];rfl
  have g2:z.getD j []=n2:=by rw[ig,f2];rfl
  rw[g1,g2]at q';obtain⟨o1,b1,c1⟩:=t1;obtain⟨o2,b2,c2⟩:=t2;exact HT.lt_tupInts ⟨o1,k _ _ b1,c1⟩ ⟨o2,k _ _ b2,c2⟩ (jP w1) (jP w2) (by show X.A.units+1<gz;omega) q'
 ·obtain⟨v1,n1,e1,f1,r1,_⟩:=at_ _ v hv;obtain⟨_,h2⟩:=CV (ns:=fun i=>z.getD i []) x6 xL (aa.toArray.size-1);refine⟨v1,H,I.kept (t':=tk) k,r1,q _ v1 n1 e1 f1 fun ms hm=>?_⟩;obtain⟨j,hj⟩:=mem_iff_getElem?.mp hm;have ai:=(List.getElem?_eq_some_iff.mp hj).1;have:=h2 j (by rw[cr];omega);rw[show z.getD j []=ms by rw[ig,hj];rfl]at this;rw[show z.getD (ki (fun i j=>HT.lexLt (z.getD i []) (z.getD j [])) (aa.toArray.size-1)) []=n1 by rw[ig,f1];rfl]at this;exact this
def C9(K:bj):List V->Hp->VK->Prop:=fun xs H Q=>vI K xs H Q\/yX K xs H Q
theorem GP{X:Cx}(hc:X.calm=true)(hu:X.A.units+64<gz):CallR X (.builtin "min") (C9 X.K):=(KM hc).or (Hw hc hu)
def kC(ns:List Int):bd:=.tuple (ns.map bp)
def tY:List XV->Sto->RX->Prop:=fun xs S R=>yZ xs S R\/arg1 xs fun x=>∃ds,c5 S x=some ds/\∃nss:List (List Int),ds=nss.map kC/\nss≠[]/\∀m,m∈nss->(∀a,a∈nss->HT.lexLt a m=false)->R (.d (kC m)) S
theorem Ht{K:bj}:RC (C9 K) tY:=fun h o H S xs vs R Q hs hx q c=>by
 rcases q with q|q
 ·exact .inl (Kp h o H S xs vs R Q hs hx q c)
 ·obtain⟨x,rfl,ds,hd,aa,rfl,hn,q1⟩:=cP q;obtain⟨v,rfl,ac⟩:=hxs1 hx;obtain⟨a,ws,rfl,ea,l⟩:=bW hs hd ac;have hl:=l.length;refine .inr ⟨a,ws,aa,rfl,.of ea,fun z=>hn ?_,?_,fun i v ns e1 e2 hm=>?_⟩
  ·subst z;rw[cg]at hl;exact fm hl.symm
  ·have go:∀{aa:List (List Int)}{ws:List V},HasL (vx h o H) (aa.map kC) ws->Paired (fun(v:V) (ns:List Int)=>∃a,v=.ref a/\H a=some (.tup (ns.map V.int))) ws aa:=by
    intro aa;induction aa with
    |nil=>intro ws l;rw[zv.mp l];exact .nil
    |cons n aa ih=>
     intro ws l;obtain⟨v,r,rfl,h1,l2⟩:=zn.mp l;obtain⟨b,us,rfl,eb,lb⟩:=zW.mp h1;rw[o8 lb]at eb;exact .cons ⟨b,rfl,zU _ _ eb⟩ (ih l2)
   exact go l
  ·obtain⟨v',ev,hv⟩:=l.get (show (aa.map kC)[i]?=some (kC ns) by rw[gi,e2];rfl);rw[e1]at ev;cases ev;exact c o H S (.d (kC ns)) v Ex.refl hs hv (q1 ns (cj e2) hm)
section
variable {S:Sto}{P:Sto->List bd->Prop}{a b c d:List bd}{x:List bd}
theorem iQ{S0:Sto}:(∃T ds,S0++[x]=T++[ds]/\P T ds)↔P S0 x:=by
 constructor
 ·rintro⟨T,ds,e,q⟩;obtain⟨rfl,e2⟩:=List.append_inj' e rfl;cases e2;exact q
 ·exact fun q=>⟨S0,x,rfl,q⟩
theorem p9:(∃T ds,[a]=T++[ds]/\P T ds)↔P [] a:=iQ (S0:=[])
theorem mI:(∃T ds,[a,b]=T++[ds]/\P T ds)↔P [a] b:=iQ (S0:=[a])
theorem oS:(∃T ds,[a,b,c]=T++[ds]/\P T ds)↔P [a,b] c:=iQ (S0:=[a,b])
end
section
variable {n k:Nat}{ds:List bd}{d:bd}{v:V}
theorem pQ:frz n ds (some (.d d))=some (.d d):=rfl
theorem qD:frz n ds (some (.l k))=if k=n then some (.d (.list ds))else some (.l k):=rfl
end
section
variable {α:Type}{n:Nat}{g:DG}{tt:DT}{te:DE}{fin:Sto->Prop}{S0:Sto}{caps:XE}
theorem Ac{h:α->bd}{f:α->bd}(P:XE->Prop)(hn:S0.length=n)(l:List α)(τ:XE)(hP:P τ)(hl:l.length<=1000)
  (el:∀x∈l,∀ τ acc (R:XE->RX),P τ->(∀ τ',P τ'->R τ' (.d (f x)) (S0++[acc]))->g (.d (h x)) τ (S0++[acc]) fun τ1 S1=>te τ1 S1 (R τ1)) (hf:fin (S0++[l.map f])):bM n g aK te fin (l.map h) τ (S0++[[]]):=by
 have go:∀(l:List α) (acc:List bd) (τ:XE),P τ->acc.length+l.length<=1000->(∀x∈l,∀ τ acc (R:XE->RX),P τ->(∀ τ',P τ'->R τ' (.d (f x)) (S0++[acc]))->g (.d (h x)) τ (S0++[acc]) fun τ1 S1=>te τ1 S1 (R τ1)) ->
   fin (S0++[acc++l.map f])->bM n g aK te fin (l.map h) τ (S0++[acc]):=by
  intro l;induction l with
  |nil=>intro acc τ _ _ _ h;rw[map_nil,gq]at h;exact h
  |cons x l ih=>
   intro acc τ hP hl el hh;show g (.d (h x)) τ (S0++[acc]) fun τ1 S1=>aK τ1 S1 fun b S2=>if b=true then te τ1 S2 fun x S3=>asD x fun e=>∃acc,S3[n]?=some acc/\acc.length<1000/\bM n g aK te fin (l.map h) τ1 (S3.set n (acc++[e]))else bM n g aK te fin (l.map h) τ1 S2
   simp only[aK,↓reduceIte];rw[cn]at hl;refine el x ck τ acc (fun τ1 x S3=>asD x fun e=>∃acc,S3[n]?=some acc/\acc.length<1000/\bM n g aK te fin (l.map h) τ1 (S3.set n (acc++[e]))) hP fun τ' z=>?_;refine⟨acc,by rw[<- hn,bn],yw,?_⟩;rw[Dc hn];refine ih (acc++[f x]) τ' z (by rw[bx,fb];omega) (fun e m=>el e (bw _ m)) ?_;rw[fz];exact hh
 exact go l [] τ hP (by simpa using hl) el (by simpa using hf)
theorem cmp1{h:α->bd}(f:α->bd)(hn:S0.length=n)(l:List α){u:Option XV}(hl:l.length<=1000)
  (el:∀x∈l,∀(u:Option XV) acc (R:XE->RX),(∀u',R (u'::caps) (.d (f x)) (S0++[acc]))->g (.d (h x)) (u::caps) (S0++[acc]) fun τ1 S1=>te τ1 S1 (R τ1)) (hf:fin (S0++[l.map f])):bM n g aK te fin (l.map h) (u::caps) (S0++[[]]):=
 Ac (fun τ=>∃u,τ=u::caps) hn l _ ⟨u,rfl⟩ hl (fun x m τ acc R ⟨u,e⟩ k=>by subst e;exact el x m u acc R fun u'=>k _ ⟨u',rfl⟩) hf
theorem cmp2{h:α->bd}(f:α->bd)(hn:S0.length=n)(l:List α){u v:Option XV}(hl:l.length<=1000)
  (el:∀x∈l,∀(u v:Option XV) acc (R:XE->RX),(∀u' v',R (u'::v'::caps) (.d (f x)) (S0++[acc]))->g (.d (h x)) (u::v::caps) (S0++[acc]) fun τ1 S1=>te τ1 S1 (R τ1)) (hf:fin (S0++[l.map f])):bM n g aK te fin (l.map h) (u::v::caps) (S0++[[]]):=
 Ac (fun τ=>∃u v,τ=u::v::caps) hn l _ ⟨u,v,rfl⟩ hl (fun x m τ acc R ⟨u,v,e⟩ k=>by subst e;exact el x m u v acc R fun u' v'=>k _ ⟨u',v',rfl⟩) hf
end
end
section
@[irreducible] def QSs (X:Cx) (st:List Stmt) (t:TS):Prop:=PSs X st t
theorem QSs.out{X:Cx}{st:List Stmt}{t:TS}(h:QSs X st t):PSs X st t:=by unfold QSs at h;exact h
@[irreducible] def QA (X:Cx) (es:List Expr) (t:TA):Prop:=PA X es t
theorem QA.out{X:Cx}{es:List Expr}{t:TA}(h:QA X es t):PA X es t:=by unfold QA at h;exact h
theorem QA.mk{X:Cx}{es:List Expr}{t:TA}(h:PA X es t):QA X es t:=by unfold QA;exact h
theorem pH{X:Cx}:QA X [] kP:=QA.mk zd
theorem zR{X:Cx}{e:Expr}{es:List Expr}{te:TE}{t:TA}(ha:PE X e te)(hr:QA X es t)(hs:cp (e::es) X.env=(false,eval e X.env)::cp es X.env:=by rfl):QA X (e::es) (jH te t):=QA.mk (za ha hr.out hs)
theorem n9{X:Cx}{es:List Expr}{t:TA}{pos:Pos}(h:QA X es t):PE X (.List es pos) (lA t):=aU h.out
@[irreducible] def QS (X:Cx) (st:Stmt) (t:TS):Prop:=PS X st t
theorem QS.out{X:Cx}{st:Stmt}{t:TS}(h:QS X st t):PS X st t:=by unfold QS at h;exact h
end
section
section
variable {prog:bz}{w:dh}{A:cz}{E:bb->be->Prop}{s:be}
abbrev fW (acc:Array bb) (c:Nat):Obj:={ cls:=.type "list",dict:=none,data:=.seq acc c,slots:=#[] }
abbrev sY (lo hi:Int):Obj:={ cls:=.type "longrange_iterator",data:=.fields #[nc lo,nc (fi lo hi 1),nc 1] }
abbrev IntsFrom (lo:Int) (acc:Array bb) (n:Nat):Prop:=ItemsOf (fun i v=>∃t,v=.int (lo+(i:Nat)*1) t) acc n
theorem IQ{R:Result->be->Prop}{lo:Int}{n L I:Nat}{res:bb}{c0 ah:Nat}{h0:Heap}(hh:A.handled=none)(hn:n<=1000)(ne:L≠I)
  (hI:IsLongIter h0 I (lo+((0:Nat):Int)*1) ((n:Int)-((0:Nat):Int)) 1) (hL:h0.get? L=some (fW #[] c0))
  (hR:∀h' tk acc c,(∀b o,b≠L->b≠I->h0.get? b=some o->h'.get? b=some o)->h'.get? L=some (fW acc c)->IntsFrom lo acc n->R (.ok (.ret res)) { s with heap:=h',toks:=tk }):
  me (model prog w) A (.builtin "list.extend.loop" ⟨[.ref L,.ref I,res],[]⟩) R { s with heap:=h0,toks:=ah }:=by
 have ae:=(Walks.longrange (prog:=prog) (w:=w) (A:=A.in1) hh I lo 1 n).toS;have ac:n<=br:=by rw[jg];omega
 have af:L∉[I]:=by simpa using ne
 refine codeAny_extend_loopS ae ac L af res n 0 _ #[] c0 rfl (mj _) hI hL (ItemsOf.nil _) ?_;intro s' acc c z ag aa;rw[Moved.eq_with z];refine hR s'.heap s'.toks acc c (fun b o b1 b2 e=>z.heap b o ?_ e) ag aa;simp only[gj,fj,or_false,not_or];exact⟨b1,b2⟩
theorem Kc{R:Result->be->Prop}{r L:Addr}{lo hi:Int}{t u v:Tok}{n:Nat}(hh:A.handled=none)(hr:IsRange s.heap r lo hi 1 t u v)(am:iu lo hi 1=false)(hn:fi lo hi 1=(n:Int))(hl:n<=1000)
  {c0:Nat} (hL:s.heap.get? L=some (fW #[] c0))
  (hR:∀h' tk acc c,(∀b o,b≠L->s.heap.get? b=some o->h'.get? b=some o)->h'.get? L=some (fW acc c)->IntsFrom lo acc n->R (.ok (.ret .none)) { s with heap:=h',toks:=tk }):
  bo (model prog w) A.in1 (io (.ref L) (.ref r) .none)
   (fun f z=>match f with
    | .done g=>R (.ok g) z
    | .again c=>c.quiet=true/\me (model prog w) A c R z) (fun e z=>R (.error e) z) s:=by
 have af:L≠r:=fun e=>by
  rw[e,hr]at hL;simp at hL
 have ak:L<s.heap.objs.size:=dn hL;have ne:L≠s.heap.objs.size:=gf ak;have ai:Builtin.List.listSameRef (.ref L) (.ref r)=false:=by simp[Builtin.List.listSameRef,af]
 have k1:(nv "range" == nv "list")=false:=by decide
 have k2:(nv "range" == nv "tuple")=false:=by decide
 unfold io;refine bc (wpAny_typeOf (T:="range") ⟨_,hr,rfl⟩ ?_);simp only[ai,k1,k2,Bool.or_false,gy,if_false];refine bc (wpAny_pyIter_longrange hr am ?_);have aj:IsLongIter (s.heap.push (sY lo hi)) s.heap.objs.size (lo+((0:Nat):Int)*1) ((n:Int)-((0:Nat):Int)) 1:=by
  show IsLongIter _ _ _ _ _;rw[<- hn];simpa using cf _ rfl
 have ae:=bi (sY lo hi) hL;refine bc (je (wpAny_hint_range (n:=n) (bi _ hr) hn yw ?_));have go:∀{h0:Heap}{c0 ag:Nat},IsLongIter h0 s.heap.objs.size (lo+((0:Nat):Int)*1) ((n:Int)-((0:Nat):Int)) 1->h0.get? L=some (fW #[] c0)->(∀b o,b≠L->s.heap.get? b=some o->h0.get? b=some o) ->
   me (model prog w) A (.builtin "list.extend.loop" ⟨[.ref L,.ref s.heap.objs.size,.none],[]⟩) R { s with heap:=h0,toks:=ag }:=fun {h0 c0 ag} a1 a2 a3=>
  IQ hh hl ne a1 a2 fun h' tk acc c q1 q2 q3=>hR h' tk acc c (fun b o nb e=>q1 b o nb (gf (dn e)) (a3 b o nb e)) q2 q3
 have aa:=nk F.plain_extend_loop;refine wpAny_ite_split (fun _=>?_) fun _=>bh ⟨aa _,go aj ae fun b o _ e=>bi _ e⟩;refine bc (wpAny_rule (bc ?_));show bo _ _ (updateSeq L (·.push .none) >>= fun _=>updateSeq L (·.pop)) _ _ _;refine bc (lr ae rfl ?_);have ah:=gl (jk (·.push gh)) ae rfl;refine lr (hz:=by seq_fits) ah rfl ?_;have al:=gl (jk (·.pop)) ah rfl;have ac:∀b o,b≠L->(s.heap.push (sY lo hi)).get? b=some o->(((s.heap.push (sY lo hi)).update L (jk (·.push gh))).update L (jk (·.pop))).get? b=some o:=fun b o nb e=>
  (fh _ _ (gs nb)).trans ((fh _ _ (gs nb)).trans e)
 exact bh ⟨aa _,go (ac _ _ (gs ne) aj) al fun b o nb e=>ac b o nb (bi _ e)⟩
theorem K9{R:Result->be->Prop}{r L:Addr}{lo hi:Int}{t u v:Tok}{n:Nat}(hh:A.handled=none)(hr:IsRange s.heap r lo hi 1 t u v)(af:iu lo hi 1=false)(hn:fi lo hi 1=(n:Int))(hl:n<=1000)
  (hL:s.heap.get? L=some { cls:=.type "list",data:=.seq #[] })
  (hR:∀h' tk acc c,(∀b o,b≠L->s.heap.get? b=some o->h'.get? b=some o)->h'.get? L=some (fW acc c)->IntsFrom lo acc n->R (.ok (.ret .none)) { s with heap:=h',toks:=tk }):
  bo (model prog w) A.in1 (jn.«list.__init__» ⟨[.ref L,.ref r],[]⟩)
   (fun f z=>match f with
    | .done g=>R (.ok g) z
    | .again c=>c.quiet=true/\me (model prog w) A c R z) (fun e z=>R (.error e) z) s:=by
 have ac:L≠r:=fun e=>by
  rw[e,hr]at hL;simp at hL
 show bo _ _ (do
  let was <- Builtin.List.listItems (.ref L)
  Builtin.List.listUpdate (.ref L) (fun _=>#[])
  letGo was.toList.reverse
  io (.ref L) (.ref r) .none) _ _ s
 unfold Builtin.List.listItems;refine bc (bc (wpAny_seqItems hL rfl (bh ?_)));show bo _ _ (updateSeq L (fun _=>#[]) >>= fun _=>letGo _ >>= fun _=>io (.ref L) (.ref r) .none) _ _ s;refine bc (lr hL rfl ?_);have ae:=gl (jk (fun _=>(#[]:Array bb))) hL rfl;have aa:∀b o,b≠L->s.heap.get? b=some o->(s.heap.update L (jk (fun _=>(#[]:Array bb)))).get? b=some o:=fun b o nb e=>(fh _ _ (gs nb)).trans e;refine bc (wpAny_letGo ?_);refine Kc hh (aa r _ (gs ac) hr) af hn hl ae fun h' tk acc c q1 q2 q3=>?_;exact hR h' tk acc c (fun b o nb e=>q1 b o nb (aa b o nb e)) q2 q3
theorem FQ{Q:bb->be->Prop}{r:Addr}{lo hi:Int}{t u v:Tok}{n:Nat}(hh:A.handled=none)(hr:IsRange s.heap r lo hi 1 t u v)(hn:fi lo hi 1=(n:Int))(hl:n<=1000)
  (hQ:∀h' tk acc c,(∀b o,s.heap.get? b=some o->h'.get? b=some o)->h'.get? s.heap.objs.size=some (fW acc c)->IntsFrom lo acc n->Q (.ref s.heap.objs.size) { s with heap:=h',toks:=tk }):
  bo (model prog w) A (call (.type "list") [.ref r]) Q E s:=by
 cases sm:iu lo hi 1 with
 |true=>exact call_list_range hh hr sm hn yw hQ
 |false=>
  refine callType_codes (Q₁:=fun ob z=>ob=.ref s.heap.objs.size/\z = { s with heap:=s.heap.push { cls:=.type "list",data:=.seq #[] } }) F.called_list (F.typeCall_list_1 _) F.entry_list_init (code_list_new _ ⟨rfl,rfl⟩) ?_;rintro ob z ⟨rfl,rfl⟩;have hL:(s.heap.push { cls:=.type "list",data:=.seq #[] }).get? s.heap.objs.size=some { cls:=.type "list",data:=.seq #[] }:=cf _ rfl;refine⟨⟨_,hL,rfl⟩,F.args_list_init_2 _ _,?_⟩;refine K9 (A:=A.in1) hh (bi _ hr) sm hn hl hL fun h' tk acc c q1 q2 q3=>⟨rfl,hQ h' tk acc c (fun b o e=>?_) q2 q3⟩;exact q1 b o (gf (dn e)) (bi _ e)
end
def CJ(ta:TA):TE:=fun σ H Q=>ta σ H fun vs H1=>∃i j:Int,vs=[.int i,.int j]/\(j-i).toNat<=1000/\∀l,H1 l=none->Q (.ref l) (upd H1 l (.lst ((dj (j-i).toNat).map fun k:Nat=>V.int (i+k))))
theorem D9:∀(xs:List V) (us:List bb),xs.length=us.length->(∀(k:Nat) (x:V) (u:bb),xs[k]?=some x->us[k]?=some u->RelV x u)->Vals xs us
 | [],[],_,_=>.nil
 |x::xs,u::us,hl,h=>.cons (h 0 x u rfl rfl) (D9 xs us (by simpa using hl) fun k y v e1 e2=>h (k+1) y v e1 e2)
 | [],_::_,hl,_=>by simp at hl
 |_::_,[],hl,_=>by simp at hl
theorem Bm{lo:Int}:∀{n:Nat}{acc:Array bb},IntsFrom lo acc n->Vals ((dj n).map fun k:Nat=>V.int (lo+k)) acc.toList:=by
 intro n acc h;obtain⟨hz,hv⟩:=h;refine D9 _ _ (by simp[hz]) fun k x u ex eu=>?_;rw[gi]at ex;have hk:k<n:=by
  have:=(List.getElem?_eq_some_iff.mp eu).1;simpa[hz]using this
 rw[List.getElem?_range hk]at ex;cases ex;obtain⟨tk,rfl⟩:=hv k u (by simpa using eu);exact⟨tk,by rw[Int.mul_one]⟩
theorem xX{X:Cx}{a b:Expr}{ta:TA}{p p' pos pos':Pos}(hc:X.calm=true)(aa:Gl X "list")(z:X.mg "list" = none)(hg:Gl X "range")(hm:X.mg "range" = none)(ha:PA X [a,b] ta)
  (hs:cp [a,b] X.env=[(false,eval a X.env),(false,eval b X.env)]:=by rfl) (hs2:cp [b] X.env=[(false,eval b X.env)]:=by rfl)
  (hs3:cp [.Call (.Name "range" p) [a,b] [] pos] X.env=[(false,eval (.Call (.Name "range" p) [a,b] [] pos) X.env)]:=by rfl):
  PE X (.Call (.Name "list" p') [.Call (.Name "range" p) [a,b] [] pos] [] pos') (CJ ta):=by
 intro zf s σ H Q I h;refine jb (gG I aa z Fv ?_ dz dz);refine ge ?_ (by rw[hs3];rfl) rfl;rw[hs3];show bo _ _ (spliced ((false,eval (.Call (.Name "range" p) [a,b] [] pos) X.env) :: [])) _ _ s;refine jt (Call_ (gG I hg hm boot_range (ge (thn (ha pos zf s σ H _ I h) fun us s1 ⟨vs,H1,I1,r1,q1⟩=>?_) (by rw[hs,hs2]) (by rw[hs2];rfl))));obtain⟨i,j,e,hl,q⟩:=q1;subst e;cases r1 with
 |cons r rr=>
  cases rr with
  |cons r' rr=>
   cases rr;obtain⟨t,rfl⟩:=r;obtain⟨t',rfl⟩:=r';refine call_range_2 (lz ?_);have I2:=I1.kept (h':=s1.heap.push { cls:=.type "range",data:=.fields #[.int i t,.int j t',.int 1 s1.toks] }) (t':=s1.toks+1) fun b o e=>bi _ e;have en:fi i j 1=(((j-i).toNat:Nat):Int):=by rw[rangeSize_one];split<;>omega
   refine FQ (I2.ok.hd hc) (IsRange.new ..) en hl fun h' tk acc c kp e it=>?_;have hv:=Bm it;refine⟨.ref _,_,I2.laid (t':=tk) kp (cw _) (show ObjOk X.prog X.w _ h' _ (.lst _)from⟨?_,acc.toList,c,hv,?_⟩),rfl,q _ (I2.hok.fresh (cw _))⟩
   ·rw[cg,length_range,jg];omega
   ·simpa using e
def hZ(a:DA):DE:=fun δ S R=>a δ S fun xs S1=>arg2 xs fun x y=>asI x fun i=>asI y fun j=>(j-i).toNat<=1000/\R (.d (.list (fU i (j-i).toNat))) S1
theorem Ek{ta:TA}{da:DA}(ha:RA ta da):RE (CJ ta) (hZ da):=fun h o H δ σ S R Q he hs q c=>
 ha h o H δ σ S _ _ he hs q fun o1 H1 S1 xs vs e1 s1 x1 d0=>by
  obtain⟨x,y,rfl,d2⟩:=mS d0;obtain⟨i,rfl,d3⟩:=bA d2;obtain⟨j,rfl,hl,d4⟩:=bA d3;obtain⟨v,u,rfl,hv,hu⟩:=hxs2 x1;rw[aY hv,aY hu];have l:=vT (H:=vx h o1 H1) ((dj (j-i).toNat).map fun k:Nat=>i+k);rw[kj,kj]at l;exact⟨i,j,rfl,hl,mZ s1 l (c.pre e1) d4⟩
end
end L2
namespace L2
open PySem PySem.Spec PyProof.Rows
section
def oY:D3:=fun x i j S R=>asT x fun ds=>R (.d (.tuple (aV ds i j))) S
end
section
@[irreducible] def QE (X:Cx) (e:Expr) (t:TE):Prop:=PE X e t
theorem QE.out{X:Cx}{e:Expr}{t:TE}(h:QE X e t):PE X e t:=by unfold QE at h;exact h
end
end L2
namespace L2
open PySem PySem.Spec PyProof.Rows
section
section
variable {prog:bz}{w:dh}{A:cz}{E:bb->be->Prop}{s:be}
theorem Jq{Q:List bb->be->Prop}{r:Addr}{lo hi:Int}{t u v:Tok}{n:Nat}(hh:A.handled=none)(hr:IsRange s.heap r lo hi 1 t u v)(sm:iu lo hi 1=true)(hn:fi lo hi 1=(n:Int))(hl:n<=1000)
  (hQ:∀h' tk acc,(∀b o,s.heap.get? b=some o->h'.get? b=some o)->IntsFrom lo acc n->Q acc.toList { s with heap:=h',toks:=tk }):bo (model prog w) A (collect (.ref r)) Q E s:=by
 unfold collect;refine bc (wpAny_runValue (lq F.entry_proto_collect ?_));rw[kh F.plain_proto_collect _];show bo _ A.in1 (newList [] >>= fun l=>again (.builtin "list.__iadd__" ⟨[l,.ref r],[]⟩)) _ _ s;refine bc (ft ?_);refine bh ⟨nk F.plain_list_iadd _,lq F.entry_list_iadd ?_⟩;rw[kh F.plain_list_iadd _];show bo _ A.in1 (io (.ref s.heap.objs.size) (.ref r) (.ref s.heap.objs.size)) _ _ _;have hS:(s.heap.push { cls:=.type "list",data:=.seq ([]:List bb).toArray }).get? s.heap.objs.size=some { cls:=.type "list",data:=.seq #[] 0 }:=cf _ rfl;refine gm (wpAny_extend_range (A:=A) (s:={ s with heap:=s.heap.push { cls:=.type "list",data:=.seq ([]:List bb).toArray } }) (R:=fun res s'=>∃h' tk acc c,res=.ok (.ret (.ref s.heap.objs.size))/\s' = { s with heap:=h',toks:=tk }/\(∀b o,s.heap.get? b=some o->h'.get? b=some o)/\h'.get? s.heap.objs.size=some (fW acc c)/\IntsFrom lo acc n)
  hh (bi _ hr) sm hn yw s.heap.objs.size (.ref s.heap.objs.size) 0 hS fun h' tk acc c q1 q2 q3=>⟨h',tk,acc,c,rfl,rfl,fun b o e=>q1 b o (gf (dn e)) (bi _ e),q2,q3⟩) (fun fin s' h=>?_) (fun e s' h=>?_)
 ·have z:∀h' tk acc c,(∀b o,s.heap.get? b=some o->h'.get? b=some o)->h'.get? s.heap.objs.size=some (fW acc c)->IntsFrom lo acc n->bo (model prog w) A (match bu s.heap.objs.size with
    |bu a=>do
     match (<- load a).data with
      |Data.seq xs _=>pure xs.toList
      |_=>unsupported "internal:collect"
    |_=>unsupported "internal:collect") Q E { s with heap:=h',toks:=tk }:=fun h' tk acc c q1 q2 q3=>by
   show bo _ A (load s.heap.objs.size >>= _) _ _ _;exact bc (wpAny_load q2 (bh (hQ h' tk acc q1 q3)))
  cases fin with
  |done f=>
   obtain⟨h',tk,acc,c,e,rfl,q1,q2,q3⟩:=h;cases e;exact z h' tk acc c q1 q2 q3
  |again c'=>exact⟨h.1,ml h.2 fun r s'' hr=>by
    obtain⟨h',tk,acc,c,rfl,rfl,q1,q2,q3⟩:=hr;exact z h' tk acc c q1 q2 q3⟩
 ·obtain⟨_,_,_,_,h,_⟩:=h;cases h
theorem HY(r:Addr)(lo hi:Int)(t u v:Tok)(n:Nat)(sm:iu lo hi 1=true)(hn:fi lo hi 1=(n:Int))(hl:n<=1000):
  Meets (jn.«tuple.__new__» ⟨[.type "tuple",.ref r],[]⟩)
   (fun A R s=>A.handled=none/\IsRange s.heap r lo hi 1 t u v/\∀(h':Heap) tk acc,(∀b o',s.heap.get? b=some o'->h'.get? b=some o')->IntsFrom lo acc n->R (.ok (.ret (.ref h'.objs.size))) { s with heap:=h'.push { cls:=.type "tuple",data:=.seq acc },toks:=tk }):=
 .of_wp fun prog w A R s h=>by
  obtain⟨hp,g,d,tk,os⟩:=s;obtain⟨hh,hr,h⟩:=h;have ac:=sub_tuple_self;have z:=init_tuple_lookup;have ae:=madeHere_tuple;have hT:Shared.TypeIs ⟨hp,g,d,tk,os⟩ (.ref r) "range":=⟨_,hr,rfl⟩
  wp_walk using AutoSeq1.wpAny_loadPart' hr,wpAny_typeOf hT,Jq (A:=A.in1) hh hr sm hn hl
  intro h' aa acc hk hi;show bo _ _ (ii acc.toList.toArray >>= fun v=>ret v) _ _ _;unfold ii;have hz:acc.size=n:=hi.1;refine bc (ft ?_ (by show acc.toList.toArray.size<=br;simp[hz];rw[jg];omega));refine bh ⟨_,rfl,?_⟩;have e:acc.toList.toArray=acc:=by simp
  rw[e];exact h h' aa acc hk hi
theorem GR{Q:bb->be->Prop}{r:Addr}{lo hi:Int}{t u v:Tok}{n:Nat}(hh:A.handled=none)(hr:IsRange s.heap r lo hi 1 t u v)(sm:iu lo hi 1=true)(hn:fi lo hi 1=(n:Int))(hl:n<=1000)
  (hQ:∀(h':Heap) tk acc,(∀b o,s.heap.get? b=some o->h'.get? b=some o)->IntsFrom lo acc n->Q (.ref h'.objs.size) { s with heap:=h'.push { cls:=.type "tuple",data:=.seq acc },toks:=tk }):
  bo (model prog w) A (call (.type "tuple") [.ref r]) Q E s:=
 callType_new F.called_tuple dz (F.typeCall_tuple_1 _) (F.newCall_tuple_1 _) (fun obj=>F.args_object_init_2 obj _) F.entry_tuple_new
  (HY r lo hi t u v n sm hn hl) ⟨hh,hr,fun h' tk acc hk hi=>⟨⟨_,cf _ rfl,rfl⟩,hQ h' tk acc hk hi⟩⟩
end
def CS(ta:TA):TE:=fun σ H Q=>ta σ H fun vs H1=>∃j:Int,vs=[.int j]/\0<=j/\j<=1000/\∀l,H1 l=none->Q (.ref l) (upd H1 l (.tup ((dj j.toNat).map fun k:Nat=>V.int (0+k))))
theorem Jj:fy "tuple" = some (.type "tuple"):=by decide +kernel
theorem HJ{X:Cx}{a:Expr}{ta:TA}{p p' pos pos':Pos}(hc:X.calm=true)(aa:Gl X "tuple")(z:X.mg "tuple" = none)(hg:Gl X "range")(hm:X.mg "range" = none)(ha:PA X [a] ta)
  (hs:cp [a] X.env=[(false,eval a X.env)]:=by rfl)
  (hs3:cp [.Call (.Name "range" p) [a] [] pos] X.env=[(false,eval (.Call (.Name "range" p) [a] [] pos) X.env)]:=by rfl):
  PE X (.Call (.Name "tuple" p') [.Call (.Name "range" p) [a] [] pos] [] pos') (CS ta):=by
 intro zf s σ H Q I h;refine jb (gG I aa z Jj ?_ dz dz);refine ge ?_ (by rw[hs3];rfl) rfl;rw[hs3];show bo _ _ (spliced ((false,eval (.Call (.Name "range" p) [a] [] pos) X.env) :: [])) _ _ s;refine jt (Call_ (gG I hg hm boot_range (ge (thn (ha pos zf s σ H _ I h) fun us s1 ⟨vs,H1,I1,r1,q1⟩=>?_) hs rfl)));obtain⟨j,e,h0,hl,q⟩:=q1;subst e;cases r1 with
 |cons r rr=>
  cases rr;obtain⟨t,rfl⟩:=r;refine call_range_1 (lz ?_);have I2:=I1.kept (h':=s1.heap.push { cls:=.type "range",data:=.fields #[.int 0 s1.toks,.int j t,.int 1 (s1.toks+1)] }) (t':=s1.toks+2) fun b o e=>bi _ e;have en:fi 0 j 1=((j.toNat:Nat):Int):=by rw[rangeSize_one];split<;>omega
  refine GR (I2.ok.hd hc) (IsRange.new ..) (small_one dz dz yw yw) en yw fun h' tk acc kp it=>?_;have hv:=Bm it;have I3:=I2.kept (t':=tk) kp;have I4:=I3.laid (t':=tk) (h':=h'.push { cls:=.type "tuple",data:=.seq acc }) (fun b o e=>bi _ e) (cw _) (show ObjOk X.prog X.w _ _ h'.objs.size (.tup ((dj j.toNat).map fun k:Nat=>V.int (0+k)))from⟨?_,acc.toList,hv,?_⟩)
  ·exact⟨.ref h'.objs.size,_,I4,rfl,q _ (I3.hok.fresh (cw _))⟩
  ·refine⟨?_,_,cf _ rfl,rfl⟩;rw[cg,length_range,jg];omega
  ·have:=IsTup.new h' acc;simpa using this
def jU(a:DA):DE:=fun δ S R=>a δ S fun xs S1=>arg1 xs fun y=>asI y fun n=>(0<=n/\n<=1000)/\R (.d (.tuple ((dj n.toNat).map fun k:Nat=>bp (0+k)))) S1
theorem Ah{ta:TA}{da:DA}(ha:RA ta da):RE (CS ta) (jU da):=fun h o H δ σ S R Q he hs q c=>
 ha h o H δ σ S _ _ he hs q fun o1 H1 S1 xs vs e1 s1 x1 d0=>by
  obtain⟨x,rfl,d2⟩:=cP d0;obtain⟨j,rfl,hl,d4⟩:=bA d2;obtain⟨v,rfl,hv⟩:=hxs1 x1;rw[aY hv];have l:=vT (H:=vx h o1 H1) ((dj j.toNat).map fun k:Nat=>0+(k:Int));rw[kj,kj]at l;exact⟨j,rfl,hl.1,hl.2,kA s1 l (c.pre e1) d4⟩
def lR:D2:=fun x y S R=>asT x fun ds=>asT y fun es=>∃ns,ds=ns.map bp/\∃ms,es=ms.map bp/\R (.d (.bool (HT.lexLt ns ms))) S
end
section
theorem GY(f:Array bb->Array bb)(o:Obj):(lu f o).dict=o.dict:=by
 unfold lu;split<;>rfl
def RecAt(h base:Heap)(e:Addr)(cls:bb)(dx:Option Addr)(a0 fl:bb):Prop:=
 ∃oe vs T oT ts,h.get? e=some oe/\oe.cls=cls/\oe.dict=dx/\oe.data=.fields vs/\(vs[0]?=some a0/\vs[2]?=some .none)/\vs[1]?=some (.ref T)/\base.get? T=none/\T≠e/\h.get? T=some oT/\oT.data=.fields ts/\ts[3]?=some fl
structure NotedD(base:Heap)(l:List Env)(e:Addr)(cls:bb)(dx:Option Addr)(a0 fl:bb)(h h':Heap):Prop where
 stays:base.StaysIn h'
 frames:h'.FunFrames base l
 rcd:RecAt h' base e cls dx a0 fl
 upto:h.UpToSlots h'
def FlyD(base:Heap)(l:List Env)(e:Addr)(cls:bb)(dx:Option Addr)(a0:bb)(h:Heap):Prop:=base.StaysIn h/\base.get? e=none/\h.FunFrames base l/\RecAt h base e cls dx a0 .none
def HeldD(base:Heap)(l:List Env)(e:Addr)(cls:bb)(dx:Option Addr)(a0:bb)(L:Addr)(h:Heap):Prop:=base.StaysIn h/\base.get? e=none/\h.FunFrames base l/\RecAt h base e cls dx a0 (nc L)
theorem FlyD.there{base h:Heap}{l:List Env}{e:Addr}{cls a0:bb}{dx:Option Addr}(x:FlyD base l e cls dx a0 h):∃ob,h.get? e=some ob/\ob.cls=cls/\ob.dict=dx:=
 let ⟨_,_,_,oe,_,_,_,_,he,hc,hd,_⟩:=x;⟨oe,he,hc,hd⟩
theorem FlyD.first{base h:Heap}{l:List Env}{e:Addr}{cls a0:bb}{dx:Option Addr}(x:FlyD base l e cls dx a0 h):∃oe vs,h.get? e=some oe/\oe.cls=cls/\oe.data=.fields vs/\vs[0]?=some a0:=
 let ⟨_,_,_,oe,vs,_,_,_,he,hc,_,hd,h0,_⟩:=x;⟨oe,vs,he,hc,hd,h0.1⟩
theorem FlyD.first2{base h:Heap}{l:List Env}{e:Addr}{cls a0:bb}{dx:Option Addr}(x:FlyD base l e cls dx a0 h):∃oe vs,h.get? e=some oe/\oe.cls=cls/\oe.data=.fields vs/\vs[2]?=some .none:=
 let ⟨_,_,_,oe,vs,_,_,_,he,hc,_,hd,h0,_⟩:=x;⟨oe,vs,he,hc,hd,h0.2⟩
section
variable {M:Model}{A:cz}{E:bb->be->Prop}{s:be}
theorem A6{base:Heap}{env:Env}{outer:List Env}{L e:Addr}{oe:Obj}{vs:Array bb}{ac a0:bb}{aa:Bool}{Q:Unit->be->Prop}
  (hfr:A.frames=some (env::outer)) (hl:s.heap.FunFrames base (env::outer)) (hf:env.frame=some L)
  (he:s.heap.get? e=some oe) (hkb:base.StaysIn s.heap) (hen:base.get? e=none) (hd:oe.data=.fields vs) (hsz:1<vs.size) (h0:vs[0]?=some a0/\vs[2]?=some .none)
  (h:∀h',NotedD base (env::outer) e oe.cls oe.dict a0 (nc L) s.heap h'->Q () { s with heap:=h' }):
  bo M A (do let a <- frameOf env;let pl <- entryPlaceOf L aa;let b <- EntryCells.newEntry ac a .none (nc L) .none pl;setField (.ref e) 1 b) Q E s:=by
 have ne:e∉(env::outer).filterMap (·.frame):=fun hm=>by
  obtain⟨_,o,ho,nf⟩:=hl.mem hm;rw[he]at ho;cases ho;exact nf vs hd
 refine bc (wpAny_frameOf_fun hfr hl hf fun h1 k1=>?_);refine bc (wpAny_entryPlaceOf fun pl ae=>?_);unfold EntryCells.newEntry newFields;refine bc (ft ?_ (ae.sizeOk5 _ _ _ _ _));have e1:h1.get? e=some oe:=(k1.2.1 e ne).trans he;have b1:base.StaysIn h1:=fun b o q=>(k1.2.1 b fun hm=>by rw[(hl.mem hm).1]at q;cases q).trans (hkb b o q);generalize hT:({ cls:=.type "traceback",dict:=none,data:=.fields ([ac,.ref L,.none,nc L,.none]++(if pl.isEmpty then bg 6 gh else pl)).toArray }:Obj)=tb;have dT:∃ts,tb.data=.fields ts/\ts[3]?=some (nc L):=by
  subst hT;exact⟨_,rfl,yv⟩
 obtain⟨ts,dT,zT⟩:=dT;have fT:tb.isFreed=false:=Obj.isFreed_of_fields dT;have e2:=bi (h:=h1) tb e1;refine wpAny_setField e2 hd hsz (h _ ?_);have nT:h1.objs.size≠e:=ne_of_gt (dn e1);have d3:=Obj.data_mapFields hd (·.setIfInBounds 1 (bu h1.objs.size));have e3:=gl (lu (·.setIfInBounds 1 (bu h1.objs.size))) e2 (Obj.isFreed_of_fields d3);have t3:=(fh (h1.push tb) (lu (·.setIfInBounds 1 (bu h1.objs.size))) (gs nT)).trans (cf h1 fT);have keep:∀b o,b≠e->h1.get? b=some o->((h1.push tb).update e (lu (·.setIfInBounds 1 (bu h1.objs.size)))).get? b=some o:=fun b o nb q=>by
  rw[fh _ _ (gs nb)];exact bi _ q
 have nr:∀b o,s.heap.get? b=some o->(∀vs,o.data≠.fields vs)->b≠e:=fun b o q nf z=>by
  rw[z,he]at q;cases q;exact nf vs hd
 refine⟨fun b o q=>keep b o (fun z=>by rw[z,hen]at q;cases q) (b1 b o q),hl.of_keeps fun b o q nf=>?_,?_,fun b o q nf=>?_⟩
 ·obtain⟨sl,z⟩:=k1.2.2 b o q;exact⟨_,keep b _ (nr b o q nf) z,rfl⟩
 ·exact⟨_,_,h1.objs.size,_,_,e3,Obj.cls_mapFields _ _,GY _ _,d3,⟨by rw[Array.getElem?_setIfInBounds_ne dz];exact h0.1,by rw[Array.getElem?_setIfInBounds_ne dz];exact h0.2⟩,by simp[hsz],b1.fresh,nT,t3,dT,zT⟩
 ·obtain⟨sl,z⟩:=k1.2.2 b o q;exact⟨sl,keep b _ (nr b o q nf) z⟩
theorem sW{base:Heap}{l:List Env}{e:Addr}{cls a0 fl:bb}{dx:Option Addr}{Q:Unit->be->Prop}(ah:base.StaysIn s.heap)(ag:base.get? e=none)(hl:s.heap.FunFrames base l)(ht:RecAt s.heap base e cls dx a0 fl)
  (h:∀h',FlyD base l e cls dx a0 h'->s.heap.UpToSlots h'->Q () { s with heap:=h' }):bo M A (setFlight (.ref e) none) Q E s:=by
 obtain⟨oe,vs,T,oT,ts,he,hc,hx,hd,h0,h1,ae,af,hT,aa,h3⟩:=ht;have z3:3<ts.size:=(Array.getElem?_eq_some_iff.mp h3).1;have ac:∀b,b≠T->(s.heap.update T (lu (·.setIfInBounds 3 ((none:Option Addr).elim gh fun f=>nc f)))).get? b=s.heap.get? b:=fun b hb=>fh _ _ (gs hb);have nr:∀b o,s.heap.get? b=some o->(∀vs,o.data≠.fields vs)->b≠T:=fun b o q nf z=>by
  rw[z,hT]at q;cases q;exact nf ts aa
 unfold setFlight;refine bc (jo he hd h1 ?_);rw[cy (show (bu T != gh)=true from by simp)];refine wpAny_setField hT aa z3 (h _ ⟨fun b o q=>(ac b fun z=>by rw[z,ae]at q;cases q).trans (ah b o q),ag,hl.of_keeps fun b o q nf=>⟨o,(ac b (nr b o q nf)).trans q,rfl⟩,?_⟩ fun b o q nf=>⟨o.slots,(ac b (nr b o q nf)).trans q⟩);exact⟨oe,vs,T,_,_,(ac e (gs af)).trans he,hc,hx,hd,h0,h1,ae,af,gl _ hT (Obj.isFreed_of_fields (Obj.data_mapFields aa _)),Obj.data_mapFields aa _,by simp[z3]⟩
theorem J0{base:Heap}{env:Env}{outer:List Env}{L e:Addr}{oe:Obj}{vs:Array bb}{a0:bb}{Q:Unit->be->Prop}
  (hfr:A.frames=some (env::outer)) (hl:s.heap.FunFrames base (env::outer)) (hf:env.frame=some L)
  (he:s.heap.get? e=some oe) (hkb:base.StaysIn s.heap) (hen:base.get? e=none) (hd:oe.data=.fields vs) (h1:vs[1]?=some .none) (h0:vs[0]?=some a0/\vs[2]?=some .none)
  (h:∀h',NotedD base (env::outer) e oe.cls oe.dict a0 (nc L) s.heap h'->Q () { s with heap:=h' }):bo M A (noteFrame (.ref e) env) Q E s:=by
 unfold noteFrame;simp only[hf];refine bc (jo he hd h1 ?_);rw[bv dz];exact A6 hfr hl hf he hkb hen hd (Array.getElem?_eq_some_iff.mp h1).1 h0 h
theorem B7{base:Heap}{env:Env}{outer:List Env}{L e:Addr}{cls a0:bb}{dx:Option Addr}{Q:Unit->be->Prop}
  (hfr:A.frames=some (env::outer)) (hl:s.heap.FunFrames base (env::outer)) (hf:env.frame=some L) (ht:RecAt s.heap base e cls dx a0 .none) (hkb:base.StaysIn s.heap) (hen:base.get? e=none)
  (h:∀h',NotedD base (env::outer) e cls dx a0 (nc L) s.heap h'->Q () { s with heap:=h' }):bo M A (noteFrame (.ref e) env) Q E s:=by
 obtain⟨oe,vs,T,oT,ts,he,rfl,rfl,hd,h0,h1,ae,af,hT,ac,h3⟩:=ht;unfold noteFrame;simp only[hf];refine bc (jo he hd h1 ?_);rw[cy (show (bu T != gh)=true from by simp)];refine bc (jo hT ac h3 ?_);rw[bv (show ¬((gh==nc L)=true)from by simp[nc])];refine bc (wpAny_setField hT ac (Array.getElem?_eq_some_iff.mp h3).1 ?_);have aa:∀b,b≠T->(s.heap.update T (lu (·.setIfInBounds 3 gh))).get? b=s.heap.get? b:=fun b hb=>fh _ _ (gs hb);have nr:∀b o,s.heap.get? b=some o->(∀vs,o.data≠.fields vs)->b≠T:=fun b o q nf z=>by
  rw[z,hT]at q;cases q;exact nf ts ac
 refine A6 hfr (hl.of_keeps fun b o q nf=>⟨o,(aa b (nr b o q nf)).trans q,rfl⟩) hf ((aa e (gs af)).trans he)
  (fun b o q=>(aa b fun z=>by rw[z,ae]at q;cases q).trans (hkb b o q)) hen hd (Array.getElem?_eq_some_iff.mp h1).1 h0
  fun h' x=>h h' ⟨x.stays,x.frames,x.rcd,fun b o q nf=>x.upto b o ((aa b (nr b o q nf)).trans q) nf⟩
theorem FH{base:Heap}{env:Env}{outer:List Env}{L e:Addr}{cls a0:bb}{dx:Option Addr}{Q:Unit->be->Prop}(aa:A.frames=some (env::outer))(hf:env.frame=some L)(z:FlyD base (env::outer) e cls dx a0 s.heap)
  (hQ:∀h',FlyD base outer e cls dx a0 h'->s.heap.UpToSlots h'->Q () { s with heap:=h' }):bo M A (leaving env (.ref e)) Q E s:=by
 obtain⟨f1,f2,f3,f4⟩:=z;unfold leaving;refine bc (B7 aa f3 hf f4 f1 f2 fun h' x=>?_);refine sW (s:={ s with heap:=h' }) x.stays f2 x.frames x.rcd fun h2 y u=>hQ h2 ⟨y.1,y.2.1,?_,y.2.2.2⟩ (x.upto.trans u);obtain⟨_,_,k⟩:=y.2.2.1;exact k
theorem Ee{base:Heap}{env:Env}{outer:List Env}{L e:Addr}{oe:Obj}{vs:Array bb}{a0:bb}{Q:Unit->be->Prop}
  (hfr:A.frames=some (env::outer)) (hl:s.heap.FunFrames base (env::outer)) (hf:env.frame=some L)
  (he:s.heap.get? e=some oe) (hkb:base.StaysIn s.heap) (hen:base.get? e=none) (hd:oe.data=.fields vs) (h1:vs[1]?=some .none) (h0:vs[0]?=some a0/\vs[2]?=some .none)
  (hQ:∀h',FlyD base outer e oe.cls oe.dict a0 h'->s.heap.UpToSlots h'->Q () { s with heap:=h' }):bo M A (leaving env (.ref e)) Q E s:=by
 unfold leaving;refine bc (J0 hfr hl hf he hkb hen hd h1 h0 fun h' x=>?_);refine sW (s:={ s with heap:=h' }) x.stays hen x.frames x.rcd fun h2 y u=>hQ h2 ⟨y.1,y.2.1,?_,y.2.2.2⟩ (x.upto.trans u);obtain⟨_,_,k⟩:=y.2.2.1;exact k
theorem HA{base:Heap}{env:Env}{outer:List Env}{L e:Addr}{cls a0:bb}{dx:Option Addr}{Q:Unit->be->Prop}(aa:A.frames=some (env::outer))(hf:env.frame=some L)(z:FlyD base (env::outer) e cls dx a0 s.heap)
  (hQ:∀h',HeldD base (env::outer) e cls dx a0 L h'->s.heap.UpToSlots h'->Q () { s with heap:=h' }):bo M A (noteFrame (.ref e) env) Q E s:=by
 obtain⟨f1,f2,f3,f4⟩:=z;exact B7 aa f3 hf f4 f1 f2 fun h' x=>hQ h' ⟨x.stays,f2,x.frames,x.rcd⟩ x.upto
theorem Kd{base:Heap}{l:List Env}{e L:Addr}{cls a0:bb}{dx:Option Addr}{Q:Unit->be->Prop}(hh:HeldD base l e cls dx a0 L s.heap)(hQ:∀h',FlyD base l e cls dx a0 h'->s.heap.UpToSlots h'->Q () { s with heap:=h' }):bo M A (setFlight (.ref e) none) Q E s:=by
 obtain⟨f1,f2,f3,f4⟩:=hh;exact sW f1 f2 f3 f4 hQ
theorem JV{base:Heap}{l:List Env}{e:Addr}{cls a0:bb}{dx:Option Addr}{Q:Unit->be->Prop}(hh:FlyD base l e cls dx a0 s.heap)(hQ:∀h',FlyD base l e cls dx a0 h'->s.heap.UpToSlots h'->Q () { s with heap:=h' }):bo M A (setFlight (.ref e) none) Q E s:=by
 obtain⟨f1,f2,f3,f4⟩:=hh;exact sW f1 f2 f3 f4 hQ
end
theorem HOk.stays{P:bz}{w:dh}{H:Hp}{h h':Heap}(x:HOk P w H h)(k:∀b u,H b=some u->∀o,h.get? b=some o->h'.get? b=some o):HOk P w H h':=fun a o e=>
 (x a o e).stay (fun b u hb q=>by
  rcases hb with rfl|hb
  ·exact k _ _ e _ q
  ·exact k _ _ hb _ q) (fun _ q=>q) fun _ _ q=>q
theorem ObjOk.obj{P:bz}{w:dh}{H:Hp}{h:Heap}{a:Addr}{o:HO}(x:ObjOk P w H h a o):∃u,h.get? a=some u:=by
 cases o with
 |lst xs=>obtain⟨_,_,_,_,e⟩:=x;exact⟨_,e⟩
 |tup xs=>obtain⟨_,_,_,o,e,_⟩:=x;exact⟨_,e⟩
 |dK kvs=>obtain⟨_,_,_,_,o,_,_,e,_⟩:=x;exact⟨_,e⟩
 |dT kvs=>obtain⟨_,_,_,_,o,_,_,e,_⟩:=x;exact⟨_,e⟩
 |set S n=>obtain⟨o,_,_,_,e,_⟩:=x;exact⟨_,e⟩
 |ins C dx fs=>obtain⟨_,_,_,e,_⟩:=x;exact⟨_,e⟩
 |own y=>exact x
 |xd fs=>obtain⟨_,⟨_,_,_,e,_⟩,_⟩:=x;exact⟨_,e⟩
 |rng lo hi=>obtain⟨_,_,_,e⟩:=x;exact⟨_,e⟩
 |frz ob u=>obtain⟨e,_⟩:=x;exact⟨_,e⟩
 |tbl ps=>obtain⟨_,e,_⟩:=x;exact⟨_,e⟩
 |met f y=>exact⟨_,(show h.get? a=some _ from x)⟩
 |ext φ=>obtain⟨_,e,_⟩:=x;exact e
structure Fly(P:bz)(w:dh)(outer:List Env)(H:Hp)(s:be)(H':Hp)(a C:Addr)(dx:Option Addr)(s':be):Prop where
 os:s'.os=s.os
 bare:AllBare s'.gens
 un:Un (frs outer) [] H H' s.heap s'.heap
 hok:HOk P w H' s'.heap
 fl:∃B t,FlyD B outer a (.ref C) dx (.ref t) s'.heap/\(∀b o,s.heap.get? b=some o->H b=none->b∉frs outer->B.get? b=some o)/\(∀b o,s.heap.get? b=some o->b∈frs outer\/∃o',B.get? b=some o')/\∀b u,H' b=some u->∃o,B.get? b=some o
def CX1(P:bz)(w:dh):CXT:=fun outer H s E e s'=>∃H' a C dx,e=.ref a/\Fly P w outer H s H' a C dx s'/\E (.ref C) (some a) (upd H' a (exO a C dx))
section
variable {P:bz}{w:dh}{K:bj}{mg:Str->Option bb}{base:Heap}{N:List Str}{qual:Str}{scope:Scope}{f:Addr}{cd:bb}{A:cz}{outer:List Env}{s:be}{H:Hp}{E:XK}
theorem pass1:Passes (CX1 P w) (cE (CX1 P w) P w K mg base N qual scope f cd A outer s H E) E:=fun zf σ Hc sc e s' I hx=>by
 obtain⟨H',a,C,dx,rfl,F,hE⟩:=hx;obtain⟨B,t,fl,kB,eB,tB⟩:=F.fl;have ae:(A.deeper (ij qual scope s.heap.objs.size f cd)).frames=some (ij qual scope s.heap.objs.size f cd::outer):=I.ok.frames;have nl:∀b o,s.heap.get? b=some o->b∉frs outer->b∉frs (ij qual scope s.heap.objs.size f cd::outer):=fun b o q hb z=>by
  rcases mem_cons.mp (show b∈s.heap.objs.size::frs outer from z)with e|e
  ·exact absurd (dn q) (by rw[e];exact jp _)
  ·exact hb e
 have nx:∀b:Addr,b∉([]:List Addr):=fun b=>by simp
 have kp:∀b o,s.heap.get? b=some o->H b=none->b∉frs outer->B.get? b=some o:=fun b o q n hb=>kB b o (I.base.keep b o q n hb (nx b)) (I.base.free b o q n (nx b)) (nl b o q hb);have ep:∀b o,s.heap.get? b=some o->b∈frs outer\/∃o',B.get? b=some o':=fun b o q=>by
  by_cases hb:b∈frs outer
  ·exact .inl hb
  ·obtain⟨o1,q1⟩:=I.base.there b o q (nx b);rcases eB b o1 q1 with z|z
   ·exact absurd z (nl b o q hb)
   ·exact .inr z
 show bo _ _ (leaving (ij qual scope s.heap.objs.size f cd) (.ref a)) _ _ s';refine FH ae rfl fl fun h' aa sm=>⟨H',a,C,dx,rfl,⟨F.os.trans I.os,F.bare,⟨fun b o q n hb _=>aa.1 b o (kp b o q n hb),fun b o q n hb _=>?_,fun b o q n _=>?_,fun b o q _=>?_,fun b xs q=>F.un.tups b xs (I.base.tups b xs q),fun b o u q=>F.un.frzs b o u (I.base.frzs b o u q),fun b ps q=>?_⟩,
  F.hok.stays fun b u e o q=>?_,B,t,aa,kp,ep,tB⟩,hE⟩
 ·obtain⟨sl,q1⟩:=I.base.slot b o q n hb (nx b);obtain⟨af,q2⟩:=F.un.any q1 (I.base.free b o q n (nx b)) (nx b);obtain⟨_,o3,q3,nf⟩:=fl.2.2.1.mem (show b∈frs (ij qual scope s.heap.objs.size f cd::outer)from bw _ hb);rw[q2]at q3;cases q3;obtain⟨ac,q4⟩:=sm b _ q2 nf;exact⟨ac,q4⟩
 ·obtain⟨o1,q1⟩:=I.base.there b o q (nx b);exact F.un.free b o1 q1 (I.base.free b o q n (nx b)) (nx b)
 ·rcases ep b o q with z|⟨o',z⟩
  ·obtain⟨_,o3,q3,_⟩:=aa.2.2.1.mem (show b∈frs outer from z);exact⟨o3,q3⟩
  ·exact⟨o',aa.1 b o' z⟩
 ·exact F.un.tbls b _ (I.base.tbls b ps q)
 ·obtain⟨o',z⟩:=tB b u e;have:=fl.1 b o' z;rw[q]at this;cases this;exact aa.1 b o z
end
end
section
def veB:List bb:=[.type "ValueError",.type "Exception",.type "BaseException",.type "object"]
theorem Ks{K:bj}{h:Heap}{N:Addr}{mg:Str->Option bb}{n:Str}{v:bb}(X:K.In h)(G:h.Ns N mg)(e:W.nsIn K N n=some (some v)):mg n=some v:=by
 obtain⟨o,es,ep,ho,hd,_,hf⟩:=G;unfold W.nsIn at e;split at e
 ·rename_i c d z n' sl q;have:=X _ _ q;rw[ho]at this;cases this;cases hd;split at e
  ·rename_i en he;cases e;rw[<- hf];unfold nsFind findBy;rw[<- Array.find?_toList,he];rfl
  ·split at e<;>cases e
 ·cases e
structure ExCls(K:bj)(C:Addr)(ini:Option bb):Prop where
 ob:∀h,K.In h->∃bm N nm qn bs hd sn sub ab col dd k0 k1 k2 k3 k5 mN,h.get? C=some (excClassObj nm qn C N bs bm hd sn sub ab col dd k0 k1 k2 k3 k5 "ValueError.__new__")/\h.Ns N mN/\mN "__init__" = ini/\OwnTail h veB bm/\∀D,W.mroIn K C D=some ((bu C::bm).contains D)
 ty:(om K C).isSome=true/\W.typeIn K (.ref C)=some (.type "type")
theorem exc_of_in{K:bj}{C:Addr}(q:W.excIn K C veB "ValueError.__new__" = true):ExCls K C none:=by
 unfold W.excIn at q;split at q
 ·rename_i dd cd sl ho;split at q
  ·rename_i C' bm k0 k1 k2 k3 n k5 hm hs;simp only[jq,beq_iff_eq,Bool.not_eq_true']at q;obtain⟨⟨⟨⟨⟨rfl,rfl⟩,z⟩,ht⟩,hok⟩,aa⟩:=q;obtain⟨nm,bs,mro,ns,qn,hd,sn,sub,ab,col,del⟩:=cd;dsimp only at hm z hok aa;subst hm z;have ac:sl = #[k0,k1,k2,k3,some (.builtin "ValueError.__new__"),k5]:=by
    obtain⟨l⟩:=sl;simp only at hs;rw[hs]
   subst ac;refine⟨fun h X=>⟨bm,ns,nm,qn,bs,hd,sn,sub,ab,col,dd,k0,k1,k2,k3,k5,h.nsMap ns,X _ _ ho,.of_isNs (W.isNs_of_in X hok),W.ns_none_of X (.of_isNs (W.isNs_of_in X hok)) aa,W.tail_of_in X ht,fun D=>?_⟩,?_,?_⟩
   ·unfold W.mroIn om;rw[ho];rfl
   ·unfold om;rw[ho];rfl
   ·show Option.map (fun x:Obj=>x.cls) (K.lookup C')=_;rw[ho];rfl
  ·cases q
 ·cases q
section
variable {K:bj}{h:Heap}{C G:Addr}{ini iniG:Option bb}
variable {M:Model}{A:cz}{E:bb->be->Prop}{g:Array GenState}{d:Drawn}{t:Nat}{os:OsState}{e:Addr}{oe:Obj}{Q:Bool->be->Prop}
theorem LB(X:K.In h)(qC:ExCls K C ini)(qG:ExCls K G iniG)(he:h.get? e=some oe)(aa:oe.cls=.ref C)(z:W.mroIn K C (.ref G)=some true)(hq:Q true ⟨h,g,d,t,os⟩):bo M A (excMatches (.ref e) (.ref G)) Q E ⟨h,g,d,t,os⟩:=by
 obtain⟨tl,N,nm,qn,bs,hd,sn,sub,ab,col,dd,k0,k1,k2,k3,k5,mN,hC,_,_,T,mr⟩:=qC.ob h X;obtain⟨ae,N',am,al,ai,ak,ah,af,ao,ag,an,j0,j1,j2,j3,j5,aj,hG,_,_,T',_⟩:=qG.ob h X;replace z:(bu C::tl).contains (.ref G)=true:=by rw[mr]at z;exact fc z
 have ac:(bu G::ae).contains (.type "BaseException")=true:=by rw[List.contains_cons,T'.hasType (b:=true) (by decide +kernel),Bool.or_true]
 have f:=tc_notTuple;unfold excMatches
 repeat (first|(with_reducible refine gv he ?_;rw[aa])|with_reducible refine gv hG ?_|(with_reducible refine wpAny_isSubtype_exc hG ?_;rw[ac])|(with_reducible refine wpAny_isSubtype_exc hC ?_;rw[z])|wp_step)
 exact hq
end
end
section
def PEX(X:Cx)(e:Expr)(t:XK->TE):Prop:=∀(zf:List (Addr×Obj)) (s:be) (σ:St) (H:Hp) (Q:VK) (Ex:XK) (E':bb->be->Prop),Inv X zf σ H s->t Ex σ H Q ->
 (∀H1 s1 v s',Inv X zf σ H1 s1->CX1 X.prog X.w X.stack H1 s1 Ex v s'->E' v s')->bo (model X.prog X.w) X.A (eval e X.env) (EP X zf σ Q) E' s
def PSX(X:Cx)(st:Stmt)(t:XK->TS):Prop:=∀(zf:List (Addr×Obj)) (s:be) (σ:St) (H:Hp) (D:Ends) (Ex:XK) (E':bb->be->Prop),Inv X zf σ H s->t Ex D σ H ->
 (∀H1 s1 v s',Inv X zf σ H1 s1->CX1 X.prog X.w X.stack H1 s1 Ex v s'->E' v s')->bo (model X.prog X.w) X.A (exec st X.env) (SP X zf D) E' s
section
variable {X:Cx}{k:Nat}{f:Addr}{fd:jm}{ps:List Str}{sp:Sp}{x:Str}{p pos:Pos}{e e1:Expr}{es:List Expr}{t:TA}{te:TE}{tx:XK->TE}
theorem KC(hx:∀e s,X.xe e s->False)(F:FnOk X.prog X.w X.K X.mg X.base (CX1 X.prog X.w) k f fd ps sp)(hr:Room k X.A)(hg:Gl X x)(hm:X.mg x=some (.ref f))(hk:mf X.K (.ref f)=true)(hb:Binds X.K fd ps [])
  (ha:PA X (e::es) t) (hdb:(x==("__debug__":Str))=false:=by decide) (he:cp (e::es) X.env=(false,eval e X.env)::cp es X.env:=by rfl) (hpl:(kx pos (cp es X.env)).any (·.1)=false:=by rfl):
  PEX X (.Call (.Name x p) (e::es) [] pos) (fun Ex σ H Q=>t σ H fun vs H1=>sp vs H1 Q Ex):=by
 intro zf s σ H Q Ex E' I h hX;refine jb (nV I hg hm ?_ hdb);refine W.callWith_K (h₀:=X.base) I.ok.mod.kin hk (gm (ha pos zf s σ H _ I h) (fun us s1 ⟨vs,H1,I1,r,q⟩=>⟨I1.kIn,?_⟩) fun _ _ z=>(hx _ _ z).elim) he hpl;have hl:us.length=ps.length:=by rw[<- r.length];exact F.len _ _ _ _ q
 have aa:=hb s1 us I1.kIn (by rw[gq];exact hl);rw[gq]at aa;refine wpAny_call (ml (F.run X.A X.stack s1 H1 ⟨us,[]⟩ us vs Q Ex hr I1.env0 aa r q) fun r s' hq=>?_);cases r with
 |error e=>exact hX H1 s1 e s' I1 hq
 |ok fl=>
  cases fl with
  |ret u=>exact I1.after hq
  |next=>exact fu hq
  |brk=>exact fu hq
  |cont=>exact fu hq
theorem IK(he:PEX X e tx)(hs:swapsWith e none pos.line X.env=pure false:=by rfl):PSX X (.Expr e pos) (fun Ex=>oO (tx Ex)):=by
 intro zf s σ H D Ex E' I h hX;exact wpAny_Expr_any (thn (he zf s σ H _ Ex E' I h hX) fun v s1 ⟨x,H1,I1,r1,q1⟩=>⟨σ,H1,I1,q1⟩) I.quiet hs
end
theorem G4{P:bz}{w:dh}{H:Hp}{h:Heap}{a C:Addr}{o:Obj}(e:h.get? a=some o)(c:o.cls=.ref C)(hf:∃vs,o.data=.fields vs/\vs[2]?=some .none):ObjOk P w H h a (exO a C o.dict):=
 ⟨⟨o,e,c,rfl,hf⟩,⟨o,e⟩,fun h1 h2 ⟨o,e,c,d⟩ k=>⟨o,k o e,c,d⟩⟩
abbrev Cx.suite (X:Cx) (a:Addr):Cx:={ X with A:=X.A.mark (some (.ref a)),calm:=false,xe:=fun _ _=>False }
theorem Cx.Ok.suite{X:Cx}(ok:X.Ok)(a:Addr):(X.suite a).Ok:=
 ⟨ok.mod,ok.kind,ok.glob,ok.blt,ok.above,ok.inj,ok.has,ok.cab,(fun z=>Bool.noConfusion z),ok.frames,ok.stk,ok.exf,ok.bs,ok.bsz,ok.noex,ok.exfs,ok.funs,ok.frf⟩
section
variable {X:Cx}{zf:List (Addr×Obj)}{σ:St}{H:Hp}{s:be}{a:Addr}
theorem Inv.suite(I:Inv X zf σ H s)(a:Addr):Inv (X.suite a) zf σ H s:=⟨I.ok.suite a,I.os,I.bare,I.base,I.loc,I.cell,I.free,I.freeC,I.pin,I.hok,I.len⟩
theorem Inv.unsuite(I:Inv (X.suite a) zf σ H s)(ok:X.Ok):Inv X zf σ H s:=⟨ok,I.os,I.bare,I.base,I.loc,I.cell,I.free,I.freeC,I.pin,I.hok,I.len⟩
theorem Inv.gone{h':Heap}{m':Str->Option bb}{t':Nat}(I:Inv X zf σ H s)(hn:h'.Ns X.env.locals m')(sb:gu X.env.locals s.heap h'):Inv X zf (bg X.N.length none) H { s with heap:=h',toks:=t' }:=by
 have ne:∀b o,X.s₀.heap.get? b=some o->b≠X.env.locals:=fun b o e=>gf (fk (dn e) I.ok.above);refine⟨I.ok,I.os,I.bare,⟨fun b o e n hb hx=>?_,fun b o e n hb hx=>?_,I.base.free,fun b o e hx=>?_,I.base.tups,I.base.frzs,I.base.tbls⟩,⟨m',hn,fun i x v _ e2 _=>?_⟩,fun x c e=>?_,I.free,I.freeC,fun p hp=>?_,I.hok.stays fun b u e o q=>?_,yv⟩
 ·exact(sb.2 b (ne b o e)).trans (I.base.keep b o e n hb hx)
 ·obtain⟨sl,q⟩:=I.base.slot b o e n hb hx;exact⟨sl,(sb.2 b (ne b o e)).trans q⟩
 ·obtain⟨o',q⟩:=I.base.there b o e hx;exact⟨o',(sb.2 b (ne b o e)).trans q⟩
 ·rw[List.getElem?_replicate]at e2;split at e2<;>cases e2
 ·obtain⟨v,o,ho,hd⟩:=I.cell x c e;exact⟨v,o,(sb.2 c (I.cne x c e)).trans ho,hd⟩
 ·obtain⟨e,n,z,nf,d⟩:=I.pin p hp;exact⟨(sb.2 _ z).trans e,n,z,nf,d⟩
 ·refine(sb.2 b ?_).trans q;rintro rfl;rw[I.free]at e;cases e
end
section
variable {X:Cx}{G n:Str}{gp hpos pos:Pos}{i:Nat}{b₀ st:Stmt}{suite:List Stmt}{GA:Addr}{iniG:Option bb}{tb:XK->TS}{ts:TS}
def caught(K:bj)(GA:Addr)(i:Nat)(ts:TS)(D:Ends)(σ:St):XK:=fun cls a H'=>∃C b ini,cls=.ref C/\a=some b/\ExCls K C ini/\W.mroIn K C (.ref GA)=some true /\
 ts { nx:=fun _ _=>False,rt:=D.rt } (σ.set i (some (.ref b))) H'
def yL(K:bj)(GA:Addr)(i:Nat)(tb:XK->TS)(ts:TS):TS:=fun D σ H=>tb (caught K GA i ts D σ) D σ H
theorem Hi(hx:∀e s,X.xe e s->False)(ac:X.stack=X.env::X.outer)(au:X.env.frame=some X.env.locals)(hN:X.N.Nodup)(hi:X.N[i]?=some n)(hl:X.env.kindOf n=some .local)(hg:Gl X G)(hm:X.mg G=some (.ref GA))(qG:ExCls X.K GA iniG)
  (hb:PSX X st tb) (hs:∀a,PSs (X.suite a) (b₀::suite) ts) (hdb:(G==("__debug__":Str))=false:=by decide):
  PS X (.Try [st] [.ExceptHandler (some (.Name G gp)) (some n) (b₀::suite) hpos] [] [] pos) (yL X.K GA i tb ts):=by
 intro zf s σ H D I h;refine wpAny_Try_except (wpAny_execs_cons (gm (hb zf s σ H D _ (fun e s₁=>bo (model X.prog X.w) X.A (noteFrame e X.env) (fun _ s₂=>bo (model X.prog X.w) X.A (setFlight e none) (fun _ s₃=>bo (model X.prog X.w) X.A (handleBy e X.env [.ExceptHandler (some (.Name G gp)) (some n) (b₀::suite) hpos]) (SP X zf D) X.xe s₃) X.xe s₂) X.xe s₁) I h ?_) (fun fl s1 q=>?_) fun _ _ z=>z))
 rotate_left
 ·cases fl with
  |next=>exact li (li q)
  |ret v=>exact q
  |brk=>exact q
  |cont=>exact q
 intro H1 s1 v s' I1 cx;obtain⟨H',a,C,dx,rfl,F,C',b,ini,eC,eb,qC,as,ak⟩:=cx;cases eC;cases eb;obtain⟨B,t,fl,kB,eB,tB⟩:=F.fl;rw[ac]at fl;have frames:X.A.frames=some (X.env::X.outer):=by rw[I1.ok.frames,ac]
 refine HA frames au fl fun h₄ ag am=>?_;refine Kd ag fun h₅ ae az=>?_;have bB:∀b o,X.base.get? b=some o->B.get? b=some o:=fun b o e=>kB b o (I1.bk b o e) (I1.bs b o e).2 fun z=>by
  have:=(I1.stack.mem z).1;rw[e]at this;cases this
 have kin:X.K.In h₅:=I1.ok.mod.kin.keeps fun b o e=>ae.1 b o (bB b o e);obtain⟨oe,aq,aw,_⟩:=ae.there;refine wpAny_handleBy_cons (codeAny_handlers_test ?_) (by intro q;cases q);refine Calls.Name_function_global I1.ok.kind hg (Calls.loadGlobal_global (by rw[I1.ok.glob];exact I1.mod.glob.keeps fun b o e=>ae.1 b o (bB b o e)) hm ?_) hdb;refine LB kin qC qG aq aw as (codeAny_handlers_suite_as ?_);refine JV ae fun h₆ aa ap=>?_;obtain⟨ar,af,ai,aj⟩:=aa.there;subst aj;have sm:s'.heap.UpToSlots h₆:=(am.trans az).trans ap;have na:H' a=none:=by
  cases z:H' a with
  |none=>rfl
  |some u=>
   obtain⟨o,q⟩:=tB a u z;rw[fl.2.1]at q;cases q
 have ax:∀b o,s1.heap.get? b=some o->b≠a:=fun b o q z=>by
  subst z;rcases eB b o q with z|⟨o',z⟩
  ·rw[ac]at z;obtain⟨_,o2,q2,nf⟩:=aa.2.2.1.mem z;obtain⟨ay,av,q7,_,d7,_⟩:=aa.first
   rw[q2]at q7;cases q7;exact nf _ d7
  ·rw[fl.2.1]at z;cases z
 have I6:Inv X zf σ (upd H' a (exO a C ar.dict)) { s' with heap:=h₆ }:=by
  refine I1.call' (ch:=[]) F.os ⟨fun b o q n hb _=>aa.1 b o (kB b o q n hb),fun b o q n hb _=>?_,fun b o q n _=>?_,fun b o q _=>?_,fun b xs q=>?_,fun b o u q=>?_,fun b ps q=>?_⟩ ?_ F.bare (fun b z=>absurd z yv)
  ·obtain⟨sl,q1⟩:=F.un.any q n yv;rw[ac]at hb;obtain⟨_,o3,q3,nf⟩:=fl.2.2.1.mem hb;rw[q1]at q3;cases q3;obtain⟨al,q4⟩:=sm b _ q1 nf;exact⟨al,q4⟩
  ·rw[zE (ax b o q)];exact F.un.free b o q n yv
  ·rcases eB b o q with z|⟨o',z⟩
   ·rw[ac]at z;obtain⟨_,o3,q3,_⟩:=aa.2.2.1.mem z;exact⟨o3,q3⟩
   ·exact⟨o',aa.1 b o' z⟩
  ·have q2:=F.un.tups b xs q;rw[zE (zG q2 na)];exact q2
  ·have q2:=F.un.frzs b o u q;rw[zE (zG q2 na)];exact q2
  ·have q2:=F.un.tbls b ps q;rw[zE (zG q2 na)];exact q2
  ·intro b u q;by_cases hb:b=a
   ·subst hb;rw[zP]at q;cases q;exact G4 af ai (by
     obtain⟨ay,av,q7,_,d7,e7⟩:=aa.first2;rw[af]at q7;cases q7;exact⟨_,d7,e7⟩)
   ·rw[zE hb]at q;refine(F.hok b u q).stay (fun c v hc q1=>?_) (fun c q1=>by rw[zE (zG q1 na)];exact q1) fun c xs q1=>by rw[zE (zG q1 na)];exact q1
    have tr:∀c u,H' c=some u->s'.heap.get? c=some v->h₆.get? c=some v:=fun c u e q1=>by
     obtain⟨o',z⟩:=tB c u e;have:=fl.1 c o' z;rw[q1]at this;cases this;exact aa.1 c v z
    rcases hc with rfl|hc
    ·exact tr _ _ q q1
    ·exact tr _ _ hc q1
 have a1:σ.length=X.N.length:=I6.len;refine sZ (v:=.ref a) I6 hN hi (.inl hl) rfl (fun s7 I7=>?_) (.inr hl);refine gm (hs a zf s7 _ _ _ (I7.suite a) ak) (fun f8 s8 q=>?_) fun _ _ z=>z.elim;cases f8 with
 |ret u=>
  obtain⟨w,σ8,H8,I8,r8,q8⟩:=q;have J:=I8.unsuite I6.ok;obtain⟨m8,ao,_⟩:=J.loc;have ah:(X.env.scope.kind==.class||(X.env.scope.kind==.module&&X.env.locals != X.env.globals))=false:=by rw[J.ok.kind];rfl
  refine wpAny_nameGoes hl ao ah fun h9 m9 an a0=>?_;exact⟨w,_,H8,J.gone an a0,r8,q8⟩
 |next=>obtain⟨_,_,_,z⟩:=q;exact z.elim
 |brk=>obtain⟨_,_,_,z⟩:=q;exact z.elim
 |cont=>obtain⟨_,_,_,z⟩:=q;exact z.elim
end
end
section
structure RoomN(k:Nat)(A:cz):Prop where
 dp:A.depth+3*k+5<recursionLimit
 un:A.units+16*k+200<gz
theorem Room.suite{k:Nat}{A:cz}(r:Room k A)(a:Addr):RoomN k (A.mark (some (.ref a))):=⟨r.dp,r.un⟩
theorem RoomN.mono{j k:Nat}{A:cz}(r:RoomN k A)(h:j<=k):RoomN j A:=⟨by have:=r.dp;omega,by have:=r.un;omega⟩
theorem RoomN.deeper{k:Nat}{A:cz}(r:RoomN (k+1) A)(env:Env):RoomN k (A.deeper env):=
 ⟨by have:=r.dp;show A.depth+1+3*k+5<_;omega,by have:=r.un;show A.units+3+16*k+200<_;omega⟩
theorem RoomN.depth{k:Nat}{A:cz}(r:RoomN k A):A.depth<recursionLimit:=by have:=r.dp;omega
theorem RoomN.units{k:Nat}{A:cz}(r:RoomN k A):A.units+64<gz:=by have:=r.un;omega
structure FnOkN(P:bz)(w:dh)(K:bj)(mg:Str->Option bb)(base:Heap)(CX:CXT)(k:Nat)(f:Addr)(fd:jm)(ps:List Str)(sp:Sp):Prop where
 len:∀vs H Q E,sp vs H Q E->vs.length=ps.length
 run:∀(A:cz) (outer:List Env) (s:be) (H:Hp) (args:Args) (us:List bb) (vs:List V) (Q:VK) (E:XK),RoomN k A->Env0 P w K mg base A outer s H->BindsTo s fd args (ps.zip us)->Vals vs us->sp vs H Q E ->
  me (model P w) A (.call (.ref f) args) (CR CX outer P w H s Q E) s
abbrev cxN (P:bz) (w:dh) (K:bj) (mg:Str->Option bb) (base:Heap) (N:List Str) (qual:Str) (scope:Scope) (f:Addr) (cd:bb) (A:cz) (outer:List Env) (s:be) (H:Hp):Cx:=
 { cE CX0 P w K mg base N qual scope f cd A outer s H E0 with calm:=false,xe:=fun _ _=>False }
section
variable {P:bz}{w:dh}{K:bj}{mg:Str->Option bb}{base:Heap}{k:Nat}
theorem Ip{f:Addr}{name qual:Str}{ac:Arguments}{ae:List Stmt}{scope:Scope}{dV kV ah pm aa ct oc:bb}{an od:Option Addr}
  {osl:Array (Option bb)}{N ps:List Str}{sp:Sp} (lk:K.lookup f=some ⟨oc,od,.func (W.fnOf name qual ac ae scope dV kV ah pm an aa ct),osl⟩) (hcd:W.codeIn K aa qual=true) (S:FnScope N ps scope)
  (len:∀vs H Q E,sp vs H Q E->vs.length=ps.length)
  (hbody:∀(A:cz) (outer:List Env) (s:be) (H:Hp) (vs:List V) (Q:VK) (E:XK),RoomN k (A.deeper (ij qual scope s.heap.objs.size f aa))->sp vs H Q E ->
   ∃t,PSs (cxN P w K mg base N qual scope f aa A outer s H) ae t/\t { nx:=fun _ H'=>Q .non H',rt:=Q } (start N vs) H):
  FnOkN P w K mg base CX0 (k+1) f (W.fnOf name qual ac ae scope dV kV ah pm an aa ct) ps sp:=by
 refine⟨len,fun A outer s H args us vs Q E hr e0 hb r ag=>?_⟩;have hl:=len _ _ _ _ ag;have KX:K.In s.heap:=e0.mod.kin.keeps fun b o e=>(e0.bs b o e).1;have ai:s.heap.NoLimit:=e0.mod.nolimit.keeps fun b o e=>(e0.bs b o e).1;have af:∀y∈ps.zip us,scope.names.lookup y.1=some .local\/(scope.names.lookup y.1=some .cell/\((cellsFrom (s.heap.objs.size+1) scope.names []).lookup y.1).isSome=true):=fun⟨n,v⟩ hy=>by
  rcases S.par n (of_mem_zip hy).1 with q|q
  ·exact .inl q
  ·exact .inr ⟨q,W.cellsFrom_some _ _ _ (.inl q)⟩
 refine codeAny_call_function hr.depth (KX _ _ lk) rfl S.co S.gen rfl (W.codeRec_of KX hcd) (hb _ _ _ _ ?_);refine wpAny_newFunctionEnv_cells S.kind af fun env he s1 x=>?_;subst he;refine⟨ai.keeps x.toInCall.keep,codeAny_func ?_⟩;obtain⟨t,ht,hq⟩:=hbody A outer s H vs Q E (hr.deeper _) ag;have e1:Env0 P w K mg base { A with handled:=none } outer s H:=⟨e0.frames,e0.mod,e0.bs,e0.bsz,e0.funs,e0.frf,e0.hok,e0.bare⟩;have I0:Inv (cE CX0 P w K mg base N qual scope f aa { A with handled:=none } outer s H E0) [] (start N vs) H s1:=AF S rfl e1 hl r x;have I:Inv (cxN P w K mg base N qual scope f aa A outer s H) [] (start N vs) H s1:=
  ⟨⟨I0.ok.mod,I0.ok.kind,I0.ok.glob,I0.ok.blt,I0.ok.above,I0.ok.inj,I0.ok.has,I0.ok.cab,(fun z=>Bool.noConfusion z),Around.frames_deeper e0.frames,I0.ok.stk,I0.ok.exf,I0.ok.bs,I0.ok.bsz,I0.ok.noex,I0.ok.exfs,I0.ok.funs,I0.ok.frf⟩,
   I0.os,I0.bare,I0.base,I0.loc,I0.cell,I0.free,I0.freeC,I0.pin,I0.hok,I0.len⟩
 refine gm (ht [] s1 (start N vs) H _ I hq) (fun fl s' hs=>?_) fun e s' hs=>hs.elim;have fin:∀{σ':St}{H':Hp}{v:V}{u:bb},Inv (cxN P w K mg base N qual scope f aa A outer s H) [] σ' H' s'->RelV v u->Q v H'->CE outer P w H s Q u s':=
  fun {σ' H' v u} J rv q=>⟨v,H',J.os,J.bare,J.base,J.hok,rv,q⟩
 cases fl with
 |ret u=>
  obtain⟨v,σ',H',J,rv,q⟩:=hs;exact fin J rv q
 |next=>
  obtain⟨σ',H',J,q⟩:=hs;exact fin (v:=V.non) (u:=gh) J rfl q
 |brk=>
  obtain⟨_,_,_,q⟩:=hs;exact fu q
 |cont=>
  obtain⟨_,_,_,q⟩:=hs;exact fu q
end
structure DfN(P:bz)(w:dh)(K:bj)(mg:Str->Option bb)(base:Heap)(x:Str)(ps:List Str)(k:Nat)(sp:Sp):Prop where
 ex:∃f fd,FnOkN P w K mg base CX0 k f fd ps sp/\mg x=some (.ref f)/\mf K (.ref f)=true/\Binds K fd ps []
section
variable {P:bz}{w:dh}{K:bj}{mg:Str->Option bb}{base:Heap}{x:Str}{st:Stmt}{N ps:List Str}{k:Nat}
theorem DfN.dN{q:PN}(D:Dd K mg x st ps)(S:FnScope N ps (zh st))(n:Nat)(hn:N.length=ps.length+n)
  (hbody:∀(f:Addr) (z:bb) (A:cz) (outer:List Env) (s:be) (H:Hp),RoomN k (A.deeper (ij x (zh st) s.heap.objs.size f z)) ->
   ∃t dt,PSs (cxN P w K mg base N x (zh st) f z A outer s H) (cL st) t/\RS t dt/\∀xs S R,q xs S R->dt (aD S.length R) (xs.map some++bg n none) S):DfN P w K mg base x ps (k+1) (spN ps q):=by
 obtain⟨f,fd,F,hm,hb⟩:=D.ex;have kp:=F.kp;obtain⟨oc,od,kV,af,pm,an,z,ct,ae,rfl,lk,ac⟩:=F.ex;refine⟨f,_,Ip lk ac S (fun vs H Q E h=>h.1) fun A outer s H vs Q E hr ⟨hl,h,o,S',xs,R,aa,hx,hq,c⟩=>?_,hm,kp,hb⟩;obtain⟨t,dt,h1,h2,h3⟩:=hbody f z A outer s H hr;refine⟨t,h1,h2 h o H _ _ S' _ _ ?_ aa (h3 xs S' R hq) (eok aa c)⟩;have e:N.length-vs.length=n:=yw
 unfold start;rw[e];exact uH hx
end
section
variable {X:Cx}{x:Str}{ps:List Str}{k j:Nat}{pos pos':Pos}{e:Expr}{es:List Expr}{t:TA}
theorem vW{q:PN}(D:DfN X.prog X.w X.K X.mg X.base x ps k (spN ps q))(hr:RoomN j X.A)(hk:k<=j)(ha:PA X (e::es) t)(hg:Gl X x:=by rfl)(aa:(x==("__debug__":Str))=false:=by decide)
  (q1:cp (e::es) X.env=(false,eval e X.env)::cp es X.env:=by rfl) (q2:((kx pos (cp es X.env)).any fun x=>x.fst)=false:=by rfl):PE X (.Call (.Name x pos') (e::es) [] pos) (fQ (spN ps q) [] E0 t):=by
 obtain⟨f,fd,F,hm,kp,hb⟩:=D.ex;intro zf s σ H Q I h;refine jb (nV I hg hm ?_ aa);refine W.callWith_K (h₀:=X.base) I.ok.mod.kin kp (thn (ha pos zf s σ H _ I h) fun us s1 ⟨vs,H1,I1,r,q5⟩=>⟨I1.kIn,?_⟩) q1 q2;have q':spN ps q vs H1 Q E0:=by simpa using q5
 have hl:us.length=ps.length:=by rw[<- r.length];exact F.len _ _ _ _ q'
 have z:=hb s1 us I1.kIn (by rw[gq];exact hl);rw[gq]at z;refine wpAny_call (ml (F.run X.A X.stack s1 H1 ⟨us,[]⟩ us vs Q E0 (hr.mono hk) I1.env0 z r q') fun r s' hq=>?_);cases r with
 |error e=>exact hq.elim
 |ok fl=>
  cases fl with
  |ret u=>exact I1.after hq
  |next=>exact fu hq
  |brk=>exact fu hq
  |cont=>exact fu hq
end
end
end L2
namespace L2
open PySem PySem.Spec PySem.Calls PyProof.Rows PySem.W PySem.Builtin PySem.Builtin.ObjectAttr PySem.Builtin.Getset_descriptor
section
variable {prog:bz}{w:dh}{A:cz}{E:bb->be->Prop}{h:Heap}{g:Array GenState}{d:Drawn}{t:Nat}{os:OsState}{K:bj}{x C:Addr}{ox:Obj}{od:Option Obj}{name:Str}{tk:Tok}
theorem KY{tp:bb}{R:Result->be->Prop}(X:K.In h)(T0:∀M,Looks M h (typeOf (.ref x)) (.ref C))(hm:mroIn K C (.type "object")=some true)
  (hr:R (.ok (.ret (.ref C))) ⟨h,g,d,t,os⟩):me (model prog w) A (.call (.builtin "getset_descriptor.__get__") ⟨[.builtin "object.__class__",.ref x,tp],[]⟩) R ⟨h,g,d,t,os⟩:=by
 have L0:=T0 (model prog w);have L1:=looks_mroIn (M:=model prog w) X hm;refine codeAny_call_builtin KF.slot_gs.plain KF.entry_gs (KF.slot_gs.check _ _ _ _ _ _ _ _ KF.type_class (KF.args_gs _ _ _) ?_);unfold jn.«getset_descriptor.__get__» descrGet;rw[dga_obj];refine bc (bh ?_);unfold descrGetter descrCheckInstance descrNameAndClass isInstance;simp only[KF.owner_class]
 repeat lk
 refine⟨Code.quiet_builtin _ (by decide +kernel),lq KF.entry_class ?_⟩;unfold jn.«object.__class__» shownTypeOf
 repeat lk
 exact hr
theorem EE{M:Model}{a gt:bb}(X:K.In h)(ha:findIn K (.ref C) name=some (some a))(hg:specialIn K a "__get__" = some (some gt))(hd:takesIn K a=some true):Looks M h (find (.ref x) (.ref C) name) (.bind gt a):=by
 have L1:=looks_findIn (M:=M) X ha;have L2:Looks M h (getOf (some a)) (some gt):=looks_specialIn X hg;refine L1.andThen (L2.andThen ?_);have L3:=looks_takesIn (M:=M) X hd;exact(show Looks M h (dataDescriptor? (some a) (some gt)) (some (gt,a))from L3.andThen .now).andThen (Looks.tag .now)
theorem Jv{M:Model}{z:bb}{Q:Unit->be->Prop}(X:K.In h)(T0:∀M,Looks M h (typeOf (.ref x)) (.ref C))(hB:mroIn K C (.type "BaseException")=some true)(hq:Q () ⟨h,g,d,t,os⟩):
  bo M A (checkBuiltinCall "BaseException.__getattribute__" ⟨[.ref x,z],[]⟩) Q E ⟨h,g,d,t,os⟩:=by
 have hk:builtinKind "BaseException.__getattribute__" = some .slot:=by decide +kernel
 have aa:splitId "BaseException.__getattribute__" = some ("BaseException","__getattribute__"):=by decide +kernel
 have ha:=F.args_bexc_ga (.ref x) z;simp only[checkBuiltinCall,hk,aa];refine bc ?_;have L0:=T0 M;have L1:=looks_mroIn (M:=M) X hB;have L2:Looks M h (isInstance (.ref x) (.type "BaseException")) true:=L0.andThen L1;refine L2.at ?_
 repeat (any_goals (first|assumption|wp_step))
theorem FO{v:bb}{Q:Fin->be->Prop}(X:K.In h)(T0:∀M,Looks M h (typeOf (.ref x)) (.ref C))(hf:Looks (model prog w) h (find (.ref x) (.ref C) name) (.value v))(hq:Q (.done (.ret v)) ⟨h,g,d,t,os⟩):
  bo (model prog w) A (jn.«object.__getattribute__» ⟨[.ref x,.str name tk],[]⟩) Q E ⟨h,g,d,t,os⟩:=by
 have L0:=T0 (model prog w);have L1:=hf;unfold jn.«object.__getattribute__»
 repeat (any_goals (first|assumption|with_reducible refine L0.at ?_|with_reducible refine L1.at ?_|wp_step))
theorem LL{Q:Fin->be->Prop}(X:K.In h)(T0:∀M,Looks M h (typeOf (.ref x)) (.ref C))(hm:mroIn K C (.type "object")=some true)(hf:Looks (model prog w) h (find (.ref x) (.ref C) "__class__") (.bind (.builtin "getset_descriptor.__get__") (.builtin "object.__class__")))
  (hq:Q (.done (.ret (.ref C))) ⟨h,g,d,t,os⟩):bo (model prog w) A (jn.«object.__getattribute__» ⟨[.ref x,.str "__class__" tk],[]⟩) Q E ⟨h,g,d,t,os⟩:=by
 have L0:=T0 (model prog w);have L1:=hf;unfold jn.«object.__getattribute__»
 repeat (any_goals (first|assumption|with_reducible refine L0.at ?_|with_reducible refine L1.at ?_|(refine wpAny_call (KY X T0 hm ?_))|wp_step))
structure ExAt(K:bj)(C:Addr):Prop where
 ga:findIn K (.ref C) "__getattribute__" = some (some (.builtin "BaseException.__getattribute__"))
 gn:findIn K (.ref C) "__getattr__" = some none
 base:mroIn K C (.type "BaseException")=some true
theorem BK{v:bb}{aa z:Bool}{Q:bb->be->Prop}(X:K.In h)(T0:∀M,Looks M h (typeOf (.ref x)) (.ref C))(F0:ExAt K C)
  (en:∀(A:cz) (Q:Fin->be->Prop) (E:bb->be->Prop),Q (.done (.ret v)) ⟨h,g,d,t,os⟩->bo (model prog w) A (jn.«object.__getattribute__» ⟨[.ref x,.str name tk],[]⟩) Q E ⟨h,g,d,t,os⟩)
  (hv:handedIn v=true) (hq:Q v ⟨h,g,d,t,os⟩):bo (model prog w) A (getAttrBy (.ref x) (.str name tk) aa z) Q E ⟨h,g,d,t,os⟩:=by
 have f3:=F.attrBase_ValueError.ga.bind (.ref x);have hx0:(z&&onTheHeap (Value.builtin "BaseException.__getattribute__"))=false:=by cases z<;>rfl
 have ac:(Value.builtin "BaseException.__getattribute__" == Value.builtin "object.__getattribute__")=false:=by decide +kernel
 have ae:(onTheHeap (bu C)&&Value.builtin "BaseException.__getattribute__" == Value.builtin "object.__getattribute__")=false:=by rw[ac];rfl
 have L0:=T0 (model prog w);have L1:=looks_findIn (M:=model prog w) X F0.ga;have L2:=looks_findIn (M:=model prog w) X F0.gn
 repeat (any_goals (first|assumption|with_reducible refine L0.at ?_|with_reducible refine L1.at ?_|with_reducible refine L2.at ?_|wp_step))
 exact codeAny_call_builtin F.attrBase_ValueError.ga.plain F.entry_bexc_ga (Jv X T0 F0.base (en _ _ _ (handed_on hv hq)))
theorem JW{Q:Option bb->be->Prop}(X:K.In h)(T0:∀M,Looks M h (typeOf (.ref x)) (.ref C))(F0:ExAt K C)(hm:mroIn K C (.type "object")=some true)(hf:Looks (model prog w) h (find (.ref x) (.ref C) "__class__") (.bind (.builtin "getset_descriptor.__get__") (.builtin "object.__class__")))
  (hq:Q (some (.ref C)) ⟨h,g,d,t+1,os⟩):bo (model prog w) A (getAttr? (.ref x) "__class__") Q E ⟨h,g,d,t,os⟩:=by
 unfold getAttr? getAttrBy?;refine bc (wpAny_mkText (bc (wpAny_attempt (BK (t:=t+1) X T0 F0 (fun A Q E q=>LL X T0 hm hf q) rfl ?_))));exact bh hq
theorem JO{v:bb}{z:Bool}{Q:bb->be->Prop}(X:K.In h)(T0:∀M,Looks M h (typeOf (.ref x)) (.ref C))(F0:ExAt K C)(hf:Looks (model prog w) h (find (.ref x) (.ref C) name) (.value v))(hv:handedIn v=true)
  (hq:Q v ⟨h,g,d,t+1,os⟩):bo (model prog w) A (getAttr (.ref x) name z) Q E ⟨h,g,d,t,os⟩:=by
 unfold getAttr;exact bc (wpAny_mkText (BK (t:=t+1) X T0 F0 (fun A Q E q=>FO X T0 hf q) hv hq))
end
end L2
namespace L2
open PySem PySem.Spec PySem.Calls PyProof.Rows
structure SpK(K:bj):Prop where
 hn:W.specialIn K (.builtin "object.__class__") "__get__" = some (some (.builtin "getset_descriptor.__get__"))
 ht:W.takesIn K (.builtin "object.__class__")=some true
def exM(C:Addr):List bb:=[.ref C,.ref 24,.type "ValueError",.type "Exception",.type "BaseException",.type "object"]
structure ExK(K:bj)(C:Addr):Prop where
 ty:W.typeIn K (.ref C)=some (.type "type")
 ga:nj K (.ref C) "__getattribute__" = some (some (.builtin "BaseException.__getattribute__"))
 gn:nj K (.ref C) "__getattr__" = some none
 cls:nj K (.ref C) "__class__" = some (some (.builtin "object.__class__"))
 mro:∃cd,om K C=some cd/\cd.mro=exM C
theorem ExK.mk'{K:bj}{C:Addr}{cd:ClassData}(a:W.typeIn K (.ref C)=some (.type "type"))(b:nj K (.ref C) "__getattribute__" = some (some (.builtin "BaseException.__getattribute__")))(c:nj K (.ref C) "__getattr__" = some none)
  (d:nj K (.ref C) "__class__" = some (some (.builtin "object.__class__"))) (e:om K C=some cd) (f:cd.mro=exM C):ExK K C:=⟨a,b,c,d,cd,e,f⟩
section
variable {K:bj}{x C D:Addr}
theorem ExK.mroIn(E:ExK K C)(v:bb):W.mroIn K C v=some ((exM C).contains v):=by
 obtain⟨cd,h1,h2⟩:=E.mro;unfold W.mroIn;rw[h1];show (if cd.mro.isEmpty=true then none else some (cd.mro.contains v))=_;rw[h2];rfl
theorem ExK.at_(E:ExK K C):ExAt K C:=⟨E.ga,E.gn,(E.mroIn _).trans rfl⟩
def IsEx(x C:Addr)(h:Heap):Prop:=∃o,h.get? x=some o/\o.cls=.ref C
theorem IsEx.ty{h:Heap}(p:IsEx x C h)(M:Model):W.Looks M h (typeOf (.ref x)) (.ref C):=by
 obtain⟨o,e,c⟩:=p;exact c▸(W.Looks.ld e).andThen .now
theorem GW(E0:ExK K C)(S0:SpK K):W.KitX K (.ref x) (.ref C) (IsEx x C) where
 ty:=fun M h _ p=>p.ty M
 it:=fun M h X _=>by
  obtain⟨cd,hc,_⟩:=E0.mro;unfold om at hc;split at hc
  ·rename_i c' d' ae aa ho;intro A' Q' E' s' k q;unfold isType loadHead;exact bc (wpAny_loadPart (k _ _ (X _ _ ho)) (bh q))
  ·cases hc
 ne:=fun h tp dd af n sl X ac=>by
  obtain⟨cd,hc,_⟩:=E0.mro;refine Bool.eq_false_iff.mpr fun q=>?_;have e:C=tp:=Value.ref.inj (beq_iff_eq.mp q);subst e;unfold om at hc;split at hc
  ·rename_i c' d' ae aa ho;have z:=(X _ _ ho).symm.trans ac;cases z
  ·cases hc
 ca:=fun {prog w A E Q s} X p k=>by
  obtain⟨h,g,d,t,os⟩:=s;exact JW X p.ty E0.at_ ((E0.mroIn _).trans rfl) (EE X E0.cls S0.hn S0.ht) k
def excs:List Addr:=[37,49,61,73,85,104,123,142,161,180]
def exc0:List Addr:=[37,49,61,73,85]
structure Exs(K:bj):Prop where
 sp:SpK K
 all:∀C∈excs,ExK K C
 cl:∀C∈exc0,ExCls K C none
 ci:∀C∈excs,∃ini,ExCls K C ini
theorem Exs.kit(E:Exs K)(hC:C∈excs)(hD:D∈excs):W.kitOne K (.ref C) (.ref D)=some (decide (C=D)):=by
 have EC:=E.all C hC;have ED:=E.all D hD;obtain⟨ae,ac,_⟩:=ED.mro;unfold W.kitOne;by_cases h:C=D
 ·subst h;rw[cy yv,ju rfl]
 ·rw[bv (by simpa using h),fx h];show (if ((om K D).isSome&&W.typeIn K (.ref D)==some (.type "type"))=true then W.mroIn K C (.ref D)else none)=_;rw[ac,ED.ty,cy yv,EC.mroIn];have aa:D≠24:=by
   rintro rfl
   revert hD
   decide
  have:(exM C).contains (.ref D)=false:=by
   unfold exM;simp only[List.contains_cons,List.contains_nil,Bool.or_false,Bool.or_eq_false_iff];refine⟨beq_eq_false_iff_ne.mpr fun z=>h (Value.ref.inj z).symm,beq_eq_false_iff_ne.mpr fun z=>aa (Value.ref.inj z),?_⟩;simp
  rw[this]
theorem Exs.kitV(E:Exs K)(hC:C∈excs):W.kitOne K (.ref C) (.type "ValueError")=some true:=by
 have EC:=E.all C hC;unfold W.kitOne;rw[bv yv];show (if W.kitMeta "ValueError" = true then W.mroIn K C (.type "ValueError")else none)=_;rw[cy (by decide +kernel),EC.mroIn];rfl
end
def DR(K:bj):List V->Hp->VK->Prop:=fun xs H Q=>∃a C d c b,xs=[.ref a,c]/\H a=some (exO a C d)/\ExK K C/\SpK K/\(∀u,RelV c u->W.kitOne K (.ref C) u=some b)/\Q (.bl b) H
theorem e8{X:Cx}:CallR X (.builtin "isinstance") (DR X.K):=by
 intro zf s σ H xs us Q I r h;obtain⟨a,C,d,c,b,rfl,ha,E0,S0,hk,q⟩:=h;obtain⟨u,w',rfl,ru,aa⟩:=vals2 r;cases (show u=bu a from ru);obtain⟨⟨o,e,hc,_⟩,_⟩:=(show ObjOk X.prog X.w H s.heap a (exO a C d)from I.hok a _ ha);exact kl (GW E0 S0) I.kIn ⟨o,e,hc⟩ (hk _ aa) (fun z=>nomatch z) fun tk=>⟨.bl b,H,I.tok tk,rfl,q⟩
def cZ:List XV->Sto->RX->Prop:=fun xs S R=>arg2 xs fun x y=>∃C fs c,x=.x C fs/\y=.o c/\C∈excs/\((∃D,c=.ref D/\D∈excs/\R (.d (.bool (decide (C=D)))) S)\/(c=.ty "ValueError"/\R (.d (.bool true)) S))
theorem eJ{K:bj}(E:Exs K):RC (DR K) cZ:=fun h o H S xs vs R Q hs hx q c=>by
 obtain⟨x,y,rfl,C,fs,k,rfl,rfl,hC,q1⟩:=mS q;obtain⟨v,u,rfl,z,aa⟩:=hxs2 hx;obtain⟨a,d,rfl,ha,_⟩:=z;cases (show u=k from aa);rcases q1 with ⟨D,rfl,hD,q2⟩|⟨rfl,q2⟩
 ·exact⟨a,C,d,_,_,rfl,zU _ _ ha,E.all C hC,E.sp,fun u ru=>by cases (show u=bu D from ru);exact E.kit hC hD,c o H S _ _ Ex.refl hs (xB _) q2⟩
 ·exact⟨a,C,d,_,_,rfl,zU _ _ ha,E.all C hC,E.sp,fun u ru=>by cases (show u=nv "ValueError" from ru);exact E.kitV hC,c o H S _ _ Ex.refl hs (xB _) q2⟩
def Dt:V->List V->Hp->VK->Prop:=fun x vs H Q=>∃bs:List Bool,Has H (.list (bs.map ke)) x/\vs=[.bl true]/\Q (.int (bs.countP id)) H
theorem HS{X:Cx}:MtR X "list.count" Dt:=by
 intro zf s σ H x vs v us Q I rx rv h;obtain⟨bs,hl,rfl,q⟩:=h;obtain⟨u,rfl,r1⟩:=rv.one;cases (show u=oj true from r1);have cl:iq (.list (bs.map ke))=true:=dw (wO (tD fun _ _=>(CC:Shp 0 _))).ok;obtain⟨as,q2⟩:=Has.reads I (.list (bs.map ke)) x v hl cl rx;cases q2 with
 | @list l o vs n xs as₁ h1 h2 h3 h4=>
  refine count_list_bools (vs:=vs.toList) ⟨o,h1,h2,n,by simpa using h3⟩ h4 (by simp[Shape.has]) ?_;refine⟨.int (bs.countP id),H,I.tok _,⟨s.toks,?_⟩,q⟩;have:∀bs:List Bool,countIn (.bool true) (bs.map ke)=(bs.countP id:Int):=fun bs=>by
   induction bs with
   |nil=>rfl
   |cons b bs ih=>
    rw[dq,List.countP_cons];show (if same (.bool b) (.bool true)then (1:Int)else 0)+countIn (.bool true) (bs.map ke)=_;rw[ih];cases b
    ·show (0:Int)+_=_;simp
    ·show (1:Int)+_=_;simp;omega
  rw[this]
def j8:XV->List XV->Sto->RX->Prop:=fun x xs S R=>arg1 xs fun y=>y=.d (.bool true)/\∃ds,c5 S x=some ds/\∃bs:List Bool,ds=bs.map ke/\R (.d (.int (bs.countP id))) S
theorem Fc:RM Dt j8:=fun h o H S x v xs vs R Q hs hx z q c=>by
 obtain⟨y,rfl,rfl,ds,e2,bs,rfl,q1⟩:=cP q;obtain⟨u,rfl,hu⟩:=hxs1 z;have hl:Has H (.list (bs.map ke)) v:=dF (x:=x) hs (by
  unfold c5 at e2;split at e2
  ·cases e2;rfl
  ·rename_i k;show (S[k]?).map PyData.list=_;rw[e2];rfl
  ·cases e2) hx
 cases gQ hu;exact⟨bs,hl,rfl,c o H S _ _ Ex.refl hs (xI _) q1⟩
def iU(q:PN)(da:DA):DE:=fun δ S R=>da δ S fun xs S1=>∃C fs,xs=[.x C fs]/\q [.x C fs] [] (ret0 S1 R)
theorem hxE{h o:List Addr}{H:Hp}{C:Addr}{fs:List (Str×bd)}{v:V}(hx:HasX h o H (.x C fs) v):HasX (h++o) [] H (.x C fs) v:=by
 have e:vx (h++o) [] H=vx h o H:=iB fun b=>by simp
 show HasE (vx (h++o) [] H) C fs v;rw[e];exact hx
theorem FD{ps:List Str}{q:PN}{tl:TA}{dl:DA}(hp:ps.length=1)(ha:RA tl dl):RE (fQ (spN ps q) [] E0 tl) (iU q dl):=fun h o H δ σ S R Q he hs d c=>
 ha h o H δ σ S _ _ he hs d fun o1 H1 S1 xs vs e1 s1 x1 ⟨C,fs,z,d1⟩=>by
  subst z;obtain⟨v,rfl,hv⟩:=hxs1 x1;refine⟨by simp[hp],h++o1,[],[],[.x C fs],_,rep0 s1,⟨v,[],rfl,hxE hv,rfl⟩,d1,cn0 s1 (c.pre e1)⟩
end L2
namespace L2
open PySem PySem.Spec PyProof.Rows
section
abbrev EXD:=Addr->List (Str×bd)->Prop
abbrev PX:=List XV->Sto->RX->EXD->Prop
def CnX(h o:List Addr)(H:Hp)(EX:EXD)(E:XK):Prop:=∀o' H' S' C a fs,Ex o H o' H'->RepS h o' H' S'->HasE (vx h o' H') C fs (.ref a)->EX C fs->E (.ref C) (some a) H'
theorem CnX.pre{h o o':List Addr}{H H':Hp}{EX:EXD}{E:XK}(c:CnX h o H EX E)(e:Ex o H o' H'):CnX h o' H' EX E:=fun o2 H2 S2 C a fs e2=>c o2 H2 S2 C a fs (e.trans e2)
def RSx(E:XK)(EX:EXD)(t:TS)(dt:DS):Prop:=∀(h o:List Addr) (H:Hp) (δ:XE) (σ:St) (S:Sto) (En:DEnds) (D:Ends),RepE h o H δ σ->RepS h o H S->dt En δ S->EOk h o H En D->CnX h o H EX E->t D σ H
section
variable {E:XK}{EX:EXD}{t u:TS}{dt du:DS}
theorem dU(ht:RS t dt):RSx E EX t dt:=fun h o H δ σ S En D he hs q c _=>ht h o H δ σ S En D he hs q c
theorem eX(ht:RSx E EX t dt)(hu:RSx E EX u du):RSx E EX (aR t u) (zS dt du):=fun h o H δ σ S En D he hs q c x=>
 ht h o H δ σ S _ _ he hs q ⟨fun o1 H1 δ1 S1 σ1 e1 aa z q1=>hu h o1 H1 δ1 σ1 S1 En D aa z q1 (c.pre e1) (x.pre e1),c.rt,c.bk,c.ct⟩ x
end
theorem DW{X:Cx}{st:Stmt}{t:TS}(h:PS X.nox st t):PS X st t:=fun zf s σ H D I hw=>
 gm (h zf s σ H D (I.wish _) hw) (fun _ _ q=>q.unwish) fun _ _ z=>fu z
def spX(ps:List Str)(q:PX):Sp:=fun vs H Q E=>vs.length=ps.length/\∃h o S xs R EX,RepS h o H S/\HasXs h o H xs vs/\q xs S R EX/\Cn h o H R Q/\CnX h o H EX E
structure DfX(P:bz)(w:dh)(K:bj)(mg:Str->Option bb)(base:Heap)(x:Str)(ps:List Str)(k:Nat)(sp:Sp):Prop where
 ex:∃f fd,FnOk P w K mg base (CX1 P w) k f fd ps sp/\mg x=some (.ref f)/\mf K (.ref f)=true/\Binds K fd ps []
section
variable {P:bz}{w:dh}{K:bj}{mg:Str->Option bb}{base:Heap}{x:Str}{st:Stmt}{N ps:List Str}{k:Nat}
theorem DfX.dN{q:PX}(D:Dd K mg x st ps)(S:FnScope N ps (zh st))(n:Nat)(hn:N.length=ps.length+n)
  (hbody:∀(f:Addr) (z:bb) (A:cz) (outer:List Env) (s:be) (H:Hp) (E:XK) (EX:EXD),Room k (A.deeper (ij x (zh st) s.heap.objs.size f z)) ->
   ∃t dt,PSs (cE (CX1 P w) P w K mg base N x (zh st) f z A outer s H E) (cL st) t/\RSx E EX t dt/\∀xs S R,q xs S R EX->dt (aD S.length R) (xs.map some++bg n none) S):DfX P w K mg base x ps (k+1) (spX ps q):=by
 obtain⟨f,fd,F,hm,hb⟩:=D.ex;have kp:=F.kp;obtain⟨oc,od,kV,af,pm,an,z,ct,ae,rfl,lk,ac⟩:=F.ex;refine⟨f,_,AN lk ac S (fun vs H Q E h=>h.1) fun A outer s H vs Q E hr ⟨hl,h,o,S',xs,R,EX,aa,hx,hq,c,cx⟩=>?_,hm,kp,hb⟩;obtain⟨t,dt,h1,h2,h3⟩:=hbody f z A outer s H E EX hr;refine⟨t,h1,h2 h o H _ _ S' _ _ ?_ aa (h3 xs S' R hq) (eok aa c) cx⟩;have e:N.length-vs.length=n:=yw
 unfold start;rw[e];exact uH hx
end
def Je(sp:Sp)(t:TA):XK->TE:=fun Ex σ H Q=>t σ H fun vs H1=>sp vs H1 Q Ex
theorem GI{X:Cx}{q:PX}{x:Str}{ps:List Str}{k j:Nat}{pos pos':Pos}{e:Expr}{es:List Expr}{t:TA}(D:DfX X.prog X.w X.K X.mg X.base x ps k (spX ps q))(hr:Room j X.A)(hk:k<=j)(hx:∀e s,X.xe e s->False)(ha:PA X (e::es) t)(hg:Gl X x:=by rfl)(z:(x==("__debug__":Str))=false:=by decide)
  (q1:cp (e::es) X.env=(false,eval e X.env)::cp es X.env:=by rfl) (q2:((kx pos (cp es X.env)).any fun x=>x.fst)=false:=by rfl):PEX X (.Call (.Name x pos') (e::es) [] pos) (Je (spX ps q) t):=by
 obtain⟨f,fd,F,hm,kp,hb⟩:=D.ex;exact KC hx F (hr.mono hk) hg hm kp hb ha z q1 q2
end
section
def i3(kn:DEnds->XE->RX)(m:Nat)(q:PX)(da:DA)(i:Nat)(hd:DS):DS:=fun En δ S=>da δ S fun xs S1=>∃ds,datas xs=some ds/\ds.length=m /\
 q (ds.map XV.d) [] (ret0 S1 (kn En δ)) fun C fs=>C∈excs/\hd { nx:=fun _ _=>False,rt:=En.rt } (δ.set i (some (.x C fs))) S1
def KnOk(kn:DEnds->XE->RX)(kt:Ends->St->VK):Prop:=∀(h o:List Addr) (H:Hp) (δ:XE) (σ:St) (En:DEnds) (D:Ends),RepE h o H δ σ->EOk h o H En D->Cn h o H (kn En δ) (kt D σ)
theorem hxs00{h o:List Addr}{H:Hp}:∀{es:List bd}{vs:List V},HasXs h o H (es.map XV.d) vs->HasXs (h++o) [] H (es.map XV.d) vs
 | [],_,q=>q
 |d::ds,vs,⟨v,r,e,hv,l⟩=>⟨v,r,e,hx0 hv,hxs00 l⟩
theorem KZ{K:bj}{i m:Nat}{ps:List Str}{q:PX}{tl:TA}{dl:DA}{ts:TS}{ds:DS}{kn:DEnds->XE->RX}{kt:Ends->St->VK}{tb:XK->TS}(X0:Exs K)(hm:ps.length=m)(ag:KnOk kn kt)(aa:∀Ex D σ H,tb Ex D σ H=(tl σ H fun vs H1=>spX ps q vs H1 (kt D σ) Ex))(ha:RA tl dl)(af:RS ts ds):
  RS (yL K 24 i tb ts) (i3 kn m q dl i ds):=fun h o H δ σ S En D he hs d c=>by
 show tb (caught K 24 i ts D σ) D σ H;rw[aa];refine ha h o H δ σ S _ _ he hs d fun o1 H1 S1 xs vs e1 s1 x1 ⟨es,ac,hl,d1⟩=>?_;have ae:=eL ac;subst ae;refine⟨by rw[x1.len,cg,hl,hm],h++o1,[],[],es.map XV.d,_,_,rep0 s1,?_,d1,cn0 s1 (ag h o1 H1 δ σ En D (he.mono e1) (c.pre e1)),?_⟩
 ·exact hxs00 x1
 ·intro o' H' S' C a fs e' s' hE ⟨hC,hh⟩;have EC:=X0.all C hC;obtain⟨ini,qC⟩:=X0.ci C hC;refine⟨C,a,ini,rfl,rfl,qC,(EC.mroIn _).trans (by simp[exM]),?_⟩;have sH:Same H1 H':=fun b u eb=>(e'.kp b u yv eb).2;have e2:Ex o1 H1 o1 H':=Ex.of_same sH;have sv:Same (vx (h++o1) o' H') (vx h o1 H'):=fun b u eb=>by
   obtain⟨n1,n2,n3⟩:=zL.mp eb;exact zL.mpr ⟨fun z=>n1 (cq _ z),fun z=>n1 (cv _ z),n3⟩
  exact af h o1 _ (δ.set i (some (.x C fs))) (σ.set i (some (.ref a))) S1 _ _ (((he.mono e1).mono e2).set (HasE.mono sv hE)) (s1.same sH) hh ⟨fun _ _ _ _ _ _ _ _ z=>z.elim,(c.pre (e1.trans e2)).rt,fun _ _ _ _ _ _ _ _ z=>z.elim,fun _ _ _ _ _ _ _ _ z=>z.elim⟩
def knD:DEnds->XE->RX:=fun En δ _ S2=>En.nx δ S2
theorem KL:KnOk knD (fun D σ _ H1=>D.nx σ H1):=fun h o H δ σ En D he c o' H' S' x v e hs _ q=>c.nx o' H' δ S' σ e (he.mono e) hs q
theorem ID:fy "ValueError" = some (.type "ValueError"):=by decide +kernel
end
end L2
namespace L2
open PySem PySem.Spec PySem.Calls PyProof.Rows PySem.W PySem.Builtin PySem.Builtin.ObjectAttr
theorem KR(self:bb)(C:Addr):refuseLoop self "__setattr__" (exM C)=pure ():=by
 unfold exM;rw[refuseLoop_ref,refuseLoop_ref];exact F.store_ValueError.passes self
theorem Ev{K:bj}{h:Heap}{C:Addr}{cd:ClassData}(X:K.In h)(e:clsIn K C=some cd):∃c0 dd sl,h.get? C=some ⟨c0,dd,.cls cd,sl⟩:=by
 unfold clsIn at e;split at e
 ·rename_i q;cases e;exact⟨_,_,_,X _ _ q⟩
 ·cases e
section
variable {prog:bz}{w:dh}{A:cz}{E:bb->be->Prop}{h:Heap}{g:Array GenState}{d:Drawn}{t:Nat}{os:OsState}{K:bj}{x C:Addr}{o:Obj}{cd:ClassData}{name:Str}{v:bb}{mA:Str->Option bb}
def XAt(h:Heap)(x:Addr)(o:Obj)(mA:Str->Option bb):Prop:=h.get? x=some o/\(∀c,o.data≠.cls c)/\((o.dict=none/\∀n,mA n=none)\/∃dx,o.dict=some dx/\dx≠x/\h.Ns1 dx mA)
theorem GE{tk:Tok}{Q:Fin->be->Prop}{ns:List Str}(X:K.In h)(aj:clsIn K C=some cd)(hm:cd.mro=exM C)(hdct:cd.hasDict=true)(al:findIn K (.ref C) name=some none)(hc:o.cls=.ref C)(I:XAt h x o mA)
  (hq:∀h' tk' dx,XAt h' x { o with dict:=some dx } (fun y=>if y=name then some v else mA y)->(o.dict=some dx\/o.dict=none/\h.objs.size<=dx)->(∀b ob,b≠x->b≠dx->h.get? b=some ob->h'.get? b=some ob)->Q (.done (.ret .none)) ⟨h',g,d,tk',os⟩)
  (hw:Within mA ns) (hsz:ns.length+1<=br):
  bo (model prog w) A (jn.«object.__setattr__» ⟨[.ref x,.str name tk,v],[]⟩) Q E ⟨h,g,d,t,os⟩:=by
 obtain⟨hx,ah,hd⟩:=I;have ag:=KR (.ref x) C;have Lm:Looks (model prog w) h (mroOf (.ref C)) (exM C):=by rw[<- hm];exact(looks_clsIn X aj).andThen .now
 have La:=looks_findIn (M:=model prog w) X al;obtain⟨c0,dd,sl,hC⟩:=Ev X aj;unfold jn.«object.__setattr__»
 repeat (first|with_reducible refine gv hC ?_|rw[refuse_eq]|rw[ag]|(with_reducible refine gv hx ?_;rw[hc])|with_reducible refine Lm.at ?_|with_reducible refine La.at ?_|wp_step)
 rcases hd with ⟨hdn,hmA⟩|⟨dx,hdx,hne,hns⟩
 ·rw[hdn,bv (by simp[typeHasDict])];split
  ·rename_i z;cases z
  split
  ·rename_i c z;exact absurd z (ah c)
  have ai:(h.push { cls:=.type "dict",data:=.dict #[] }).get? x=some o:=bi _ hx;have ae:x≠h.objs.size:=gf (dn hx);refine bc (wpAny_alloc' (bc (wpAny_update' ai (bh ?_))));have gd:((h.push { cls:=.type "dict",data:=.dict #[] }).update x fun o=>{ cls:=o.cls,dict:=some h.objs.size,data:=o.data,slots:=o.slots }).get? h.objs.size=some { cls:=.type "dict",data:=.dict #[] } :=
   (get?_update_ne _ _ _ _ ae.symm).trans (Heap.get?_push_at rfl rfl)
  have nd:((h.push { cls:=.type "dict",data:=.dict #[] }).update x fun o=>{ cls:=o.cls,dict:=some h.objs.size,data:=o.data,slots:=o.slots }).Ns h.objs.size (fun _=>none):=
   ⟨_,#[],_,gd,rfl,fun e he=>absurd he yv,fun _=>rfl⟩
  show bo _ _ (storeInDict h.objs.size (.str name tk) name v) _ _ _;unfold storeInDict newKeyGuard;refine bc (bh (bc (wpAny_nsSet1 (Heap.Ns1.of_empty nd) fun h' aa hs=>?_)));obtain⟨oD,am,ap,ac,hdD,af⟩:=aa.count (Within.cons name v Within.nil);refine bc (wpAny_lookBehind ac (by rw[hdD];exact pastItsLine_dict (ip af (by rw[cn,length_nil,jg];omega))) ?_)
  wp_walk
  have an:h'.get? x=some { cls:=o.cls,dict:=some h.objs.size,data:=o.data,slots:=o.slots }:=by
   refine(hs.2 x ae).trans (gl _ ai ?_);have ak:=(Heap.get?_some_iff.mp hx).2;obtain⟨oc,od,ao,aq⟩:=o;cases ao<;>first|rfl|exact ak
  refine hq h' _ h.objs.size ⟨an,ah,.inr ⟨h.objs.size,rfl,ae.symm,?_⟩⟩ (.inr ⟨hdn,cw _⟩) (fun b ob nb n2 q=>(hs.2 b n2).trans ((get?_update_ne _ _ _ _ nb).trans (bi _ q)));obtain⟨o',es,ep,e1,e2,e3,eu,e4⟩:=aa;exact⟨o',es,ep,e1,e2,e3,eu,fun y=>by rw[e4 y];by_cases hy:y=name<;>simp[hy,hmA]⟩
 ·rw[hdx];refine bh ?_;show bo _ _ (storeInDict dx (.str name tk) name v) _ _ _;unfold storeInDict newKeyGuard;refine bc (bh (bc (wpAny_nsSet1 hns fun h' aa hs=>?_)));obtain⟨oD,am,ap,ac,hdD,af⟩:=aa.count (Within.cons name v hw);refine bc (wpAny_lookBehind ac (by rw[hdD];exact pastItsLine_dict (ip af (by rw[cn];omega))) ?_)
  wp_walk
  have eo:({ o with dict:=some dx }:Obj)=o:=by rw[<- hdx]
  refine hq h' _ dx ?_ (.inl hdx) fun b ob _ nd q=>(hs.2 b nd).trans q;rw[eo];exact⟨(hs.2 x hne.symm).trans hx,ah,.inr ⟨dx,hdx,hne,aa⟩⟩
theorem yY{Q:Unit->be->Prop}{ns:List Str}(X:K.In h)(af:clsIn K C=some cd)(hm:cd.mro=exM C)(hdct:cd.hasDict=true)(aa:findIn K (.ref C) "__setattr__" = some (some (.builtin "object.__setattr__")))(ac:findIn K (.ref C) name=some none)(ae:mroIn K C (.type "object")=some true)(hc:o.cls=.ref C)(I:XAt h x o mA)
  (hq:∀h' z dx,XAt h' x { o with dict:=some dx } (fun y=>if y=name then some v else mA y)->(o.dict=some dx\/o.dict=none/\h.objs.size<=dx)->(∀b ob,b≠x->b≠dx->h.get? b=some ob->h'.get? b=some ob)->Q () ⟨h',g,d,z,os⟩)
  (hw:Within mA ns) (hsz:ns.length+1<=br):
  bo (model prog w) A (setAttr (.ref x) name v) Q E ⟨h,g,d,t,os⟩:=by
 have hx:=I.1;have SF:=F.store_ValueError;have f3:=SF.slot.bind (.ref x);have L1:=looks_findIn (M:=model prog w) X aa;have T0:∀M,Looks M h (typeOf (.ref x)) (.ref C):=fun M=>hc▸(Looks.ld hx).andThen .now;unfold setAttr callSpecial? specialOf
 repeat (any_goals (first|assumption|(with_reducible refine gv hx ?_;rw[hc])|with_reducible refine L1.at ?_|wp_step))
 refine codeAny_call_builtin SF.slot.plain SF.entry (@check_slot (model prog w) _ _ _ "object.__setattr__" "object" "__setattr__" (.ref x) [.str name t,v] [] _ SF.kind SF.split ((T0 _).andThen (looks_mroIn X ae)) (SF.args (.ref x) (.str name t) v) (GE X af hm hdct ac hc I (fun h' z dx a b c=>?_) hw hsz));exact bh (bh (hq h' z dx a b c))
end
end L2
namespace L2
open PySem PySem.Spec PySem.Calls PyProof.Rows PySem.W
def exF(t:Addr):Data:=.fields #[.ref t,.none,.none,.none,.bool false,.none]
def exN(a C:Addr)(d:Option Addr)(t:Addr):HO:=.ext fun h=>h.get? a=some { cls:=.ref C,dict:=d,data:=exF t }
theorem Co{P:bz}{w:dh}{H:Hp}{h:Heap}{a C t:Addr}{d:Option Addr}(e:h.get? a=some { cls:=.ref C,dict:=d,data:=exF t }):ObjOk P w H h a (exN a C d t):=⟨e,⟨_,e⟩,fun _ _ q k=>k _ q⟩
theorem DF{P:bz}{w:dh}{H:Hp}{h:Heap}{dx:Addr}{fs:List (Str×V)}{mA:Str->Option bb}(n:h.Ns1 dx mA)(r:∀f,RelO (fs.lookup f) (mA f))(wi:PySem.Within mA (fs.map (·.1))):ObjOk P w H h dx (xw dx fs):=
 ⟨⟨mA,n,r,wi⟩,let ⟨o,_,_,e,_⟩:=n;⟨o,e⟩,fun _ _ ⟨mA,n,r,wi⟩ k=>⟨mA,n.at k,r,wi⟩⟩
structure ExI(K:bj)(C:Addr):Prop where
 k:ExK K C
 hd:W.hasDictIn K C=true
 sa:nj K (.ref C) "__setattr__" = some (some (.builtin "object.__setattr__"))
def uT(K:bj)(ta tv:TE)(f:Str):TS:=fun D σ H=>tv σ H fun y H1=>ta σ H1 fun x H2=>∃a C t,x=.ref a/\ExI K C/\NoAttr K C f /\
  ((H2 a=some (exN a C none t)/\∀dx,H2 dx=none->D.nx σ (upd (upd H2 a (exN a C (some dx) t)) dx (xw dx [(f,y)]))) \/
   ∃dx fs,H2 a=some (exN a C (some dx) t)/\H2 dx=some (xw dx fs)/\dx≠a/\fs.length<100/\D.nx σ (upd H2 dx (xw dx (cW f y fs))))
section
variable {X:Cx}{o value:Expr}{f:Str}{pos pos':Pos}{ta tv:TE}
theorem BD(ha:PE X o ta)(hv:PE X value tv)(hs:swapsWith value (some (.Attribute o f pos')) pos.line X.env=pure false):PS X (.Assign [.Attribute o f pos'] value pos) (uT X.K ta tv f):=by
 intro zf s σ H D I h;refine plainObj_wpAny_Assign_Attribute (thn (hv zf s σ H _ I h) fun u s1 ⟨y,H1,I1,ry,q⟩=>thn (ha zf s1 σ H1 _ I1 q) fun ov s2 ⟨x,H2,I2,rx,a,C,t,ex,xi,na,q2⟩=>?_) hs;subst ex;obtain rfl:ov=bu a:=rx;obtain⟨cd,ac,hm⟩:=xi.k.mro;have hdct:cd.hasDict=true:=by
  have:=xi.hd;unfold W.hasDictIn at this;rw[ac]at this;simpa using this
 have ae:mroIn X.K C (.type "object")=some true:=(xi.k.mroIn _).trans (by simp[exM]);obtain⟨hp,g,d,tk,os⟩:=s2;rcases q2 with ⟨ea,q2⟩|⟨dx,fs,ea,ed,ne,hl,q2⟩
 ·obtain⟨e1,_,_⟩:=(show ObjOk X.prog X.w H2 hp a (exN a C none t)from I2.hok a _ ea);refine yY (o:={ cls:=.ref C,dict:=none,data:=exF t }) (mA:=fun _=>none) (ns:=[]) I2.kIn ac hm hdct xi.sa na ae rfl ⟨e1,(fun c z=>by cases z),.inl ⟨rfl,fun _=>rfl⟩⟩ (fun h' aa dx xa od kp=>?_) (fun y z=>absurd rfl z) (by show 1<=br;rw[jg];omega);obtain⟨x1,_,x2⟩:=xa;have hsz:hp.objs.size<=dx:=by
   rcases od with z|z
   ·cases z
   ·exact z.2
  obtain⟨af,z,nx,n1⟩:∃d,some dx=some d/\d≠a/\h'.Ns1 d (fun y=>if y=f then some u else none):=by
   rcases x2 with ⟨z,_⟩|z
   ·cases z
   ·exact z
  cases z;have g1:(hp.update a fun o=>{ o with dict:=some dx }).get? a=some { cls:=.ref C,dict:=some dx,data:=exF t }:=gl _ e1 rfl
  have J:=I2.write (x:=a) (e:=a) (o:=exN a C (some dx) t) (h':=hp.update a fun o=>{ o with dict:=some dx }) (t':=tk) (by rw[ea];exact jj) (.inl rfl) (fun b v nb z=>(get?_update_ne _ _ _ _ nb).trans z) ⟨_,g1⟩ (Co g1);have J2:=J.laid (a:=dx) (o:=xw dx [(f,y)]) (h':=h') (t':=aa) (fun b v z=>?_) (by show (hp.update a _).objs.size<=dx;rw[Heap.size_update];exact hsz) (DF n1 (fun g=>?_) fun g hg=>?_)
  ·exact⟨σ,_,J2,q2 dx (I2.hok.fresh hsz)⟩
  ·by_cases nb:b=a
   ·subst nb;rw[g1]at z;cases z;exact x1
   ·have z':hp.get? b=some v:=(get?_update_ne _ _ _ _ nb).symm.trans z;exact kp b v nb (fun e=>absurd (dn z') (by rw[e];exact Nat.not_lt.mpr hsz)) z'
  ·show RelO ((cW f y []).lookup g) (if g=f then some u else none);rw[wN];by_cases q:g=f
   ·rw[cy q,cy q];exact ry
   ·rw[bv q,bv q];exact jj
  ·by_cases e:g=f
   ·subst e;simp
   ·rw[bv e]at hg;exact absurd rfl hg
 ·obtain⟨e1,_,_⟩:=(show ObjOk X.prog X.w H2 hp a (exN a C (some dx) t)from I2.hok a _ ea);obtain⟨⟨mA,n1,r1,w1⟩,_,_⟩:=(show ObjOk X.prog X.w H2 hp dx (xw dx fs)from I2.hok dx _ ed);refine yY (o:={ cls:=.ref C,dict:=some dx,data:=exF t }) (mA:=mA) (ns:=fs.map (·.1)) I2.kIn ac hm hdct xi.sa na ae rfl ⟨e1,(fun c z=>by cases z),.inr ⟨dx,rfl,ne,n1⟩⟩ (fun h' aa ag xa od kp=>?_) w1 (by rw[cg,jg];omega);obtain rfl:dx=ag:=by
   rcases od with z|z
   ·exact fc z
   ·cases z.1
  obtain⟨x1,_,x2⟩:=xa;obtain⟨af,z,nx,n2⟩:∃d,some dx=some d/\d≠a/\h'.Ns1 d (fun y=>if y=f then some u else mA y):=by
   rcases x2 with ⟨z,_⟩|z
   ·cases z
   ·exact z
  cases z;have J:=I2.write (x:=dx) (e:=dx) (o:=xw dx (cW f y fs)) (h':=h') (t':=aa) (by rw[ed];exact jj) (.inl rfl) (fun b v nb z=>?_) (let ⟨o,_,_,e,_⟩:=n2;⟨o,e⟩) (DF n2 (fun g=>?_) fun g hg=>?_)
  ·exact⟨σ,_,J,q2⟩
  ·by_cases e:b=a
   ·subst e;rw[e1]at z;cases z;exact x1
   ·exact kp b v e nb z
  ·show RelO ((cW f y fs).lookup g) (if g=f then some u else mA g);rw[wN];by_cases q:g=f
   ·rw[cy q,cy q];exact ry
   ·rw[bv q,bv q];exact r1 g
  ·by_cases q:g=f
   ·rw[q];exact(v6 f y fs).1
   ·refine(v6 f y fs).2 g (w1 g fun z=>hg ?_);show (if g=f then some u else mA g)=none;rw[bv q];exact z
end
end L2
namespace L2
open PySem PySem.Spec PySem.Calls PyProof.Rows
section
variable {prog:bz}{w:dh}{A:cz}{E:bb->be->Prop}{h:Heap}{g:Array GenState}{d:Drawn}{t:Nat}{os:OsState}
variable {nm q:Str}{C N:Addr}{bs bm:List bb}{hdct:Bool}{sn:List Str}{sub:List bb}{ab:Bool}{col:Option Bool}{dd:Option Addr}{k0 k1 k2 k3 k5:Option bb}{mN:Str->Option bb}{rest:List bb}{fI:Addr}{oI:Obj}
theorem FK(T:OwnTail h veB bm){Q:Fin->be->Prop}
  (hC:h.get? C=some (excClassObj nm q C N bs bm hdct sn sub ab col dd k0 k1 k2 k3 k5 "ValueError.__new__")) (hn:h.Ns N mN) (hi:mN "__init__" = some (.ref fI)) (hfI:h.get? fI=some oI) (hfc:oI.cls=.type "function")
  (hq:∀h' e,h.objs.size<=e->Heap.MadeExcOf h h' e (.ref C) rest->bo (model prog w) A (call (.ref fI) (.ref e::rest)) (fun r s'=>r=.none/\Q (.done (.ret (.ref e))) s') E ⟨h',g,d,t,os⟩) (hrest:rest.length<=br):
  bo (model prog w) A (jn.«type.__call__» ⟨.ref C::rest,[]⟩) Q E ⟨h,g,d,t,os⟩:=by
 have Fn:=F.excBase_ValueError;have aa:veB.contains (.type "ValueError")=true:=by decide +kernel
 repeat (first|with_reducible refine gv hC ?_|with_reducible refine wpAny_madeBy_exc hC ?_|wp_step)
 refine codeAny_call_builtin_code (Code.quiet_builtin _ Fn.quiet) (wpAny_check_new_subU Fn aa T hC ?_);refine codeAny_exc_new_subU Fn aa Fn T hC ?_ hrest;show bo _ _ _ _ _ _;generalize hh:((h.push { cls:=.type "tuple",data:=.seq rest.toArray }).push { cls:=.ref C,data:=.fields #[.ref h.objs.size,.none,.none,.none,.bool false,.none] })=h1;have keep:∀b o,h.get? b=some o->h1.get? b=some o:=fun b o e=>by rw[<- hh];exact bi _ (bi _ e)
 have ac:=keep _ _ hC;have ag:h1.Ns N mN:=let ⟨o,es,ep,e,r⟩:=hn;⟨o,es,ep,keep _ _ e,r⟩;have ae:=keep _ _ hfI;have z:h1.get? (h.objs.size+1)=some { cls:=.ref C,data:=.fields #[.ref h.objs.size,.none,.none,.none,.bool false,.none] }:=by rw[<- hh];heap_get
 have af:(bu C::bm).contains (.ref C)=true:=by simp
 have T1:=T.keeps keep;unfold isInstance
 repeat (first|with_reducible refine gv z ?_|(with_reducible refine wpAny_isSubtype_exc ac ?_;rw[af])|wp_step)
 show bo _ _ (typeLookup (.ref C) _) _ _ _;refine wpAny_typeLookup_tail ac ag T1 Fn.mroIs Fn.init.lookup ?_;rw[hi];refine je (bc ?_);unfold bindSpecial;refine bc (wpAny_typeOf (T:="function") ⟨_,ae,hfc⟩ ?_);rw[cy dz];refine bh (bc (gm (hq h1 (h.objs.size+1) (Nat.le_succ _) ⟨keep,Heap.get?_none_of_le (Nat.le_succ _),h.objs.size,z,Heap.get?_none_of_le (cw _),?_⟩) (fun r s' hr=>?_) fun _ _ x=>x))
 ·rw[<- hh];exact bi _ (Heap.get?_push_at rfl rfl)
 ·obtain⟨rfl,hQ⟩:=hr
  wp_walk
  exact hQ
theorem Ho(T:OwnTail h veB bm){Q:bb->be->Prop}
  (hC:h.get? C=some (excClassObj nm q C N bs bm hdct sn sub ab col dd k0 k1 k2 k3 k5 "ValueError.__new__")) (hn:h.Ns N mN) (hi:mN "__init__" = some (.ref fI)) (hfI:h.get? fI=some oI) (hfc:oI.cls=.type "function")
  (hq:∀h' e,h.objs.size<=e->Heap.MadeExcOf h h' e (.ref C) rest->bo (model prog w) (A.under (.builtin "type.__call__" ⟨.ref C::rest,[]⟩)) (call (.ref fI) (.ref e::rest)) (fun r s'=>r=.none/\Q (.ref e) s') E ⟨h',g,d,t,os⟩) (hrest:rest.length<=br):
  bo (model prog w) A (call (.ref C) rest) Q E ⟨h,g,d,t,os⟩:=by
 have f1:=tc_lookup;have f2:=tc_bind (.ref C);have hT:(⟨h,g,d,t,os⟩:be).TypeIs (.ref C) "type":=⟨_,hC,rfl⟩;refine wpAny_call (codeAny_of_tree ?_);show bo _ _ (callAny (.ref C) _) _ _ _
 repeat (any_goals (first|assumption|with_reducible refine gv hC ?_|wp_step))
 refine⟨rfl,?_⟩;exact codeAny_call_builtin_at (Code.quiet_builtin _ (by decide +kernel)) entry_typeCall (wpAny_check_type_call_sub hC (FK T hC hn hi hfI hfc (fun h' e hz hm=>hq h' e hz hm) hrest))
end
section
variable {prog:bz}{w:dh}{A:cz}{E:bb->be->Prop}{s:be}{env:Env}
variable {nm q:Str}{C N:Addr}{bs bm:List bb}{hdct:Bool}{sn:List Str}{sub:List bb}{ab:Bool}{col:Option Bool}{dd:Option Addr}{k0 k1 k2 k3 k5:Option bb}{newId:String}
theorem LK{M:Model}{x:Sem bb}{Q:Flow->be->Prop}(z:bm.contains (.type "BaseException")=true)(hh:A.handled=none)
  (h:bo M A x (fun v s1=>∃e t dx,v=.ref e/\s1.heap.get? C=some (excClassObj nm q C N bs bm hdct sn sub ab col dd k0 k1 k2 k3 k5 newId)/\s1.heap.get? e=some { cls:=.ref C,dict:=dx,data:=.fields #[.ref t,.none,.none,.none,.bool false,.none] }/\E (.ref e) s1) E s):
  bo M A (raiseStmt env (some x) none) Q E s:=by
 have aa:(bu C::bm).contains (.type "BaseException")=true:=by rw[List.contains_cons,z,Bool.or_true]
 unfold raiseStmt;refine bc (gm h (fun v s1 h1=>?_) fun _ _ x=>x);obtain⟨e,t,dx,rfl,hC,he,hE⟩:=h1;obtain⟨hp,g,d,tk,os⟩:=s1
 repeat (first|with_reducible refine gv he ?_|with_reducible refine gv hC ?_|(with_reducible refine wpAny_isSubtype_exc hC ?_;rw[aa])|wp_step)
 exact wpAny_raiseNew_none hh hE
end
end L2
namespace L2
open PySem PySem.Spec PySem.Calls PyProof.Rows
def del(H:Hp)(a:Addr):Hp:=fun b=>if b=a then none else H b
theorem jA{H:Hp}{a b:Addr}(h:b≠a):del H a b=H b:=bv h
theorem Js{H:Hp}{a:Addr}{o:HO}:upd (del H a) a o=upd H a o:=by
 funext b;unfold upd del;split
 ·rfl
 ·rfl
theorem yG{H:Hp}{a b:Addr}{u:HO}(h:del H a b=some u):b≠a/\H b=some u:=by
 unfold del at h;split at h
 ·cases h
 ·rename_i n;exact⟨n,h⟩
section
variable {P:bz}{w:dh}{K:bj}{mg:Str->Option bb}{base:Heap}{N:List Str}{qual:Str}{scope:Scope}{f:Addr}{cd:bb}{A:cz}{outer:List Env}{s:be}{H:Hp}{E:XK}
theorem Iz{zf:List (Addr×Obj)}{σ:St}{Hc:Hp}{s2:be}{e C t:Addr}{dx:Option Addr}(I:Inv (cE (CX1 P w) P w K mg base N qual scope f cd A outer s H E) zf σ Hc s2)(hn:Hc e=some (exN e C dx t))(ag:s.heap.get? e=none)(hE:E (.ref C) (some e) (upd Hc e (exO e C dx))):
  (cE (CX1 P w) P w K mg base N qual scope f cd A outer s H E).xe (.ref e) s2:=by
 have af:(A.deeper (ij qual scope s.heap.objs.size f cd)).frames=some (ij qual scope s.heap.objs.size f cd::outer):=I.ok.frames;have nl:∀b o,s.heap.get? b=some o->b∉frs outer->b∉frs (ij qual scope s.heap.objs.size f cd::outer):=fun b o q hb z=>by
  rcases mem_cons.mp (show b∈s.heap.objs.size::frs outer from z)with e|e
  ·exact absurd (dn q) (by rw[e];exact jp _)
  ·exact hb e
 have nx:∀b:Addr,b∉([]:List Addr):=fun b=>by simp
 have aa:∀b o,s.heap.get? b=some o->b≠e:=fun b o q z=>by
  rw[z,ag]at q;cases q
 have nt:∀b xs,Hc b=some (.tup xs)->b≠e:=fun b xs q z=>by
  rw[z,hn]at q;cases q
 have no:∀b y,Hc b=some (.own y)->b≠e:=fun b y q z=>by
  rw[z,hn]at q;cases q
 have stk:s2.heap.FunFrames base (ij qual scope s.heap.objs.size f cd::outer):=I.stack;obtain⟨he,_,_⟩:=(show ObjOk P w Hc s2.heap e (exN e C dx t)from I.hok e _ hn);have ae:∀env∈(ij qual scope s.heap.objs.size f cd::outer),∀b,env.frame=some b->b∈e::frs (ij qual scope s.heap.objs.size f cd::outer):=fun env he b hb=>bw _ (List.mem_filterMap.mpr ⟨env,he,hb⟩);generalize hB:W.hideAll s2.heap (e::frs (ij qual scope s.heap.objs.size f cd::outer))=B;have hd:∀b o,s2.heap.get? b=some o->b≠e->b∉frs (ij qual scope s.heap.objs.size f cd::outer)->B.get? b=some o:=fun b o q n1 n=>by
  rw[<- hB];exact W.hideAll_get _ q fun z=>(mem_cons.mp z).elim n1 n
 have kp:∀b o,s.heap.get? b=some o->H b=none->b∉frs outer->B.get? b=some o:=fun b o q n hb=>hd b o (I.base.keep b o q n hb (nx b)) (aa b o q) (nl b o q hb);have ep:∀b o,s.heap.get? b=some o->b∈frs outer\/∃o',B.get? b=some o':=fun b o q=>by
  by_cases hb:b∈frs outer
  ·exact .inl hb
  ·obtain⟨o1,q1⟩:=I.base.there b o q (nx b);exact .inr ⟨o1,hd b o1 q1 (aa b o q) (nl b o q hb)⟩
 have tr:∀b u,Hc b=some u->b≠e->∀o,s2.heap.get? b=some o->B.get? b=some o:=fun b u q n1 o q1=>hd b o q1 n1 fun z=>by
  rw[I.stkFree.free b z]at q;cases q
 have ne:B.get? e=none:=by rw[<- hB];exact W.hideAll_none _ ck
 have ff:s2.heap.FunFrames B (ij qual scope s.heap.objs.size f cd::outer):=by rw[<- hB];exact W.funFrames_hide stk ae
 have bs:B.StaysIn s2.heap:=fun b o q=>by
  rw[<- hB]at q;exact W.of_hideAll _ q
 show bo _ _ (leaving (ij qual scope s.heap.objs.size f cd) (.ref e)) _ _ _;refine Ee af ff rfl he bs ne rfl rfl ⟨rfl,rfl⟩ fun h'' fl sm=>⟨del Hc e,e,C,dx,rfl,⟨I.os,I.bare,⟨fun b o q n hb _=>fl.1 b o (kp b o q n hb),fun b o q n hb _=>?_,fun b o q n _=>?_,fun b o q _=>?_,fun b xs q=>?_,fun b o u q=>?_,fun b ps q=>?_⟩,
  fun b u q=>?_,_,t,fl,kp,ep,fun b u q=>?_⟩,by rw[Js];exact hE⟩
 ·obtain⟨sl,q1⟩:=I.base.slot b o q n hb (nx b);obtain⟨_,o3,q3,nf⟩:=stk.mem (show b∈frs (ij qual scope s.heap.objs.size f cd::outer)from bw _ hb);rw[q1]at q3;cases q3;obtain⟨ac,q4⟩:=sm b _ q1 nf;exact⟨ac,q4⟩
 ·rw[jA (aa b o q)];exact I.base.free b o q n (nx b)
 ·rcases ep b o q with z|⟨o',z⟩
  ·obtain⟨_,o3,q3,_⟩:=fl.2.2.1.mem (show b∈frs outer from z);exact⟨o3,q3⟩
  ·exact⟨o',fl.1 b o' z⟩
 ·have q2:=I.base.tups b xs q;rw[jA (nt _ _ q2)];exact q2
 ·have q2:=I.base.frzs b o u q;rw[jA fun z=>by rw[z,hn]at q2;cases q2];exact q2
 ·have q2:=I.base.tbls b ps q;rw[jA fun z=>by rw[z,hn]at q2;cases q2];exact q2
 ·obtain⟨nb,qb⟩:=yG q;refine(I.hok b u qb).stay (fun c v hc q1=>?_) (fun c q1=>by rw[jA (no _ _ q1)];exact q1) (fun c xs q1=>by rw[jA (nt _ _ q1)];exact q1) fun c o u q1=>by rw[jA fun z=>by rw[z,hn]at q1;cases q1];exact q1
  rcases hc with rfl|hc
  ·exact fl.1 _ _ (tr _ _ qb nb _ q1)
  ·exact fl.1 _ _ (tr _ _ hc (no _ _ hc) _ q1)
 ·obtain⟨nb,qb⟩:=yG q;obtain⟨o,q1⟩:=(I.hok b u qb).obj;exact⟨o,tr b u qb nb o q1⟩
end
section
variable {X:Cx}{E:XK}{x:Str}{C fI:Addr}{fd:jm}{ps:List Str}{sp:Sp}{k:Nat}{np cpos pos:Pos}{e:Expr}{es:List Expr}{t:TA}{CX:CXT}
theorem GM{K:bj}{h h1:Heap}{C:Addr}{ini:Option bb}{o:Obj}(q:ExCls K C ini)(X:K.In h)(X1:K.In h1)(e:h.get? C=some o):h1.get? C=some o:=by
 have z:=q.ty.1;unfold om at z;cases hl:K.lookup C with
 |none=>rw[hl]at z;cases z
 |some o'=>
  have:=X _ _ hl;rw[e]at this;cases this;exact X1 _ _ hl
def uK(E:XK)(C:Addr)(sp:Sp)(t:TA):TS:=fun _ σ H=>t σ H fun vs H1=>∀a tt,H1 a=none->sp (.ref a::vs) (upd H1 a (exN a C none tt)) (fun r H2=>r=.non/\∃dx,H2 a=some (exN a C dx tt)/\E (.ref C) (some a) (upd H2 a (exO a C dx))) fun _ _ _=>False
def RaisesI(X:Cx)(E:XK):Prop:=∀(C:Addr) (zf:List (Addr×Obj)) (σ:St) (H1 H2:Hp) (s1 s2:be) (e t:Addr) (dx:Option Addr),Inv X zf σ H1 s1->s1.heap.get? e=none->Inv X zf σ H2 s2->H2 e=some (exN e C dx t)->E (.ref C) (some e) (upd H2 e (exO e C dx))->X.xe (.ref e) s2
theorem KS(hc:X.calm=true)(hR:RaisesI X E)(hg:Gl X x)(hm:X.mg x=some (.ref C))(q:ExCls X.K C (some (.ref fI)))(hk:mf X.K (.ref C)=true)(ap:W.typeIn X.K (.ref fI)=some (.type "function"))(F:FnOk X.prog X.w X.K X.mg X.base CX k fI fd ps sp)(aj:∀o H s v s',CX o H s (fun _ _ _=>False) v s'->False)(hr:∀us:List bb,Room k (X.A.under (.builtin "type.__call__" ⟨.ref C::us,[]⟩)))(hb:Binds X.K fd ps [])(ag:ps.length<=1000)
  (ha:PA X (e::es) t) (hdb:(x==("__debug__":Str))=false:=by decide) (he:cp (e::es) X.env=(false,eval e X.env)::cp es X.env:=by rfl) (hpl:(kx cpos (cp es X.env)).any (·.1)=false:=by rfl):
  PS X (.Raise (some (.Call (.Name x np) (e::es) [] cpos)) none pos) (uK E C sp t):=by
 intro zf s σ H D I h;obtain⟨tl,N,nm,qn,bs,hd,sn,sub,ab,col,dd,k0,k1,k2,k3,k5,mN,hC,hN,az,T,_⟩:=q.ob _ I.kIn;have aa:tl.contains (.type "BaseException")=true:=T.hasType (b:=true) (by decide +kernel);rw[arm_exec_Raise];refine bc (wpAny_standAt (LK (C:=C) (nm:=nm) (q:=qn) (N:=N) (bs:=bs) (bm:=tl) (hdct:=hd) (sn:=sn) (sub:=sub) (ab:=ab) (col:=col) (dd:=dd) (k0:=k0) (k1:=k1) (k2:=k2) (k3:=k3) (k5:=k5) (newId:="ValueError.__new__") aa (I.ok.hd hc) (bc (gm (wpAny_Call_ofName (nV I hg hm ?_ hdb)) (fun v s3 h3=>bc (wpAny_standAt (bh h3))) fun _ _ x=>x))));refine W.callWith_K (h₀:=X.base) I.ok.mod.kin hk (thn (ha cpos zf s σ H _ I h) fun us s1 ⟨vs,H1,I1,r,q1⟩=>⟨I1.kIn,?_⟩) he hpl;obtain⟨aw,N1,ax,a1,as,au,a2,ar,av,aq,a0,l0,l1,l2,l3,l5,ay,ai,an,al,T1,_⟩:=q.ob _ I1.kIn;obtain⟨oI,ah,ao⟩:∃oI,s1.heap.get? fI=some oI/\oI.cls=.type "function":=by
  have z:Option.map (fun x:Obj=>x.cls) (X.K.lookup fI)=some (.type "function"):=ap;cases hl:X.K.lookup fI with
  |none=>rw[hl]at z;cases z
  |some o=>rw[hl]at z;exact⟨o,I1.kIn _ _ hl,fc z⟩
 obtain⟨h1,g1,d1,ak,a4⟩:=s1;have ae:us.length<=br:=by
  have hz:=r.length;have:=F.len _ _ _ _ (q1 h1.objs.size 0 (I1.hok.fresh (cw _)));have a3:ps.length<=1000:=ag;rw[cn]at this;rw[jg];omega
 refine Ho T1 ai an al ah ao (fun h' e2 hz mk=>?_) ae;obtain⟨t2,am,_,_⟩:=mk.there;have J:=I1.laid (a:=e2) (o:=exN e2 C none t2) (h':=h') (t':=ak) mk.keeps hz (Co am);have qq:=q1 e2 t2 (I1.hok.fresh hz);have hl:(bu e2::us).length=ps.length:=by
  have:=F.len _ _ _ _ qq;rw[cn]at this ⊢;rw[<- r.length];exact this
 have af:=hb _ (bu e2::us) J.kIn (by rw[gq];exact hl);rw[gq]at af;refine wpAny_call (ml (F.run _ X.stack _ _ ⟨bu e2::us,[]⟩ (bu e2::us) (.ref e2::vs) _ _ (hr us) (J.env0.make C us []) af (.cons rfl r) qq) fun rr s' hq=>?_);cases rr with
 |error v=>exact(aj _ _ _ _ _ hq).elim
 |ok fl=>
  cases fl with
  |ret u=>
   obtain⟨y,H2,I2,ry,rfl,dx,ac,hE⟩:=J.after hq;cases (show u=gh from ry);obtain⟨e3,_,_⟩:=(show ObjOk X.prog X.w H2 s'.heap e2 (exN e2 C dx t2)from I2.hok e2 _ ac);exact⟨rfl,e2,t2,dx,rfl,GM q I.kIn I2.kIn hC,e3,hR C zf σ H1 H2 _ s' e2 t2 dx I1 mk.new I2 ac hE⟩
  |next=>exact fu hq
  |brk=>exact fu hq
  |cont=>exact fu hq
end
theorem Et{P:bz}{w:dh}{K:bj}{mg:Str->Option bb}{base:Heap}{N:List Str}{qual:Str}{scope:Scope}{f:Addr}{cd:bb}{A:cz}{outer:List Env}{s:be}{H:Hp}{E:XK}:
  RaisesI (cE (CX1 P w) P w K mg base N qual scope f cd A outer s H E) E:=fun C zf σ H1 H2 s1 s2 e t dx I1 ne I2 hn hE=>Iz I2 hn (by
 cases z:s.heap.get? e with
 |none=>rfl
 |some o=>
  obtain⟨o1,q1⟩:=I1.base.there e o z (fun z=>by cases z);rw[ne]at q1;cases q1) hE
end L2
namespace L2
open PySem PySem.Spec PyProof.Rows
section
def spI(K:bj)(ns:List Str):Sp:=fun vs H Q _=>∃a C t ws,vs=.ref a::ws/\ws.length=ns.length/\ExI K C/\(∀n∈ns,NoAttr K C n)/\H a=some (exN a C none t)/\∀dx,H dx=none->Q .non (upd (upd H a (exN a C (some dx) t)) dx (xw dx (ns.zip ws)))
theorem init2{K:bj}{n m:Str}{N:List Str}{vs:List V}{H:Hp}{Q:VK}{E:XK}(ne:n≠m)(h:spI K [n,m] vs H Q E):aR (uT K (cO 0) (cO 1) n) (uT K (cO 0) (cO 2) m) { nx:=fun _ H'=>Q .non H',rt:=Q } (start N vs) H:=by
 obtain⟨a,C,t,ws,rfl,hl,xi,na,ha,q⟩:=h;obtain⟨w,v,rfl⟩:∃w v,ws=[w,v]:=by
  match ws,hl with
  | [w,v],_=>exact⟨w,v,rfl⟩
 refine⟨w,rfl,_,rfl,a,C,t,rfl,xi,na n yv,.inl ⟨ha,fun dx hd=>?_⟩⟩;have nx:dx≠a:=fun z=>by
  rw[z,ha]at hd;cases hd
 refine⟨v,rfl,_,rfl,a,C,t,rfl,xi,na m yv,.inr ⟨dx,[(n,w)],?_,zP,nx,yv,?_⟩⟩
 ·rw[zE (gs nx),zP]
 ·have e:cW m v [(n,w)]=[n,m].zip [w,v]:=by simp[cW,ne]
  show Q .non _;rw[e,Ff];exact q dx hd
theorem Cw{H:Hp}:∀{ns:List Str}{ds:List bd}{vs:List V},HasL H ds vs->∀f dt,(ns.zip ds).lookup f=some dt->∃u,(ns.zip vs).lookup f=some u/\Has H dt u
 | [],_,_,_,f,dt,e=>by simp at e
 |n::ns,[],_,_,f,dt,e=>by simp at e
 |n::ns,d::ds,vs,l,f,dt,e=>by
  obtain⟨v,r,rfl,hv,l'⟩:=zn.mp l;rw[zip_cons_cons,iz]at e;by_cases z:f=n
  ·subst z;simp at e;subst e;exact⟨v,yv,hv⟩
  ·have zz:(f==n)=false:=by simp[z]
   rw[zz]at e;obtain⟨u,e1,e2⟩:=Cw l' f dt e;exact⟨u,by rw[zip_cons_cons,iz,zz];exact e1,e2⟩
def jQ(EX:EXD)(C:Addr)(ns:List Str)(da:DA):DS:=fun _ δ S=>da δ S fun xs _=>∃ds,datas xs=some ds/\ds.length=ns.length/\EX C (ns.zip ds)
theorem JR{E:XK}{EX:EXD}{K:bj}{C:Addr}{ns:List Str}{ta:TA}{da:DA}(hI:ExI K C)(hn:∀n∈ns,NoAttr K C n)(ha:RA ta da):RSx E EX (uK E C (spI K ns) ta) (jQ EX C ns da):=fun h o H δ σ S En D he hs q c x=>
 ha h o H δ σ S _ _ he hs q fun o1 H1 S1 xs vs e1 s1 x1 ⟨ds,ed,hl,hE⟩ a tt na=>by
  have ac:=eL ed;have hL:=k9 x1 ac;refine⟨a,C,tt,vs,rfl,by rw[hL.length];exact hl,hI,hn,zP,fun dx nd=>⟨rfl,some dx,?_,?_⟩⟩
  ·have ne:dx≠a:=fun z=>by rw[z,zP]at nd;cases nd
   rw[zE (gs ne),zP]
  ·have ne:dx≠a:=fun z=>by rw[z,zP]at nd;cases nd
   have aa:H1 dx=none:=by rwa [zE ne]at nd
   have ae:upd H1 dx (xw dx (ns.zip vs)) a=none:=by rw[zE (gs ne)];exact na
   have eH:upd (upd (upd (upd H1 a (exN a C none tt)) a (exN a C (some dx) tt)) dx (xw dx (ns.zip vs))) a (exO a C (some dx))=upd (upd H1 dx (xw dx (ns.zip vs))) a (exO a C (some dx)):=by
    funext b;unfold upd;split
    ·rfl
    ·rfl
   rw[eH];have sU:=(Same.laid (o:=xw dx (ns.zip vs)) aa).trans (Same.laid (o:=exO a C (some dx)) ae);have fa:=s1.fresh na;have fd:=s1.fresh aa;refine(x.pre e1) o1 _ S1 C a (ns.zip ds) (Ex.of_same sU) (s1.same sU) ⟨a,some dx,rfl,zL.mpr ⟨fa.1,fa.2,zP⟩,fun f dt l=>?_⟩ hE;obtain⟨u,e2,e3⟩:=Cw hL f dt l;exact⟨dx,ns.zip vs,u,rfl,zL.mpr ⟨fd.1,fd.2,by rw[zE ne,zP]⟩,e2,Has.mono (tJ sU) _ _ e3⟩
end
end L2
namespace L2
open PySem PySem.Spec PySem.Calls PyProof.Rows
def tXA(K:bj)(te:TE)(f:Str):TE:=fun σ H Q=>te σ H fun x H1=>∃a C dx vs u,x=.ref a/\H1 a=some (exO a C (some dx))/\H1 dx=some (xw dx vs)/\ExI K C/\NoAttr K C f/\vs.lookup f=some u/\Q u H1
theorem qX{X:Cx}{e:Expr}{te:TE}{f:Str}{pos:Pos}(he:PE X e te)(hb:ls e f X.env (eval e X.env)=eval e X.env):PE X (.Attribute e f pos) (tXA X.K te f):=by
 intro zf s σ H Q I h;refine IB hb (thn (he zf s σ H _ I h) fun u s1 ⟨x,H1,I1,rx,a,C,dx,vs,v,ex,ea,ed,xi,na,l,q⟩=>?_);subst ex;obtain rfl:u=bu a:=rx;obtain⟨hp,g,d,t,os⟩:=s1;obtain⟨⟨o,e1,hc,hd,fv,aa,_⟩,_,_⟩:=(show ObjOk X.prog X.w H1 hp a (exO a C (some dx))from I1.hok a _ ea);obtain⟨⟨mA,n1,r1,w1⟩,_,_⟩:=(show ObjOk X.prog X.w H1 hp dx (xw dx vs)from I1.hok dx _ ed);obtain⟨od,ho,hl⟩:=D4 n1;have rr:RelO (some v) (mA f):=by rw[<- l];exact r1 f
 obtain⟨w,hw,rv⟩:∃w,mA f=some w/\RelV v w:=by
  cases z:mA f with
  |none=>rw[z]at rr;cases rr
  |some w=>rw[z]at rr;exact⟨w,rfl,rr⟩
 have T0:∀M,W.Looks M hp (typeOf (.ref a)) (.ref C):=fun M=>hc▸(W.Looks.ld e1).andThen .now;exact JO (v:=w) I1.kIn T0 ⟨xi.k.ga,xi.k.gn,(xi.k.mroIn _).trans (by simp[exM])⟩ (W.looks_find I1.kIn ⟨e1,hc,by unfold W.notCls;rw[aa],by rw[hd];exact ho⟩ (W.findObj_own xi.hd na rfl (by rw[hl,hw]))) (JG rv) ⟨v,H1,I1.tok _,rv,q⟩
structure ExsI(K:bj)(Cs:List Addr)(f:Str):Prop where
 i:∀C∈Cs,ExI K C
 n:∀C∈Cs,NoAttr K C f
def dXA(Cs:List Addr)(de:DE)(f:Str):DE:=fun δ S R=>de δ S fun x S1=>∃C fs d,x=.x C fs/\C∈Cs/\fs.lookup f=some d/\R (.d d) S1
theorem qZ{K:bj}{Cs:List Addr}{te:TE}{de:DE}{f:Str}(X0:ExsI K Cs f)(he:RE te de):RE (tXA K te f) (dXA Cs de f):=fun h o H δ σ S R Q hE hs q c=>
 he h o H δ σ S _ _ hE hs q fun o1 H1 S1 x v e1 s1 x1 d1=>by
  obtain⟨C,fs,d,rfl,hC,hl,q1⟩:=d1;obtain⟨a,z,rfl,ha,hf⟩:=(show HasE (vx h o1 H1) C fs v from x1);obtain⟨dx,vs,u,rfl,e2,e3,e4⟩:=hf f d hl;exact⟨a,C,dx,vs,u,rfl,zU _ _ ha,zU _ _ e2,X0.i C hC,X0.n C hC,e3,c o1 H1 S1 (.d d) u e1 s1 e4 q1⟩
end L2
namespace L2
open PySem PySem.Spec PyProof.Rows
section
def xF(o:Obj):Bool:=match o.data with
 | .dict es _=>es.toList.all fun e=>match e.key with | .str _ _=>true|_=>false
 |_=>false
theorem GL{K:bj}{N:Addr}{o:Obj}(l:K.lookup N=some o)(h:xF o=true):W.nsOkIn K N=true:=by
 unfold W.nsOkIn;rw[l];obtain⟨a,b,c,d⟩:=o;cases c with
 |dict es n=>
  show (es.all fun e=>match e.key with | .str _ _=>true|_=>false)=true;rw[<- Array.all_toList];exact h
 |_=>cases h
theorem exc_ofI{K:bj}{C N fI:Addr}{nm qn:Str}{bs:List bb}{hd:Bool}{sn:List Str}{sub:List bb}{ab:Bool}{col:Option Bool}{dd:Option Addr}{k0 k1 k2 k3 k5:Option bb}
  (l:K.lookup C=some (excClassObj nm qn C N bs (.ref 24::veB) hd sn sub ab col dd k0 k1 k2 k3 k5 "ValueError.__new__")) {oN:Obj} (lN:K.lookup N=some oN) (sN:xF oN=true) (i:W.nsIn K N "__init__" = some (some (.ref fI))) (G:ExCls K 24 none):ExCls K C (some (.ref fI)):=by
 have ok:=GL lN sN;refine⟨fun h X=>?_,?_,?_⟩
 ·obtain⟨al,NG,aj,ag,am,ai,ao,ae,ah,af,ak,j0,j1,j2,j3,j5,an,hG,ac,aa,_,_⟩:=G.ob h X;have z:h.Ns N (h.nsMap N):=.of_isNs (W.isNs_of_in X ok);refine⟨.ref 24::veB,N,nm,qn,bs,hd,sn,sub,ab,col,dd,k0,k1,k2,k3,k5,h.nsMap N,X _ _ l,z,Ks X z i,.own hG ac aa .base,fun D=>?_⟩;unfold W.mroIn om;rw[l];rfl
 ·unfold om;rw[l];rfl
 ·show Option.map (fun x:Obj=>x.cls) (K.lookup C)=_;rw[l];rfl
end
section
abbrev Phi:=List Addr->List Addr->Hp->Prop
class Stb (Φ:Phi):Prop where
 st:∀{h o o':List Addr}{H H':Hp},Φ h o H->Ex o H o' H'->Φ h o' H'
def PhX(E:XK)(EX:EXD):Phi:=fun h o H=>CnX h o H EX E
instance {E:XK}{EX:EXD}:Stb (PhX E EX):=⟨fun x e=>CnX.pre x e⟩
def REp(Φ:Phi)(t:TE)(dt:DE):Prop:=∀(h o:List Addr) (H:Hp) (δ:XE) (σ:St) (S:Sto) (R:RX) (Q:VK),RepE h o H δ σ->RepS h o H S->dt δ S R->Cn h o H R Q->Φ h o H->t σ H Q
def RTp(Φ:Phi)(t:TT)(dt:DT):Prop:=∀(h o:List Addr) (H:Hp) (δ:XE) (σ:St) (S:Sto) (R:Bool->Sto->Prop) (Q:Bool->Hp->Prop),RepE h o H δ σ->RepS h o H S->dt δ S R ->
 (∀o' H' S' b,Ex o H o' H'->RepS h o' H' S'->R b S'->Q b H')->Φ h o H->t σ H Q
def RAp(Φ:Phi)(t:TA)(dt:DA):Prop:=∀(h o:List Addr) (H:Hp) (δ:XE) (σ:St) (S:Sto) (R:List XV->Sto->Prop) (Q:List V->Hp->Prop),RepE h o H δ σ->RepS h o H S->dt δ S R ->
 (∀o' H' S' xs vs,Ex o H o' H'->RepS h o' H' S'->HasXs h o' H' xs vs->R xs S'->Q vs H')->Φ h o H->t σ H Q
def RIp(Φ:Phi)(w:TI)(di:DI):Prop:=∀(h o:List Addr) (H:Hp) (δ:XE) (σ:St) (S:Sto) (R:List bd->Sto->Prop) (Q:It->Hp->Prop),RepE h o H δ σ->RepS h o H S->di δ S R ->
 (∀o' H' S' ds J,Ex o H o' H'->RepS h o' H' S'->WalkX h o' H' J ds->R ds S'->Q J H')->Φ h o H->w σ H Q
section
variable {Φ:Phi} [Stb Φ] {ta tb te:TE}{da db de:DE}{tl:TA}{dl:DA}{tt tu:TT}{dt du:DT}
theorem bU(a:RE te de):REp Φ te de:=fun h o H δ σ S R Q he hs q c _=>a h o H δ σ S R Q he hs q c
theorem kQ(a:RT tt dt):RTp Φ tt dt:=fun h o H δ σ S R Q he hs q c _=>a h o H δ σ S R Q he hs q c
theorem cN(a:RA tl dl):RAp Φ tl dl:=fun h o H δ σ S R Q he hs q c _=>a h o H δ σ S R Q he hs q c
theorem uE{w:TI}{di:DI}(a:RI w di):RIp Φ w di:=fun h o H δ σ S R Q he hs q c _=>a h o H δ σ S R Q he hs q c
theorem rB(ha:REp Φ ta da)(hb:RAp Φ tl dl):RAp Φ (jH ta tl) (zc da dl):=fun h o H δ σ S R Q he hs q c x=>
 ha h o H δ σ S _ _ he hs q (fun o1 H1 S1 y v e1 s1 x1 d1=>hb h o1 H1 δ σ S1 _ _ (he.mono e1) s1 d1 (fun o2 H2 S2 xs vs e2 s2 x2 d2=>
  c o2 H2 S2 (y::xs) (v::vs) (e1.trans e2) s2 ⟨v,vs,rfl,x1.mono e2,x2⟩ d2) (Stb.st x e1)) x
theorem E7{r:R2}{rd:D2}(hr:RO r rd)(ha:REp Φ ta da)(hb:REp Φ tb db):REp Φ (tOp r ta tb) (dOp rd da db):=fun h o H δ σ S R Q he hs q c w=>
 ha h o H δ σ S _ _ he hs q (fun o1 H1 S1 x v e1 s1 x1 d1=>hb h o1 H1 δ σ S1 _ _ (he.mono e1) s1 d1 (fun o2 H2 S2 y u e2 s2 y2 d2=>
  hr h o2 H2 S2 x y v u R Q s2 (x1.mono e2) y2 d2 (c.pre (e1.trans e2))) (Stb.st w e1)) w
theorem Ih(ha:RAp Φ tl dl):REp Φ (w4 tl) (aI dl):=fun h o H δ σ S R Q he hs q c w=>
 ha h o H δ σ S _ _ he hs q (fun o1 H1 S1 xs vs e1 s1 x1 ⟨ds,e,hl,d1⟩=>by
  have l:=k9 x1 (eL e);exact⟨by rw[l.length];exact im (small1000 hl),kA s1 l (c.pre e1) d1⟩) w
theorem Kq(ha:REp Φ ta da):REp Φ (tOp vO ta (tC .non)) (dOp cX da (dC .none)):=fun h o H δ σ S R Q he hs q c w=>
 ha h o H δ σ S _ _ he hs q (fun o1 H1 S1 x v e1 s1 x1 d1=>by
  replace d1:=c4 d1;obtain⟨d,rfl,d1⟩:=d1;have e:=wV (show Has _ d v from x1);exact⟨rfl,by rw[e];exact c o1 H1 S1 _ _ e1 s1 (xB _) d1⟩) w
theorem rL(ha:REp Φ ta da):RTp Φ (oH ta) (dB da):=fun h o H δ σ S R Q he hs q c w=>
 ha h o H δ σ S _ _ he hs q (fun o1 H1 S1 x v e1 s1 x1 d1=>by
  replace d1:=n6 d1;obtain⟨b,rfl,d1⟩:=d1;exact⟨b,gQ x1,c o1 H1 S1 b e1 s1 d1⟩) w
theorem Ic{ps:List Str}{q:PN}{m:Nat}(ha:RAp Φ tl dl)(hm:ps.length=m:=by rfl):REp Φ (fQ (spN ps q) [] E0 tl) (aE m q dl):=fun h o H δ σ S R Q he hs w c x=>
 ha h o H δ σ S _ _ he hs w (fun o1 H1 S1 xs vs e1 s1 x1 ⟨ds,e,hl,d1⟩=>by
  have ex:=eL e;subst ex;have hv:=x1.len;rw[gq];exact⟨by rw[hv,cg,hl,hm],h++o1,[],[],_,_,rep0 s1,hxs0 x1,d1,cn0 s1 (c.pre e1)⟩) x
end
section
variable {E:XK}{EX:EXD}{ta tb te:TE}{da db de:DE}{tl:TA}{dl:DA}{tt tu:TT}{dt du:DT}
def bS(EX:EXD)(m:Nat)(q:PX)(da:DA):DE:=fun δ S R=>da δ S fun xs S1=>∃ds,datas xs=some ds/\ds.length=m/\q (ds.map XV.d) [] (ret0 S1 R) EX
theorem CnX.out{h o:List Addr}{H:Hp}{S:Sto}(hs:RepS h o H S)(x:CnX h o H EX E):CnX (h++o) [] H EX E:=fun o' H' S' C a fs e' s' hE q=>by
 have sH:Same H H':=fun b u eb=>(e'.kp b u yv eb).2;have sv:Same (vx (h++o) o' H') (vx h o H'):=fun b u eb=>by
  obtain⟨n1,n2,n3⟩:=zL.mp eb;exact zL.mpr ⟨fun z=>n1 (cq _ z),fun z=>n1 (cv _ z),n3⟩
 exact x o H' S C a fs (Ex.of_same sH) (hs.same sH) (HasE.mono sv hE) q
theorem c8{ps:List Str}{q:PX}{m:Nat}(ha:RAp (PhX E EX) tl dl)(hm:ps.length=m:=by rfl):REp (PhX E EX) (fQ (spX ps q) [] E tl) (bS EX m q dl):=fun h o H δ σ S R Q he hs w c x=>
 ha h o H δ σ S _ _ he hs w (fun o1 H1 S1 xs vs e1 s1 x1 ⟨ds,e,hl,d1⟩=>by
  have ex:=eL e;subst ex;have hv:=x1.len;rw[gq];exact⟨by rw[hv,cg,hl,hm],h++o1,[],[],_,_,EX,rep0 s1,hxs0 x1,d1,cn0 s1 (c.pre e1),(x.pre e1).out s1⟩) x
theorem fY(ha:REp (PhX E EX) te de):RSx E EX (mT te) (aC de):=fun h o H δ σ S En D he hs q c x=>ha h o H δ σ S _ _ he hs q c.rt x
theorem CM(ha:REp (PhX E EX) te de):RSx E EX (oO te) (bV de):=fun h o H δ σ S En D he hs q c x=>
 ha h o H δ σ S _ _ he hs q (fun o1 H1 S1 y v e1 s1 x1 d1=>c.nx o1 H1 δ S1 σ e1 (he.mono e1) s1 d1) x
theorem uN{g:TG}{dg:DG}(ha:REp (PhX E EX) te de)(hg:RG g dg):RSx E EX (iN te g) (aA de dg):=fun h o H δ σ S En D he hs q c x=>
 ha h o H δ σ S _ _ he hs q (fun o1 H1 S1 y v e1 s1 x1 d1=>hg h o1 H1 δ σ S1 y v _ _ (he.mono e1) s1 x1 d1 (c.nx.pre e1)) x
theorem kX{t u:TS}{ds dv:DS}(hc:RTp (PhX E EX) tt dt)(ht:RSx E EX t ds)(hu:RSx E EX u dv):RSx E EX (nN tt t u) (aJ dt ds dv):=fun h o H δ σ S En D he hs q c x=>
 hc h o H δ σ S _ _ he hs q (fun o1 H1 S1 b e1 s1 d1=>by
  cases b with
  |true=>exact eT (ht h o1 H1 δ σ S1 En D (he.mono e1) s1 (by simpa using d1) (c.pre e1) (x.pre e1))
  |false=>exact eI (hu h o1 H1 δ σ S1 En D (he.mono e1) s1 (by simpa using d1) (c.pre e1) (x.pre e1))) x
end
section
variable {Φ:Phi} [Stb Φ] {ta tb te:TE}{da db de:DE}
theorem IC{K:bj}(ha:REp Φ te de):RIp Φ (wG K te) (aQ de):=fun h o H δ σ S R Q he hs q c w=>
 ha h o H δ σ S _ _ he hs q (fun o1 H1 S1 x v e1 s1 x1 d1=>by
  have z:=b9 (K:=K) (zl (i:=0)) h o1 H1 [some x] [some v] S1 R Q ⟨rfl,fun i y e=>by
   cases i with
   |zero=>cases e;exact⟨v,rfl,x1⟩
   |succ i=>simp at e⟩ s1 ⟨x,rfl,d1⟩ (fun o2 H2 S2 ds J e2=>c o2 H2 S2 ds J (e1.trans e2))
  obtain⟨v',e,z⟩:=z;cases e;exact z) w
theorem Jm{caps:List (Option Nat)}{wi:TI}{g:TG}{tt:TT}{te:TE}{di:DI}{dg:DG}{ae:DT}{af:DE}(hi:RIp Φ wi di)(hg:RG g dg)(ht:RT tt ae)(ak:RE te af)
  {h o:List Addr}{H:Hp}{δ:XE}{σ:St}{S:Sto}{Q:VK}{fin:Nat->Sto->Prop} (w:Φ h o H) (he:RepE h o H δ σ) (hs:RepS h o H S) (q:di δ S fun ds S1=>bM S1.length dg ae af (fin S1.length) ds (eR caps δ) (S1++[[]]))
  (c:∀o1 H1 D o2 H2 S2,Ex o H o1 H1->H1 D=none->Ex (o1++[D]) (upd H1 D (.lst [])) o2 H2->RepS h o2 H2 S2->fin o1.length S2->Q (.ref D) H2):iD caps wi g tt te σ H Q:=by
 refine hi h o H δ σ S _ _ he hs q (fun o1 H1 S1 ds J e1 s1 wk d1 D hD=>?_) w;have eN:Ex o1 H1 (o1++[D]) (upd H1 D (.lst [])):=Ex.new s1 hD;have sN:RepS h (o1++[D]) (upd H1 D (.lst [])) (S1++[[]]):=s1.new hD (zv.mpr rfl);have hn:S1.length=o1.length:=s1.len;refine⟨fun i m τ H2=>m=ds.length-i/\i<=ds.length/\∃o2 δ2 S2,Ex (o1++[D]) (upd H1 D (.lst [])) o2 H2/\RepE h o2 H2 δ2 τ/\RepS h o2 H2 S2/\bM S1.length dg ae af (fin S1.length) (ds.drop i) δ2 S2,⟨ds.length,yv,mj _,_,_,_,Ex.refl,((he.mono e1).mono eN).tau,sN,d1⟩,?_⟩;rintro i m τ H2 ⟨rfl,hi,o2,δ2,S2,e2,al,ac,d2⟩;by_cases hlt:i<ds.length
 ·have ed:ds[i]?=some ds[i]:=bq hlt;rw[jz hlt]at d2;refine .inr ⟨wk.go i _ o2 H2 (eN.trans e2).hid ed,fun x H3 y=>?_⟩;obtain⟨s3,hx⟩:=wk.yld i _ o2 H2 x H3 S2 (eN.trans e2).hid ac ed y;have ai:Ex o2 H2 o2 H3:=Ex.of_same s3;refine hg h o2 H3 δ2 τ S2 (.d ds[i]) x _ _ (al.mono ai) (ac.same s3) hx d2 fun o4 H4 δ4 S4 τ4 e4 aa aj d4=>?_;refine ht h o4 H4 δ4 τ4 S4 _ _ aa aj d4 fun o5 H5 S5 b e5 s5 d5=>?_;have ah:=((e2.trans ai).trans e4).trans e5;cases b with
  |false=>exact eI ⟨ds.length-(i+1),yw,rfl,hlt,o5,δ4,S5,ah,aa.mono e5,s5,by simpa using d5⟩
  |true=>
   refine eT (ak h o5 H5 δ4 τ4 S5 _ _ (aa.mono e5) s5 (by simpa using d5) fun o6 H6 S6 z v e6 s6 z6 d6=>?_);replace d6:=c4 d6;obtain⟨e,rfl,acc,ea,hl,d6⟩:=d6;have ag:=ah.trans e6;have eD:o6[S1.length]?=some D:=by
    obtain⟨r,rfl⟩:=ag.pre;rw[hn];exact fH (by rw[bn])
   obtain⟨vs,ev,l⟩:=s6.cont _ D acc eD ea;refine⟨vs,ev,by rw[l.length];exact small1000 (im hl),ds.length-(i+1),yw,rfl,hlt,o6,δ4,_,ag.trans (Ex.upd eD),((aa.mono e5).mono e6).mono (Ex.upd eD),s6.upd eD (l.append (zn.mpr ⟨v,[],rfl,z6,zv.mpr rfl⟩)),d6⟩
 ·have ei:i=ds.length:=yw
  subst ei;rw[drop_length]at d2;exact .inl ⟨wk.stop _ o2 H2 (eN.trans e2).hid (cw _),c o1 H1 D o2 H2 S2 e1 hD e2 ac (hn▸d2)⟩
theorem LG{caps:List (Option Nat)}{wi:TI}{g:TG}{tt:TT}{te:TE}{di:DI}{dg:DG}{aa:DT}{ac:DE}(hi:RIp Φ wi di)(hg:RG g dg)(ht:RT tt aa)(ae:RE te ac):REp Φ (iD caps wi g tt te) (bK caps di dg aa ac):=fun h o H δ σ S R Q he hs q c w=>by
 refine Jm (w:=w) (fin:=fun n S2=>∃(S0:Sto) (acc:List bd),S2=S0++[acc]/\S0.length=n/\R (.d (.list acc)) S0) hi hg ht ae he hs q fun o1 H1 D o2 H2 S2 e1 hD e2 s2 ⟨S0,acc,eS,hl,f⟩=>?_;subst eS;have eN:Ex o1 H1 (o1++[D]) (upd H1 D (.lst [])):=⟨⟨[D],rfl⟩,fun b w hb e=>by
  have ne:b≠D:=zG e hD;exact⟨by simp[hb,ne],by rw[zE ne];exact e⟩⟩
 have z:=eN.trans e2;obtain⟨r,rfl⟩:=e2.pre;have er:r=[]:=by
  have:=s2.len;simp only[bx,fb,hl]at this;exact fm yw
 subst er;rw[gq]at s2 z;have s0:RepS h o1 H2 S0:=s2.pop hl;refine c o1 H2 S0 (.d (.list acc)) _ (e1.trans (Ex.pop (o':=o1) z)) s0 ?_ f;obtain⟨vs,ev,l⟩:=s2.cont o1.length D acc (by rw[bn]) (by rw[<- hl,bn]);have nD:D∉o1:=by
  have:=(nodup_append.mp s2.nd).2.2;intro m;exact this D m D yv rfl
 exact cU.mpr ⟨D,vs,rfl,zL.mpr ⟨s2.dis D yv,nD,ev⟩,l.mono dW⟩
end
section
variable {X:Cx}{E:XK}
theorem dD{x:Str}{ps:List Str}{k j:Nat}{pos pos':Pos}{e:Expr}{es:List Expr}{t:TA}{q:PX}(D:DfX X.prog X.w X.K X.mg X.base x ps k (spX ps q))(hp:Passes (CX1 X.prog X.w) X E)(hr:Room j X.A)(hk:k<=j)(ha:PA X (e::es) t)(hg:Gl X x:=by rfl)(z:(x==("__debug__":Str))=false:=by decide)
  (q1:cp (e::es) X.env=(false,eval e X.env)::cp es X.env:=by rfl) (q2:((kx pos (cp es X.env)).any fun x=>x.fst)=false:=by rfl):PE X (.Call (.Name x pos') (e::es) [] pos) (fQ (spX ps q) [] E t):=by
 obtain⟨f,fd,F,hm,kp,hb⟩:=D.ex;exact wW (dvs:=[]) (ds:=[]) (E:=E) F (hr.mono hk) hg hm kp hb .nil hp ha z q1 q2
end
section
variable {X:Cx}{scope:Scope}{cl:List (Str×Addr)}{N:List Str}{caps:List (Option Nat)}{tg iter elt:Expr}{ifs:List Expr}{pos:Pos}{wi:TI}{g:TG}{tt:TT}{te:TE}
theorem Fw(hc:X.calm=true)(c:CompOk X scope cl N caps)(hi:PI X tg iter wi)(hg:∀C s H fp,PG (bQ X scope cl C s H fp N) tg g)(ht:∀C s H fp,PTs (bQ X scope cl C s H fp N) ifs tt)(he:∀C s H fp,PE (bQ X scope cl C s H fp N) elt te)
  (hs:∀x,foldedSetIterable iter X.env x=pure x:=by intro _;rfl):PE X (.ListComp elt [⟨tg,iter,ifs,0⟩] scope pos) (iD caps wi g tt te):=by
 intro zf s σ H Q I h;rw[eval_ListComp];refine wpAny_comprehension_free (use:=none) rfl hs c.clos c.kind c.names (thn (hi zf s σ H _ I h) fun v s1 h1=>thn h1 fun aa s2 h2=>?_);obtain⟨it,fp,tn,J,H2,e,I2,T,z,f2,q2⟩:=h2;subst e;exact v8 (RR:=fun acc C=>compPost (model X.prog X.w) X.A X.xe none (EP X zf σ Q) acc C) hc c I2 T z f2 hg ht he Q q2 fun D C H' s' m hn _ hb q=>⟨m,hn,fun h' hs=>⟨.ref D,H',hb h' hs,rfl,q⟩⟩
end
structure XI(K:bj)(C:Addr)(ns:List Str)(qual:Str)(st:Stmt):Prop where
 ex:∃fI fd,ExCls K C (some (.ref fI))/\W.typeIn K (.ref fI)=some (.type "function")/\Fun K "__init__" qual st fI fd/\Binds K fd (("self":Str)::ns) []
 kc:mf K (.ref C)=true
 i:ExI K C
 na:∀n∈ns,NoAttr K C n
theorem XI.mk'{K:bj}{C N fI:Addr}{ns:List Str}{qual:Str}{st:Stmt}{nm qn:Str}{bs:List bb}{hd:Bool}{sn:List Str}{sub:List bb}{ab:Bool}{col:Option Bool}{dd:Option Addr}{k0 k1 k2 k3 k5:Option bb}{oc:bb}{od an:Option Addr}{ac:Array (Option bb)}{kV aa pm z ct:bb}
  (l:K.lookup C=some (excClassObj nm qn C N bs (.ref 24::veB) hd sn sub ab col dd k0 k1 k2 k3 k5 "ValueError.__new__")) {oN:Obj} (lN:K.lookup N=some oN) (sN:xF oN=true) (i:W.nsIn K N "__init__" = some (some (.ref fI))) (G:ExCls K 24 none)
  (tf:W.typeIn K (.ref fI)=some (.type "function")) (lf:K.lookup fI=some ⟨oc,od,.func (W.fnOf "__init__" qual (gL st) (cL st) (zh st) .none kV aa pm an z ct),ac⟩) (c:W.codeIn K z qual=true) (kf:mf K (.ref fI)=true)
  (hb:∀(kV aa pm:bb) (an:Option Addr) (z ct:bb) (us:List bb),us.length=(("self":Str)::ns).length->bindArgs (W.fnOf "__init__" qual (gL st) (cL st) (zh st) .none kV aa pm an z ct) ⟨us,[]⟩=pure ((("self":Str)::ns).zip us))
  (kc:mf K (.ref C)=true) (ek:ExK K C) (hdd:W.hasDictIn K C=true) (sa:nj K (.ref C) "__setattr__" = some (some (.builtin "object.__setattr__"))) (na:∀n∈ns,NoAttr K C n):XI K C ns qual st:=
 ⟨⟨fI,_,exc_ofI l lN sN i G,tf,rK (st:=st) lf c kf,(rK (st:=st) lf c kf).binds hb⟩,kc,⟨ek,hdd,sa⟩,na⟩
theorem FN{K:bj}{ns:List Str}(vs:List V)(H:Hp)(Q:VK)(E:XK)(h:spI K ns vs H Q E):vs.length=(("self":Str)::ns).length:=by
 obtain⟨a,C,t,ws,rfl,hl,_⟩:=h;rw[cn,cn,hl]
section
variable {X:Cx}{E:XK}{x:Str}{C:Addr}{ns:List Str}{qual:Str}{st:Stmt}{j:Nat}{np cpos pos:Pos}{e:Expr}{es:List Expr}{t:TA}
theorem F4(B:XI X.K C ns qual st)(hF:∀f fd,Fun X.K "__init__" qual st f fd->FnOk X.prog X.w X.K X.mg X.base CX0 1 f fd (("self":Str)::ns) (spI X.K ns))(hR:RaisesI X E)(hr:Room j X.A)(hj:2<=j)(hm:X.mg x=some (.ref C))(hn:ns.length<=9)
  (ha:PA X (e::es) t) (hc:X.calm=true:=by rfl) (hg:Gl X x:=by rfl) (hdb:(x==("__debug__":Str))=false:=by decide) (he:cp (e::es) X.env=(false,eval e X.env)::cp es X.env:=by rfl) (hpl:(kx cpos (cp es X.env)).any (·.1)=false:=by rfl):
  PS X (.Raise (some (.Call (.Name x np) (e::es) [] cpos)) none pos) (uK E C (spI X.K ns) t):=by
 obtain⟨fI,fd,q,aa,F,hb⟩:=B.ex;exact KS hc hR hg hm q B.kc aa (hF fI fd F) (fun _ _ _ _ _ z=>z) (fun us=>(hr.mono hj).make C us []) hb (by rw[cn];omega) ha hdb he hpl
end
def u9(N P:List Str)(sc:Scope):Bool:=decide (sc.kind=.function)&&!sc.isCoroutine&&!sc.isGenerator&&decide N.Nodup&&decide (N.take P.length=P)&&P.all (fun x=>decide (sc.names.lookup x=some .local)||decide (sc.names.lookup x=some .cell))&&sc.names.all fun y=>decide (y.2≠.free)
theorem fsc{N P:List Str}{sc:Scope}(h:u9 N P sc=true):FnScope N P sc:=by
 simp only[u9,jq,decide_eq_true_eq,Bool.not_eq_true',all_eq_true,Bool.or_eq_true]at h;obtain⟨⟨⟨⟨⟨⟨h1,h2⟩,h3⟩,h4⟩,h5⟩,h6⟩,h7⟩:=h;exact⟨h1,h2,h3,h4,h5,h6,h7⟩
end
section
section
variable {κ α:Type} [DecidableEq κ]
def lkA(m:List (κ×α))(k:κ):Option α:=(m.find? fun p=>decide (p.1=k)).map (·.2)
def ptA(m:List (κ×α))(k:κ)(v:α):List (κ×α):=if (m.any fun p=>decide (p.1=k))=true then m.map (fun p=>if p.1=k then (p.1,v)else p)else m++[(k,v)]
def HasM(H:Hp):List (κ×bd)->List (κ×V)->Prop
 | [],m=>m=[]
 |p::r,m=>∃v m',m=(p.1,v)::m'/\Has H p.2 v/\HasM H r m'
theorem HasM.mono{H H':Hp}(s:Same H H'):∀{m:List (κ×bd)}{m':List (κ×V)},HasM H m m'->HasM H' m m'
 | [],_,q=>q
 |p::r,_,⟨v,t,e,q,l⟩=>⟨v,t,e,Has.mono s _ _ q,HasM.mono s l⟩
theorem HasM.length{H:Hp}:∀{m:List (κ×bd)}{m':List (κ×V)},HasM H m m'->m'.length=m.length
 | [],_,q=>by rw[show _=[]from q];rfl
 |p::r,_,⟨v,t,e,q,l⟩=>by rw[e,cn,cn,HasM.length l]
theorem HasM.val{H:Hp}(k:κ):∀{m:List (κ×bd)}{m':List (κ×V)},HasM H m m'->(lkA m k=none/\eK m' k=none)\/∃d v,lkA m k=some d/\eK m' k=some v/\Has H d v
 | [],m',q=>by rw[show m'=[]from q];exact .inl ⟨rfl,rfl⟩
 |p::r,m',⟨v,t,e,q,l⟩=>by
  subst e;by_cases hk:p.1=k
  ·exact .inr ⟨p.2,v,by simp[lkA,hk],qS hk,q⟩
  ·have e1:lkA (p::r) k=lkA r k:=by simp[lkA,hk]
   rw[e1,rX hk];exact HasM.val k l
theorem HasM.any{H:Hp}(k:κ):∀{m:List (κ×bd)}{m':List (κ×V)},HasM H m m'->(m'.any fun p=>decide (p.1=k))=m.any fun p=>decide (p.1=k)
 | [],m',q=>by rw[show m'=[]from q];rfl
 |p::r,m',⟨v,t,e,q,l⟩=>by
  subst e;rw[any_cons,any_cons,HasM.any k l]
theorem HasM.sets{H:Hp}{k:κ}{d:bd}{v:V}(hv:Has H d v):∀{m:List (κ×bd)}{m':List (κ×V)},HasM H m m'->HasM H (m.map fun p=>if p.1=k then (p.1,d)else p) (m'.map fun p=>if p.1=k then (p.1,v)else p)
 | [],m',q=>by rw[show m'=[]from q];rfl
 |p::r,m',⟨u,t,e,q,l⟩=>by
  subst e;rw[dq,dq];by_cases hk:p.1=k
  ·exact⟨v,_,by simp[hk],by simpa[hk]using hv,HasM.sets hv l⟩
  ·exact⟨u,_,by simp[hk],by simpa[hk]using q,HasM.sets hv l⟩
theorem HasM.snoc{H:Hp}{k:κ}{d:bd}{v:V}(hv:Has H d v):∀{m:List (κ×bd)}{m':List (κ×V)},HasM H m m'->HasM H (m++[(k,d)]) (m'++[(k,v)])
 | [],m',q=>by rw[show m'=[]from q];exact⟨v,[],rfl,hv,rfl⟩
 |p::r,m',⟨u,t,e,q,l⟩=>by subst e;exact⟨u,_,rfl,q,HasM.snoc hv l⟩
theorem HasM.put{H:Hp}{k:κ}{d:bd}{v:V}{m:List (κ×bd)}{m':List (κ×V)}(l:HasM H m m')(hv:Has H d v):HasM H (ptA m k d) (cM m' k v):=by
 unfold ptA cM;rw[l.any k];split
 ·exact l.sets hv
 ·exact l.snoc hv
end
inductive KSg where
 |int|bool|many (s:KSg)|two (s t:KSg)
def KG:KSg->Type
 | .int=>Int
 | .bool=>Bool
 | .many s=>List (KG s)
 | .two s t=>KG s×KG t
instance decKG:(s:KSg)->DecidableEq (KG s)
 | .int=>inferInstanceAs (DecidableEq Int)
 | .bool=>inferInstanceAs (DecidableEq Bool)
 | .many s=>have:=decKG s;inferInstanceAs (DecidableEq (List (KG s)))
 | .two s t=>have:=decKG s;have:=decKG t;inferInstanceAs (DecidableEq (KG s×KG t))
def khash:(s:KSg)->KG s->Int
 | .int,i=>hashInt i
 | .bool,b=>reduceHash (match (show Bool from b)with|true=>1|false=>0)
 | .many s,ks=>reduceHash (ib (ks.map (khash s)))
 | .two s t,k=>reduceHash (ib [khash s k.1,khash t k.2])
def kdat:(g:KSg)->KG g->bd
 | .int,i=>.int i
 | .bool,b=>.bool b
 | .many g,ks=>.tuple (List.map (kdat g) ks)
 | .two g g',k=>.tuple [kdat g k.1,kdat g' k.2]
def PDict(g:KSg)(ob:Obj)(xs:List (KG g×Addr×bb)):Prop:=ob.ExactDict/\∃es ep,ob.data=.dict es ep/\es.toList=xs.map (fun x=>⟨khash g x.1,.ref x.2.1,x.2.2⟩)/\(xs.map (·.1)).Nodup
def PrG(G:Hp)(g:KSg):List (KG g×bd)->List (KG g×Addr×bb)->Prop
 | [],xs=>xs=[]
 |p::r,xs=>∃q t,xs=q::t/\q.1=p.1/\Has G (kdat g p.1) (.ref q.2.1)/\(∃v,Has G p.2 v/\RelV v q.2.2)/\PrG G g r t
theorem PrG.mono{G G':Hp}{g:KSg}(s:Same G G'):∀{m:List (KG g×bd)}{xs:List (KG g×Addr×bb)},PrG G g m xs->PrG G' g m xs
 | [],_,q=>q
 |p::r,_,⟨q,t,e,e1,h1,⟨v,h2,h3⟩,l⟩=>⟨q,t,e,e1,Has.mono s _ _ h1,⟨v,Has.mono s _ _ h2,h3⟩,PrG.mono s l⟩
inductive DD where
 |k (m:List (Key×bd))
 |t (m:List (List Key×bd))
 |g (g:KSg) (ob:Obj) (m:List (KG g×bd))
def DD.pairs:DD->List (bd×bd)
 | .k m=>m.map fun p=>(kD p.1,p.2)
 | .t m=>m.map fun p=>(.tuple (p.1.map kD),p.2)
 | .g sg _ m=>m.map fun p=>(kdat sg p.1,p.2)
def DD.len:DD->Nat
 | .k m=>m.length
 | .t m=>m.length
 | .g _ _ m=>m.length
def fE:bd->Option Key
 | .int i=>some (.inl i)
 | .str x=>some (.inr x)
 |_=>none
def iH:List bd->Option (List Key)
 | []=>some []
 |d::ds=>(fE d).bind fun k=>(iH ds).map (k :: ·)
def fG:bd->Option (List Key)
 | .tuple ds=>iH ds
 |_=>none
def DD.get:DD->bd->Option (Option bd)
 | .k m,y=>(fE y).map (lkA m)
 | .t m,y=>(fG y).map (lkA m)
 | .g _ _ _,_=>none
def DD.put:DD->bd->bd->Option DD
 | .k m,y,d=>(fE y).map fun k=>.k (ptA m k d)
 | .t m,y,d=>(fG y).map fun k=>.t (ptA m k d)
 | .g _ _ _,_,_=>none
def RAt(G H:Hp)(a:Addr):DD->Prop
 | .k m=>∃m',Rd H a (.dK m')/\HasM G m m'
 | .t m=>∃m',Rd H a (.dT m')/\HasM G m m'
 | .g g ob m=>H a=some (obO a ob)/\(a==gb)=false/\∃xs,PDict g ob xs/\PrG G g m xs
def DAt(G H:Hp)(a:Addr):DD->Prop
 | .k m=>∃m',H a=some (.dK m')/\HasM G m m'
 | .t m=>∃m',H a=some (.dT m')/\HasM G m m'
 | .g g ob m=>H a=some (obO a ob)/\(a==gb)=false/\∃xs,PDict g ob xs/\PrG G g m xs
theorem xC{H:Hp}{y:bd}{v:V}{k:Key}(e:fE y=some k)(q:Has H y v):v=kV k:=by
 cases y with
 |int i=>cases e;exact d9.mp q
 |str x=>cases e;exact fX.mp q
 |_=>cases e
theorem AU{H:Hp}:∀{ds:List bd}{vs:List V}{ks:List Key},iH ds=some ks->HasL H ds vs->vs=ks.map kV
 | [],vs,ks,e,l=>by cases e;exact zv.mp l
 |d::ds,vs,ks,e,l=>by
  obtain⟨v,r,rfl,q,l⟩:=zn.mp l;unfold iH at e;cases hk:fE d with
  |none=>rw[hk]at e;cases e
  |some k=>
   rw[hk,Option.bind_some]at e;cases hs:iH ds with
   |none=>rw[hs]at e;cases e
   |some ks'=>
    rw[hs]at e;cases e;rw[xC hk q,AU hs l];rfl
theorem Bh{H:Hp}{y:bd}{v:V}{ks:List Key}(e:fG y=some ks)(q:Has H y v):∃b,v=.ref b/\H b=some (.tup (ks.map kV)):=by
 cases y with
 |tuple ds=>
  obtain⟨b,vs,rfl,eb,l⟩:=zW.mp q;exact⟨b,rfl,by rw[<- AU (show iH ds=some ks from e) l];exact eb⟩
 |_=>cases e
theorem DAt.mono{G G' H H':Hp}{a:Addr}{D:DD}(s:Same G G')(e:∀u,H a=some u->H' a=some u)(q:DAt G H a D):DAt G' H' a D:=by
 cases D with
 |k m=>obtain⟨m',e1,l⟩:=q;exact⟨m',e _ e1,l.mono s⟩
 |t m=>obtain⟨m',e1,l⟩:=q;exact⟨m',e _ e1,l.mono s⟩
 |g g ob m=>obtain⟨e1,ha,xs,pd,l⟩:=q;exact⟨e _ e1,ha,xs,pd,l.mono s⟩
theorem DAt.rd{G H:Hp}{a:Addr}{D:DD}(q:DAt G H a D):RAt G H a D:=by
 cases D with
 |k m=>obtain⟨m',e1,l⟩:=q;exact⟨m',.inl e1,l⟩
 |t m=>obtain⟨m',e1,l⟩:=q;exact⟨m',.inl e1,l⟩
 |g g ob m=>exact q
theorem DAt.mo{G H:Hp}{a:Addr}{D:DD}(q:DAt G H a D):∃u:MO,H a=some u.ho:=by
 cases D with
 |k m=>obtain⟨m',e1,l⟩:=q;exact⟨.k m',e1⟩
 |t m=>obtain⟨m',e1,l⟩:=q;exact⟨.t m',e1⟩
 |g g ob m=>exact⟨.x a ob,q.1⟩
def RelD(G:Hp):Option bd->Option V->Prop
 |none,r=>r=none
 |some d,r=>∃u,r=some u/\Has G d u
theorem RAt.get{G H:Hp}{a:Addr}{D:DD}{y:bd}{v:V}{o:Option bd}(sv:Same G H)(q:RAt G H a D)(hy:Has G y v)(e:D.get y=some o):∃r,DGet H a v r/\RelD G o r:=by
 cases D with
 |k m=>
  obtain⟨m',e1,l⟩:=q;replace e:(fE y).map (lkA m)=some o:=e;cases hk:fE y with
  |none=>rw[hk]at e;cases e
  |some k=>
   rw[hk]at e;cases e;rw[xC hk hy];refine⟨_,.inl ⟨m',k,e1,rfl,rfl⟩,?_⟩;rcases l.val k with ⟨z1,z2⟩|⟨d,u,z1,z2,z3⟩
   ·rw[z1];exact z2
   ·rw[z1];exact⟨u,z2,z3⟩
 |t m=>
  obtain⟨m',e1,l⟩:=q;replace e:(fG y).map (lkA m)=some o:=e;cases hk:fG y with
  |none=>rw[hk]at e;cases e
  |some k=>
   rw[hk]at e;cases e;obtain⟨b,rfl,eb⟩:=Bh hk hy;refine⟨_,.inr ⟨m',k,b,e1,rfl,sv _ _ eb,rfl⟩,?_⟩;rcases l.val k with ⟨z1,z2⟩|⟨d,u,z1,z2,z3⟩
   ·rw[z1];exact z2
   ·rw[z1];exact⟨u,z2,z3⟩
 |g g ob m=>cases e
theorem RAt.isD{G H:Hp}{a:Addr}{D:DD}(q:RAt G H a D):IsD H a:=by
 cases D with
 |k m=>obtain⟨m',e1,_⟩:=q;exact .inl ⟨m',e1⟩
 |t m=>obtain⟨m',e1,_⟩:=q;exact .inr (.inl ⟨m',e1⟩)
 |g g ob m=>obtain⟨e1,ha,xs,pd,l⟩:=q;exact .inr (.inr ⟨ob,e1,pd.1,ha⟩)
theorem DAt.put{G H:Hp}{a:Addr}{D D':DD}{y d:bd}{v u:V}(sv:Same G H)(q:DAt G H a D)(hy:Has G y v)(hd:Has G d u)(e:D.put y d=some D')(hl:D.len<1000):
  ∃x:MO,DPut H a v u (upd H a x.ho)/\∀H',H' a=some x.ho->DAt G H' a D':=by
 cases D with
 |k m=>
  obtain⟨m',e1,l⟩:=q;replace e:((fE y).map fun k=>DD.k (ptA m k d))=some D':=e;cases hk:fE y with
  |none=>rw[hk]at e;cases e
  |some k=>
   rw[hk]at e;cases e;rw[xC hk hy];exact⟨.k (cM m' k u),DPut.k e1 (by rw[l.length];exact small1000 (im hl)),fun H' z=>⟨_,z,l.put hd⟩⟩
 |t m=>
  obtain⟨m',e1,l⟩:=q;replace e:((fG y).map fun k=>DD.t (ptA m k d))=some D':=e;cases hk:fG y with
  |none=>rw[hk]at e;cases e
  |some k=>
   rw[hk]at e;cases e;obtain⟨b,rfl,eb⟩:=Bh hk hy;exact⟨.t (cM m' k u),DPut.t e1 (sv _ _ eb) (by rw[l.length];exact small1000 (im hl)),fun H' z=>⟨_,z,l.put hd⟩⟩
 |g g ob m=>cases e
theorem Ku{a b:Key}(e:kD a=kD b):a=b:=by
 cases a<;>cases b<;>cases e<;>rfl
theorem Ap{H:Hp}:∀{m:List (Key×bd)}{m':List (Key×V)},HasM H m m'->HasV H (m.map fun p=>(kD p.1,p.2)) (m'.map (·.2))/\m'.map (fun p=>kD p.1)=m.map fun p=>kD p.1
 | [],m',q=>by rw[show m'=[]from q];exact⟨JQ.mpr rfl,rfl⟩
 |p::r,m',⟨v,t,e,q,l⟩=>by
  subst e;obtain⟨z1,z2⟩:=Ap l;exact⟨Cu.mpr ⟨v,_,rfl,q,z1⟩,by rw[dq,dq,z2]⟩
theorem Dr{H:Hp}:∀{m:List (Key×bd)}{m':List (Key×V)},HasV H (m.map fun p=>(kD p.1,p.2)) (m'.map (·.2))->m.map (fun p=>kD p.1)=m'.map (fun p=>kD p.1)->HasM H m m'
 | [],[],_,_=>rfl
 | [],_::_,_,e=>by simp at e
 |_::_,[],_,e=>by simp at e
 |p::r,q::t,h,e=>by
  rw[dq,dq]at h;obtain⟨v,s,e1,e2,e3⟩:=Cu.mp h;rw[List.cons.injEq]at e1;rw[dq,dq,List.cons.injEq]at e;have z:=Ku e.1;obtain⟨q1,q2⟩:=q;refine⟨q2,t,by rw[z],?_,Dr (by rw[e1.2];exact e3) e.2⟩;have z1:q2=v:=e1.1;rw[z1];exact e2
theorem yS{H:Hp}{m:List (Key×bd)}{v:V}:Has H (.dict (DD.pairs (.k m))) v↔∃a ob m',v=.ref a/\H a=some (.frz ob (.dK m'))/\HasM H m m':=by
 rw[tG];constructor
 ·rintro⟨a,vs,rfl,⟨ob,m',e,e1,e2⟩|⟨ob,p,m',e,e1,e2⟩,l⟩
  rotate_left
  ·cases m with
   |nil=>cases e1
   |cons q r=>
    have z:=congrArg List.head? e1;simp only[DD.pairs,dq,List.head?_cons,Option.some.injEq]at z;cases h:q.1<;>rw[h]at z<;>cases z
  subst e2;refine⟨a,ob,m',rfl,e,Dr l ?_⟩;rw[<- e1];simp[DD.pairs]
 ·rintro⟨a,ob,m',rfl,e,l⟩;obtain⟨z1,z2⟩:=Ap l;exact⟨a,_,rfl,.inl ⟨ob,m',e,by rw[z2];simp[DD.pairs],rfl⟩,z1⟩
abbrev DM:=List (Addr×DD)
def ad(M:DM):List Addr:=M.map (·.1)
structure RepM(h o:List Addr)(H:Hp)(M:DM):Prop where
 nd:(ad M).Nodup
 nh:∀a∈ad M,a∉h/\a∉o
 ct:∀a D,(a,D)∈M->DAt (vx (h++ad M) o H) H a D
section
variable {h o o':List Addr}{H H':Hp}{M:DM}{S:Sto}
theorem RepM.at(r:RepM h o H M){a:Addr}(m:a∈ad M):∃D,(a,D)∈M/\DAt (vx (h++ad M) o H) H a D:=by
 obtain⟨p,mp,e⟩:=mem_map.mp m;obtain⟨b,D⟩:=p;cases e;exact⟨D,mp,r.ct _ D mp⟩
theorem RepM.mono(r:RepM h o H M)(e:Ex o H o' H'):RepM h o' H' M:=by
 have k1:∀a∈ad M,∀u,H a=some u->a∉o'/\H' a=some u:=fun a m u z=>e.kp a u (r.nh a m).2 z;refine⟨r.nd,fun a m=>⟨(r.nh a m).1,?_⟩,fun a D m=>?_⟩
 ·obtain⟨D,_,q⟩:=r.at m;obtain⟨u,z⟩:=q.mo;exact(k1 a m _ z).1
 ·exact(r.ct a D m).mono e.vx fun u z=>(k1 a (mem_map.mpr ⟨_,m,rfl⟩) u z).2
theorem RepM.nil:RepM h o H []:=⟨nodup_nil,fun a m=>(by cases m),fun a D m=>(by cases m)⟩
def eV(M:DM)(a:Addr)(D:DD):DM:=M.map fun p=>if p.1=a then (a,D)else p
theorem fO{a:Addr}{D:DD}:∀{M:DM},ad (eV M a D)=ad M
 | []=>rfl
 |p::r=>by
  have z:=fO (a:=a) (D:=D) (M:=r);unfold ad eV at z ⊢;rw[dq,dq,dq,z];by_cases e:p.1=a<;>simp[e]
theorem rO{a:Addr}{u:HO}(m:a∈h):Same (vx h o H) (vx h o (upd H a u)):=fun b w e=>by
 obtain⟨z1,z2,z3⟩:=zL.mp e;exact zL.mpr ⟨z1,z2,by rw[zE (fun z=>z1 (by rw[z];exact m))];exact z3⟩
theorem HasX.view(s:Same (vx h o H) (vx h o H')):∀{x:XV}{v:V},HasX h o H x v->HasX h o H' x v
 | .d d,v,q=>Has.mono s d v q
 | .l k,v,q=>q
 | .o w,v,q=>q
 | .x C fs,v,q=>HasE.mono s q
 | .p k d,v,q=>HasLP.to s (fun _ z=>z) q
theorem RepE.view{δ:XE}{σ:St}(s:Same (vx h o H) (vx h o H'))(r:RepE h o H δ σ):RepE h o H' δ σ:=⟨r.len,fun i x e=>let ⟨v,e1,e2⟩:=r.get i x e;⟨v,e1,e2.view s⟩⟩
theorem RepS.hidden{a:Addr}{u:MO}(r:RepS h o H S)(m:a∈h):RepS h o (L2.upd H a u.ho) S where
 len:=r.len
 nd:=r.nd
 dis:=r.dis
 hal:=fun b mb=>by
  by_cases e:b=a
  ·subst e;exact⟨u,zP⟩
  ·obtain⟨w,z⟩:=r.hal b mb;exact⟨w,by rw[zE e];exact z⟩
 cont:=fun k b ds e1 e2=>by
  obtain⟨vs,e3,l⟩:=r.cont k b ds e1 e2;have ne:b≠a:=fun z=>r.dis b (cj e1) (z▸m);exact⟨vs,by rw[zE ne];exact e3,HasL.mono (rO m) _ _ l⟩
theorem RepM.put{a:Addr}{D D':DD}{u:MO}(r:RepM h o H M)(m:(a,D)∈M)(q:∀H',H' a=some u.ho->DAt (vx (h++ad M) o H) H' a D'):RepM h o (L2.upd H a u.ho) (eV M a D'):=by
 have ma:a∈ad M:=mem_map.mpr ⟨_,m,rfl⟩;refine⟨by rw[fO];exact r.nd,by rw[fO];exact r.nh,fun b D2 mb=>?_⟩;rw[fO];have sv:Same (vx (h++ad M) o H) (vx (h++ad M) o (L2.upd H a u.ho)):=rO (cv _ ma);obtain⟨p,mp,ep⟩:=mem_map.mp mb;by_cases e:p.1=a
 ·rw[cy e]at ep;cases ep;exact(q _ zP).mono sv fun _ z=>z
 ·rw[bv e]at ep;subst ep;exact(r.ct _ _ mp).mono sv fun w z=>by rw[zE e];exact z
theorem RepS.less{l:List Addr}(r:RepS (h++l) o H S):RepS h o H S where
 len:=r.len
 nd:=r.nd
 dis:=fun a ma z=>r.dis a ma (cq _ z)
 hal:=fun b mb=>r.hal b (cq _ mb)
 cont:=fun k b ds e1 e2=>by
  obtain⟨vs,e3,q⟩:=r.cont k b ds e1 e2;exact⟨vs,e3,HasL.mono (fun c u z=>let ⟨z1,z2,z3⟩:=zL.mp z;zL.mpr ⟨fun mm=>z1 (cq _ mm),z2,z3⟩) _ _ q⟩
theorem kR{l:List Addr}:Same (vx (h++l) o H) (vx h o H):=fun c u z=>let ⟨z1,z2,z3⟩:=zL.mp z;zL.mpr ⟨fun mm=>z1 (cq _ mm),z2,z3⟩
theorem HasX.less{l:List Addr}:∀{x:XV}{v:V},HasX (h++l) o H x v->HasX h o H x v
 | .d d,v,q=>Has.mono kR d v q
 | .l k,v,q=>q
 | .o w,v,q=>q
 | .x C fs,v,q=>HasE.mono kR q
 | .p k d,v,q=>HasLP.to kR (fun _ z=>z) q
end
end
section
structure DEndsM where
 nx:XE->Sto->DM->Prop
 rt:XV->Sto->DM->Prop
 bk:XE->Sto->DM->Prop:=fun _ _ _=>False
 ct:XE->Sto->DM->Prop:=fun _ _ _=>False
abbrev DSm:=DEndsM->XE->Sto->DM->Prop
def Fr(H:Hp)(M:DM):Prop:=∀a∈ad M,H a=none
def NxM(h o:List Addr)(H:Hp)(A:List Addr)(N:XE->Sto->DM->Prop)(Y:St->Hp->Prop):Prop:=∀o' H' δ' S' M' σ',Ex o H o' H'->ad M'=A->RepE (h++ad M') o' H' δ' σ'->RepS (h++ad M') o' H' S'->RepM h o' H' M'->N δ' S' M'->Y σ' H'
structure EOkM(h o:List Addr)(H:Hp)(A:List Addr)(E:DEndsM)(D:Ends):Prop where
 nx:NxM h o H A E.nx D.nx
 rt:∀o' H' S' M' x v,Ex o H o' H'->ad M'=A->RepS (h++ad M') o' H' S'->RepM h o' H' M'->HasX (h++ad M') o' H' x v->E.rt x S' M'->D.rt v H'
 bk:NxM h o H A E.bk D.bk
 ct:NxM h o H A E.ct D.ct
def RSm(E:XK)(EX:EXD)(t:TS)(dt:DSm):Prop:=∀(h o0:List Addr) (H0:Hp) (o:List Addr) (H:Hp) (δ:XE) (σ:St) (S:Sto) (M:DM) (En:DEndsM) (D:Ends),Ex o0 H0 o H->Fr H0 M->RepE (h++ad M) o H δ σ->RepS (h++ad M) o H S->RepM h o H M->dt En δ S M ->
 EOkM h o0 H0 (ad M) En D->CnX h o0 H0 EX E->t D σ H
theorem CnX.inn{E:XK}{EX:EXD}{h o0 o l:List Addr}{H0 H:Hp}(x:CnX h o0 H0 EX E)(e0:Ex o0 H0 o H):CnX (h++l) o H EX E:=fun o' H' S' C a fs e s' hE q=>x o' H' S' C a fs (e0.trans e) s'.less (HasE.mono kR hE) q
def fA(dt:DS):DSm:=fun En δ S M=>dt { nx:=fun δ' S'=>En.nx δ' S' M,rt:=fun x S'=>En.rt x S' M,bk:=fun δ' S'=>En.bk δ' S' M,ct:=fun δ' S'=>En.ct δ' S' M } δ S
def gD(t u:DSm):DSm:=fun En δ S M=>t { En with nx:=u En } δ S M
def iL(c:DM->DT)(t u:DSm):DSm:=fun En δ S M=>c M δ S fun b S1=>if b=true then t En δ S1 M else u En δ S1 M
def gX(e:DM->DE)(g:DG):DSm:=fun En δ S M=>e M δ S fun x S1=>g x δ S1 fun δ' S'=>En.nx δ' S' M
def i9(e:DM->DE):DSm:=fun En δ S M=>e M δ S fun x S1=>En.rt x S1 M
def hV(g:DG)(b:DSm):List bd->DSm
 | [],E,δ,S,M=>E.nx δ S M
 |d::ds,E,δ,S,M=>g (.d d) δ S fun δ1 S1=>b { nx:=fun δ2 S2 M2=>hV g b ds E δ2 S2 M2,ct:=fun δ2 S2 M2=>hV g b ds E δ2 S2 M2,bk:=E.nx,rt:=E.rt } δ1 S1 M
def f7(i:DM->DI)(g:DG)(b:DSm):DSm:=fun En δ S M=>i M δ S fun ds S1=>hV g b ds En δ S1 M
def PhM(M:DM):Phi:=fun h' o H=>∃h,h'=h++ad M/\RepM h o H M
instance {M:DM}:Stb (PhM M):=⟨fun⟨h,e,r⟩ x=>⟨h,e,r.mono x⟩⟩
section
variable {E:XK}{EX:EXD}{t u:TS}{dt du:DSm}
theorem Kh{ds:DS}(ht:RSx E EX t ds):RSm E EX t (fA ds):=fun h o0 H0 o H δ σ S M En D e0 fr he hs rm q c x=>
 ht (h++ad M) o H δ σ S _ D he hs q ⟨fun o' H' δ' S' σ' e aa z n=>c.nx o' H' δ' S' M σ' (e0.trans e) rfl aa z (rm.mono e) n,fun o' H' S' y v e z hy n=>c.rt o' H' S' M y v (e0.trans e) rfl z (rm.mono e) hy n,
  fun o' H' δ' S' σ' e aa z n=>c.bk o' H' δ' S' M σ' (e0.trans e) rfl aa z (rm.mono e) n,fun o' H' δ' S' σ' e aa z n=>c.ct o' H' δ' S' M σ' (e0.trans e) rfl aa z (rm.mono e) n⟩ (x.inn e0)
theorem rD{ds:DS}(ht:RS t ds):RSm E EX t (fA ds):=Kh (dU ht)
theorem mW(ht:RSm E EX t dt)(hu:RSm E EX u du):RSm E EX (aR t u) (gD dt du):=fun h o0 H0 o H δ σ S M En D e0 fr he hs rm q c x=>
 ht h o0 H0 o H δ σ S M _ _ e0 fr he hs rm q ⟨fun o1 H1 δ1 S1 M1 σ1 e1 ea aa z ac q1=>hu h o0 H0 o1 H1 δ1 σ1 S1 M1 En D e1 (by unfold Fr;rw[ea];exact fr) aa z ac q1 (by rw[ea];exact c) x,c.rt,c.bk,c.ct⟩ x
theorem CT{tc:TT}{dc:DM->DT}(hc:∀M,RTp (PhM M) tc (dc M))(ht:RSm E EX t dt)(hu:RSm E EX u du):RSm E EX (nN tc t u) (iL dc dt du):=fun h o0 H0 o H δ σ S M En D e0 fr he hs rm q c x=>
 hc M (h++ad M) o H δ σ S _ _ he hs q (fun o1 H1 S1 b e1 s1 d1=>by
  cases b with
  |true=>exact eT (ht h o0 H0 o1 H1 δ σ S1 M En D (e0.trans e1) fr (he.mono e1) s1 (rm.mono e1) (by simpa using d1) c x)
  |false=>exact eI (hu h o0 H0 o1 H1 δ σ S1 M En D (e0.trans e1) fr (he.mono e1) s1 (rm.mono e1) (by simpa using d1) c x)) ⟨h,rfl,rm⟩
theorem uL{te:TE}{de:DM->DE}{g:TG}{dg:DG}(ha:∀M,REp (PhM M) te (de M))(hg:RG g dg):RSm E EX (iN te g) (gX de dg):=fun h o0 H0 o H δ σ S M En D e0 fr he hs rm q c x=>
 ha M (h++ad M) o H δ σ S _ _ he hs q (fun o1 H1 S1 y v e1 s1 x1 d1=>hg (h++ad M) o1 H1 δ σ S1 y v _ _ (he.mono e1) s1 x1 d1 fun o2 H2 δ2 S2 σ2 e2 aa z n2=>c.nx o2 H2 δ2 S2 M σ2 (e0.trans (e1.trans e2)) rfl aa z (rm.mono (e1.trans e2)) n2) ⟨h,rfl,rm⟩
theorem BF{te:TE}{de:DM->DE}(ha:∀M,REp (PhM M) te (de M)):RSm E EX (mT te) (i9 de):=fun h o0 H0 o H δ σ S M En D e0 fr he hs rm q c x=>
 ha M (h++ad M) o H δ σ S _ _ he hs q (fun o1 H1 S1 y v e1 s1 x1 d1=>c.rt o1 H1 S1 M y v (e0.trans e1) rfl s1 (rm.mono e1) x1 d1) ⟨h,rfl,rm⟩
theorem vX{wi:TI}{g:TG}{tb:TS}{di:DM->DI}{dg:DG}{db:DSm}(hi:∀M,RIp (PhM M) wi (di M))(hg:RG g dg)(hb:RSm E EX tb db):RSm E EX (k7 wi g tb) (f7 di dg db):=fun h o0 H0 o H δ σ S M En D e0 fr he hs rm q c x=>
 hi M (h++ad M) o H δ σ S _ _ he hs q (fun o1 H1 S1 ds J e1 s1 wk d1=>by
  refine⟨fun i m σ2 H2=>m=ds.length-i/\i<=ds.length/\∃o2 δ2 S2 M2,Ex o0 H0 o2 H2/\ExH (h++ad M) o1 H1 o2 H2/\ad M2=ad M/\RepE (h++ad M) o2 H2 δ2 σ2/\RepS (h++ad M) o2 H2 S2/\RepM h o2 H2 M2/\hV dg db (ds.drop i) En δ2 S2 M2,
   ⟨ds.length,yv,mj _,o1,δ,S1,M,e0.trans e1,ExH.refl,rfl,he.mono e1,s1,rm.mono e1,d1⟩,?_⟩
  rintro i m σ2 H2 ⟨rfl,hi,o2,δ2,S2,M2,e2,x2,ea,ak,ai,aj,d2⟩;by_cases hlt:i<ds.length
  ·have ed:ds[i]?=some ds[i]:=bq hlt;rw[jz hlt]at d2;refine .inr ⟨wk.go i _ o2 H2 x2 ed,fun σ3 H3=>∃o3 δ3 S3 M3,Ex o0 H0 o3 H3/\ExH (h++ad M) o1 H1 o3 H3/\ad M3=ad M/\RepE (h++ad M) o3 H3 δ3 σ3/\RepS (h++ad M) o3 H3 S3/\RepM h o3 H3 M3/\hV dg db (ds.drop (i+1)) En δ3 S3 M3,fun σ3 H3 n=>⟨ds.length-(i+1),yw,rfl,hlt,n⟩,fun y H3 yy=>?_⟩;obtain⟨s3,hx⟩:=wk.yld i _ o2 H2 y H3 S2 x2 ai ed yy;have al:Ex o2 H2 o2 H3:=Ex.of_same s3;refine hg (h++ad M) o2 H3 δ2 σ2 S2 (.d ds[i]) y _ _ (ak.mono al) (ai.same s3) hx d2 fun o4 H4 δ4 S4 σ4 e4 ao am d4=>?_;have ag:Ex o2 H2 o4 H4:=al.trans e4;have nM:∀b u,H0 b=some u->b∉ad M:=fun b u z mb=>by
    rw[fr b mb]at z;cases z
   have af:Ex o0 H0 o4 (fun b=>if b∈ad M then none else H4 b):=⟨(e2.trans ag).pre,fun b u nb z=>by
    obtain⟨z1,z2⟩:=(e2.trans ag).kp b u nb z;exact⟨z1,by show (if b∈ad M then none else H4 b)=some u;rw[bv (nM b u z)];exact z2⟩⟩
   have an:∀{o5 H5},Ex o4 (fun b=>if b∈ad M then none else H4 b) o5 H5->ExH (h++ad M) o4 H4 o5 H5:=fun e5=>⟨e5.pre,fun b u n1 n2 z=>e5.kp b u n2 (by show (if b∈ad M then none else H4 b)=some u;rw[bv (fun mb=>n1 (cv _ mb))];exact z)⟩;have ae:∀o5 H5 δ5 S5 M5 σ5,Ex o4 (fun b=>if b∈ad M then none else H4 b) o5 H5->ad M5=ad M2->RepE (h++ad M5) o5 H5 δ5 σ5->RepS (h++ad M5) o5 H5 S5->RepM h o5 H5 M5->hV dg db (ds.drop (i+1)) En δ5 S5 M5 ->
     ∃o3 δ3 S3 M3,Ex o0 H0 o3 H5/\ExH (h++ad M) o1 H1 o3 H5/\ad M3=ad M/\RepE (h++ad M) o3 H5 δ3 σ5/\RepS (h++ad M) o3 H5 S3/\RepM h o3 H5 M3/\hV dg db (ds.drop (i+1)) En δ3 S3 M3:=fun o5 H5 δ5 S5 M5 σ5 e5 a5 ah ac aa d5=>
    ⟨o5,δ5,S5,M5,af.trans e5,(x2.trans ag.hid).trans (an e5),a5.trans ea,by rw[<- ea,<- a5];exact ah,by rw[<- ea,<- a5];exact ac,aa,d5⟩
   refine hb h o4 (fun b=>if b∈ad M then none else H4 b) o4 H4 δ4 σ4 S4 M2 _ _ ⟨⟨[],yv⟩,fun b u nb eb=>?_⟩ (fun a ma=>by show (if a∈ad M then none else H4 a)=none;rw[cy (by rw[<- ea];exact ma)]) (by rw[ea];exact ao) (by rw[ea];exact am) (aj.mono ag) d4
    ⟨ae,fun o5 H5 S5 M5 y5 v5 e5 a5 ac aa ap q5=>c.rt o5 H5 S5 M5 y5 v5 (af.trans e5) (a5.trans ea) ac aa ap q5,fun o5 H5 δ5 S5 M5 σ5 e5 a5 ah ac aa q5=>c.nx o5 H5 δ5 S5 M5 σ5 (af.trans e5) (a5.trans ea) ah ac aa q5,ae⟩ (x.pre af)
   refine⟨nb,?_⟩;by_cases mb:b∈ad M
   ·simp[mb]at eb
   ·simpa[mb]using eb
  ·have ei:i=ds.length:=yw
   subst ei;rw[drop_length]at d2;exact .inl ⟨wk.stop _ o2 H2 x2 (cw _),c.nx o2 H2 δ2 S2 M2 σ2 e2 ea (by rw[ea];exact ak) (by rw[ea];exact ai) aj d2⟩) ⟨h,rfl,rm⟩
end
end
section
section
variable {h h' o:List Addr}{H H':Hp}
theorem HasX.to(s:Same (vx h o H) (vx h' o H')):∀{x:XV}{v:V},HasX h o H x v->HasX h' o H' x v
 | .d d,v,q=>Has.mono s d v q
 | .l k,v,q=>q
 | .o w,v,q=>q
 | .x C fs,v,q=>HasE.mono s q
 | .p k d,v,q=>HasLP.to s (fun _ z=>z) q
theorem RepE.to{δ:XE}{σ:St}(s:Same (vx h o H) (vx h' o H'))(r:RepE h o H δ σ):RepE h' o H' δ σ:=⟨r.len,fun i x e=>let ⟨v,e1,e2⟩:=r.get i x e;⟨v,e1,e2.to s⟩⟩
end
def nO(a:Addr)(m:List (Key×bd)):XV->XV
 | .o (.ref b)=>if b=a then .d (.dict (DD.pairs (.k m)))else .o (.ref b)
 |x=>x
theorem Fu{h h' o:List Addr}{H H':Hp}{a:Addr}{m:List (Key×bd)}{m':List (Key×V)}{ob:Obj}(s:Same (vx h o H) (vx h' o H'))(e:vx h' o H' a=some (.frz ob (.dK m')))(l:HasM (vx h o H) m m'):∀{x:XV}{v:V},HasX h o H x v->HasX h' o H' (nO a m x) v
 | .d d,v,z=>Has.mono s d v z
 | .l k,v,z=>z
 | .x C fs,v,z=>HasE.mono s z
 | .p k d,v,z=>HasLP.to s (fun _ z=>z) z
 | .o w,v,z=>by
  cases w with
  |ref b=>
   unfold nO;dsimp only;split
   ·rename_i eb;subst eb;rw[show v=.ref b from z];exact yS.mpr ⟨b,ob,m',rfl,e,l.mono s⟩
   ·exact z
  |_=>exact z
theorem JS{h h' o:List Addr}{H H':Hp}{a:Addr}{m:List (Key×bd)}{m':List (Key×V)}{ob:Obj}{δ:XE}{σ:St}(s:Same (vx h o H) (vx h' o H'))(e:vx h' o H' a=some (.frz ob (.dK m')))(l:HasM (vx h o H) m m')(r:RepE h o H δ σ):RepE h' o H' (δ.map (Option.map (nO a m))) σ:=by
 refine⟨by rw[cg];exact r.len,fun i x ex=>?_⟩;rw[gi]at ex;cases hd:δ[i]? with
 |none=>rw[hd]at ex;cases ex
 |some y=>
  rw[hd]at ex;cases y with
  |none=>cases ex
  |some y=>
   cases ex;obtain⟨v,e1,e2⟩:=r.get i y hd;exact⟨v,e1,Fu s e l e2⟩
theorem bG{M:DM}{a:Addr}{D:DD}:ad (M++[(a,D)])=ad M++[a]:=by simp[ad]
theorem RepM.init{h o:List Addr}{H:Hp}{M:DM}{a:Addr}{D:DD}(r:RepM h o H (M++[(a,D)])):RepM h o H M:=by
 have nd:=r.nd;rw[bG]at nd;refine⟨(nodup_append.mp nd).1,fun b m=>r.nh b (by rw[bG];exact cq _ m),fun b D2 m=>?_⟩;have z:=r.ct b D2 (cq _ m);rw[bG,<- fz]at z;exact z.mono kR fun _ z=>z
def eU(f:Bool)(i:Nat)(D0:DD)(b:DSm):DSm:=fun En δ S M=>∀a,a∉ad M->b { nx:=(fun δ' S' M'=>if f=true then (∃M1 m,M'=M1++[(a,.k m)]/\δ'[i]?=some (some (.o (.ref a)))/\En.nx (δ'.map (Option.map (nO a m))) S' M1)else (∃M1 D,M'=M1++[(a,D)]/\En.nx δ' S' M1)),rt:=(fun x S' M'=>∃M1 D,M'=M1++[(a,D)]/\En.rt x S' M1),bk:=(fun δ' S' M'=>∃M1 D,M'=M1++[(a,D)]/\En.bk δ' S' M1),ct:=(fun δ' S' M'=>∃M1 D,M'=M1++[(a,D)]/\En.ct δ' S' M1) } (δ.set i (some (.o (.ref a)))) S (M++[(a,D0)])
section
variable {E:XK}{EX:EXD}{tb:TS}{db:DSm}{i:Nat}
theorem BQ{f:Bool}{p:Addr}{u:MO}{D0:DD}(hD:∀(G H:Hp),H p=some u.ho->DAt G H p D0)(hb:RSm E EX tb db){h o0:List Addr}{H0:Hp}{o:List Addr}{H:Hp}{δ:XE}{σ:St}{S:Sto}{M:DM}{En:DEndsM}{D:Ends}(e0:Ex o0 H0 o H)(fr:Fr H0 M)(he:RepE (h++ad M) o H δ σ)(hs:RepS (h++ad M) o H S)(rm:RepM h o H M)
  (q:eU f i D0 db En δ S M) (c:EOkM h o0 H0 (ad M) En D) (x:CnX h o0 H0 EX E) (hp:H p=none):(if f=true then GZ i tb else tb) D (σ.set i (some (.ref p))) (upd H p u.ho):=by
 have nM:p∉ad M:=fun m=>by
  obtain⟨D2,_,z⟩:=rm.at m;obtain⟨w,ew⟩:=z.mo;rw[hp]at ew;cases ew
 have f1:=hs.fresh hp;have nh:p∉h:=fun m=>f1.1 (cq _ m);have sH:Same H (upd H p u.ho):=Same.laid hp;have e1:Ex o0 H0 o (upd H p u.ho):=e0.trans (Ex.of_same sH);have H0p:H0 p=none:=by
  cases z:H0 p with
  |none=>rfl
  |some w=>
   by_cases m:p∈o0
   ·obtain⟨r,er⟩:=e0.pre;exact absurd (show p∈o by rw[er];exact cq _ m) f1.2
   ·have:=(e0.kp p w m z).2;rw[hp]at this;cases this
 have sv:Same (vx (h++ad M) o H) (vx (h++(ad M++[p])) o (upd H p u.ho)):=fun b w z=>by
  obtain⟨z1,z2,z3⟩:=zL.mp z;have ne:b≠p:=zG z3 hp;refine zL.mpr ⟨fun m=>?_,z2,by rw[zE ne];exact z3⟩;rw[<- fz]at m;rcases mem_append.mp m with m|m
  ·exact z1 m
  ·exact ne (mem_singleton.mp m)
 have sM:RepS (h++ad (M++[(p,D0)])) o (upd H p u.ho) S:=by
  rw[bG];refine⟨hs.len,hs.nd,fun a ma z=>?_,fun b mb=>?_,fun k b ds e1 e2=>?_⟩
  ·rw[<- fz]at z;rcases mem_append.mp z with z|z
   ·exact hs.dis a ma z
   ·rw[mem_singleton.mp z]at ma;exact f1.2 ma
  ·rw[<- fz]at mb;rcases mem_append.mp mb with m|m
   ·obtain⟨w,ew⟩:=hs.hal b m;exact⟨w,sH _ _ ew⟩
   ·rw[mem_singleton.mp m];exact⟨u,zP⟩
  ·obtain⟨vs,e3,l⟩:=hs.cont k b ds e1 e2;exact⟨vs,sH _ _ e3,HasL.mono sv _ _ l⟩
 have mM:RepM h o (upd H p u.ho) (M++[(p,D0)]):=by
  refine⟨by rw[bG];exact pE rm.nd nM,fun a ma=>?_,fun a D2 m=>?_⟩
  ·rw[bG]at ma;rcases mem_append.mp ma with m|m
   ·exact rm.nh a m
   ·rw[mem_singleton.mp m];exact⟨nh,f1.2⟩
  ·rw[bG];rcases mem_append.mp m with m|m
   ·exact(rm.ct a D2 m).mono sv fun w z=>sH _ _ z
   ·have:=mem_singleton.mp m;cases this;exact hD _ _ zP
 have hE:RepE (h++ad (M++[(p,D0)])) o (upd H p u.ho) (δ.set i (some (.o (.ref p)))) (σ.set i (some (.ref p))):=by
  rw[bG];exact(he.to sv).set (show HasX _ _ _ (.o (.ref p)) (.ref p)from rfl)
 have ah:Fr H0 (M++[(p,D0)]):=fun a ma=>by
  rw[bG]at ma;rcases mem_append.mp ma with m|m
  ·exact fr a m
  ·rw[mem_singleton.mp m];exact H0p
 have ae:∀{N:XE->Sto->DM->Prop}{Y:St->Hp->Prop},NxM h o0 H0 (ad M) N Y->NxM h o0 H0 (ad (M++[(p,D0)])) (fun δ' S' M'=>∃M1 D,M'=M1++[(p,D)]/\N δ' S' M1) Y:=fun {N Y} nx o' H' δ' S' M' σ' ex ea af aa ac ⟨M1,D2,eM,n⟩=>by
  subst eM;rw[bG,bG]at ea;rw[bG,<- fz]at af aa;exact nx o' H' _ S' M1 σ' ex (List.append_inj_left' ea rfl) (af.to kR) aa.less ac.init n
 have ag:∀o' H' S' M' y v,Ex o0 H0 o' H'->ad M'=ad (M++[(p,D0)])->RepS (h++ad M') o' H' S'->RepM h o' H' M'->HasX (h++ad M') o' H' y v->(∃M1 D,M'=M1++[(p,D)]/\En.rt y S' M1)->D.rt v H':=by
  rintro o' H' S' M' y v ex ea aa ac ai ⟨M1,D2,eM,n⟩;subst eM;rw[bG,bG]at ea;rw[bG,<- fz]at ai aa;exact c.rt o' H' S' M1 _ v ex (List.append_inj_left' ea rfl) aa.less ac.init ai.less n
 have qq:=q p nM;cases f with
 |false=>
  refine hb h o0 H0 o _ _ _ S (M++[(p,D0)]) _ D e1 ah hE sM mM qq ⟨?_,ag,ae c.bk,ae c.ct⟩ x;exact fun o' H' δ' S' M' σ' ex ea af aa ac n=>ae c.nx o' H' δ' S' M' σ' ex ea af aa ac (by simpa using n)
 |true=>
  refine hb h o0 H0 o _ _ _ S (M++[(p,D0)]) _ { D with nx:=fun σ' H'=>∃a m,σ'[i]?=some (some (.ref a))/\H' a=some (.dK m)/\∀ob,D.nx σ' (upd H' a (.frz ob (.dK m))) } e1 ah hE sM mM qq ⟨?_,ag,ae c.bk,ae c.ct⟩ x;intro o' H' δ' S' M' σ' ex ea af aa ac n;obtain⟨M1,m,eM,ei,n2⟩:∃M1 m,M'=M1++[(p,DD.k m)]/\δ'[i]?=some (some (.o (.ref p)))/\En.nx (δ'.map (Option.map (nO p m))) S' M1:=by simpa using n
  subst eM;obtain⟨v,ev,hv⟩:=af.get i _ ei;have aj:v=.ref p:=hv;subst aj;have nn:=ac.nh p (by rw[bG];simp);have nd:=ac.nd;rw[bG,bG]at ea;rw[bG]at nd;have pn:p∉ad M1:=fun m=>(nodup_append.mp nd).2.2 p m p yv rfl;obtain⟨m',em,l⟩:=ac.ct p (.k m) yv;refine⟨p,m',ev,em,fun ob=>?_⟩;have np:p∉h++ad M1:=fun z=>(mem_append.mp z).elim nn.1 pn;have s2:Same (vx (h++ad (M1++[(p,DD.k m)])) o' H') (vx (h++ad M1) o' (upd H' p (.frz ob (.dK m')))):=fun b w z=>by
   obtain⟨z1,z2,z3⟩:=zL.mp z;rw[bG,<- fz]at z1;have ne:b≠p:=fun z=>z1 (by rw[z];simp);exact zL.mpr ⟨fun mm=>z1 (cq _ mm),z2,by rw[zE ne];exact z3⟩
  refine c.nx o' _ _ S' M1 σ' ⟨ex.pre,fun b w nb zb=>?_⟩ (List.append_inj_left' ea rfl) (JS s2 (zL.mpr ⟨np,nn.2,zP⟩) l af) ?_ ?_ n2
  ·obtain⟨z1,z3⟩:=ex.kp b w nb zb;exact⟨z1,by rw[zE (fun z=>by rw[z,H0p]at zb;cases zb)];exact z3⟩
  ·refine⟨aa.len,aa.nd,fun a ma z=>aa.dis a ma (by rw[bG,<- fz];exact cq _ z),fun b mb=>?_,fun k b ds q1 q2=>?_⟩
   ·obtain⟨w,ew⟩:=aa.hal b (by rw[bG,<- fz];exact cq _ mb);exact⟨w,by rw[zE (fun z=>np (by rw[<- z];exact mb))];exact ew⟩
   ·obtain⟨vs,q3,l3⟩:=aa.cont k b ds q1 q2;exact⟨vs,by rw[zE (fun z=>nn.2 (by rw[<- z];exact cj q1))];exact q3,HasL.mono s2 _ _ l3⟩
  ·have r1:=ac.init;refine⟨r1.nd,r1.nh,fun b D3 mb=>?_⟩;have nb:b≠p:=fun z=>pn (by rw[<- z];exact mem_map.mpr ⟨_,mb,rfl⟩);exact(ac.ct b D3 (cq _ mb)).mono s2 fun w z=>by rw[zE nb];exact z
theorem yT(hb:RSm E EX tb db):RSm E EX (aR (iN xR (g0 i)) tb) (eU false i (.t []) db):=fun h o0 H0 o H δ σ S M En D e0 fr he hs rm q c x p hp=>
 BQ (f:=false) (D0:=.t []) (u:=.t []) (fun G H z=>⟨[],z,rfl⟩) hb e0 fr he hs rm q c x hp
def gK(dt:DSm):DS:=fun En δ S=>dt { nx:=fun δ' S' _=>En.nx δ' S',rt:=fun x S' _=>En.rt x S',bk:=fun δ' S' _=>En.bk δ' S',ct:=fun δ' S' _=>En.ct δ' S' } δ S []
theorem Ki{t:TS}{dt:DSm}(ht:RSm E EX t dt):RSx E EX t (gK dt):=fun h o H δ σ S En D he hs q c x=>by
 have z:h++ad []=h:=gq _;have nx:∀{N:XE->Sto->Prop}{Y:St->Hp->Prop},Nx h o H N Y->NxM h o H (ad []) (fun δ' S' _=>N δ' S') Y:=fun {N Y} n o' H' δ' S' M' σ' ex ea ac aa _ q'=>by
  rw[ea,z]at ac aa;exact n o' H' δ' S' σ' ex ac aa q'
 refine ht h o H o H δ σ S [] _ D Ex.refl (fun a m=>by cases m) (by rw[z];exact he) (by rw[z];exact hs) RepM.nil q ⟨nx c.nx,?_,nx c.bk,nx c.ct⟩ x;rintro o' H' S' M' y v ex ea aa _ ae q';rw[ea,z]at aa ae;exact c.rt o' H' S' y v ex aa ae q'
theorem Cg{t:TS}{dt:DSm}(ht:RSm E0 (fun _ _=>False) t dt):RS t (gK dt):=fun h o H δ σ S En D he hs q c=>Ki ht h o H δ σ S En D he hs q c fun _ _ _ _ _ _ _ _ _ z=>z.elim
end
end
section
def ROp(Φ:Phi)(r:R2)(rd:D2):Prop:=∀(h o:List Addr) (H:Hp) (S:Sto) (x y:XV) (v u:V) (R:RX) (Q:VK),Φ h o H->RepS h o H S->HasX h o H x v->HasX h o H y u->rd x y S R->Cn h o H R Q->r v u H Q
section
variable {Φ:Phi} [Stb Φ] {ta tb:TE}{da db:DE}
theorem wP{r:R2}{rd:D2}(hr:ROp Φ r rd)(ha:REp Φ ta da)(hb:REp Φ tb db):REp Φ (tOp r ta tb) (dOp rd da db):=fun h o H δ σ S R Q he hs q c w=>
 ha h o H δ σ S _ _ he hs q (fun o1 H1 S1 x v e1 s1 x1 d1=>hb h o1 H1 δ σ S1 _ _ (he.mono e1) s1 d1 (fun o2 H2 S2 y u e2 s2 y2 d2=>
  hr h o2 H2 S2 x y v u R Q (Stb.st w (e1.trans e2)) s2 (x1.mono e2) y2 d2 (c.pre (e1.trans e2))) (Stb.st w e1)) w
theorem Ag{tt tu:TT}{dt du:DT}(ha:RTp Φ tt dt)(hb:RTp Φ tu du):RTp Φ (vV tt tu) (dZ dt du):=fun h o H δ σ S R Q he hs q c w=>
 ha h o H δ σ S _ _ he hs q (fun o1 H1 S1 b e1 s1 d1=>by
  cases b with
  |true=>exact eT (hb h o1 H1 δ σ S1 _ _ (he.mono e1) s1 (by simpa using d1) (fun o2 H2 S2 b e2=>c o2 H2 S2 b (e1.trans e2)) (Stb.st w e1))
  |false=>exact eI (c o1 H1 S1 _ e1 s1 (by simpa using d1))) w
end
def IsDD(M:DM)(x:XV)(D:DD):Prop:=(∃a,x=.o (.ref a)/\(a,D)∈M)\/∃m,D=.k m/\x=.d (.dict (DD.pairs (.k m)))
theorem BB{M:DM}{h o:List Addr}{H:Hp}{x:XV}{D:DD}{v:V}(φ:PhM M h o H)(q:IsDD M x D)(hx:HasX h o H x v):∃a,v=.ref a/\RAt (vx h o H) H a D:=by
 rcases q with ⟨a,rfl,m⟩|⟨m,rfl,rfl⟩
 ·obtain⟨h0,rfl,rm⟩:=φ;exact⟨a,hx,(rm.ct a D m).rd⟩
 ·obtain⟨a,ob,m',rfl,e,l⟩:=yS.mp (show Has _ _ v from hx);exact⟨a,rfl,m',.inr ⟨ob,zU _ _ e⟩,l⟩
def wK(n:Bool):R2:=fun y x H Q=>∃a o,x=.ref a/\DGet H a y o/\Q (.bl (if n=true then !o.isSome else o.isSome)) H
theorem C4{X:Cx}(hu:X.A.units+64<gz):OpR X (fw .In) (wK false):=fun zf s σ H y x v u Q I ry rx ⟨a,o,e,g,q⟩=>by
 subst e;obtain rfl:u=bu a:=rx;exact Ix yw I g ry fun s3 I3=>⟨.bl o.isSome,H,I3,rfl,q⟩
theorem FI{X:Cx}(hu:X.A.units+64<gz):OpR X (fw .NotIn) (wK true):=fun zf s σ H y x v u Q I ry rx ⟨a,o,e,g,q⟩=>by
 subst e;obtain rfl:u=bu a:=rx;exact Kf yw I g ry fun s3 I3=>⟨.bl (!o.isSome),H,I3,rfl,q⟩
def f9(M:DM)(n:Bool):D2:=fun y x S R=>asD y fun k=>∃D o,IsDD M x D/\D.get k=some o/\R (.d (.bool (if n=true then !o.isSome else o.isSome))) S
theorem Gq{G:Hp}{o:Option bd}{r:Option V}(q:RelD G o r):r.isSome=o.isSome:=by
 cases o with
 |none=>rw[show r=none from q];rfl
 |some d=>obtain⟨u,rfl,_⟩:=q;rfl
theorem tI{M:DM}{n:Bool}:ROp (PhM M) (wK n) (f9 M n):=fun h o H S y x v u R Q φ hs hy hx q c=>by
 obtain⟨k,rfl,D,r,hD,e,q⟩:=c4 q;obtain⟨a,rfl,da⟩:=BB φ hD hx;obtain⟨r',g,rr⟩:=da.get zU hy e;refine⟨a,r',rfl,g,?_⟩;rw[Gq rr];exact c o H S _ _ Ex.refl hs (xB _) q
def iA(M:DM)(dd dy:DE):DE:=fun δ S R=>dd δ S fun x S1=>dy δ S1 fun y S2=>asD y fun k=>∃D d,IsDD M x D/\D.get k=some (some d)/\R (.d d) S2
theorem Dn{M:DM}{td ty:TE}{dd dy:DE}(hd:REp (PhM M) td dd)(hy:REp (PhM M) ty dy):REp (PhM M) (AX td ty) (iA M dd dy):=fun h o H δ σ S R Q he hs q c w=>
 hd h o H δ σ S _ _ he hs q (fun o1 H1 S1 x v e1 s1 x1 d1=>hy h o1 H1 δ σ S1 _ _ (he.mono e1) s1 d1 (fun o2 H2 S2 y u e2 s2 y2 d2=>by
  obtain⟨k,rfl,D,d,hD,e,q⟩:=c4 d2;obtain⟨a,rfl,da⟩:=BB (Stb.st w (e1.trans e2)) hD (x1.mono e2);obtain⟨r',g,r2,rfl,h2⟩:=da.get zU y2 e;exact⟨a,r2,rfl,g,c o2 H2 S2 (.d d) r2 (e1.trans e2) s2 h2 q⟩) (Stb.st w e1)) w
def iX(j:Nat)(dk dv:DM->DE):DSm:=fun En δ S M=>dv M δ S fun x S1=>asD x fun d=>zj j δ S1 fun y S2=>∃a,y=.o (.ref a)/\dk M δ S2 fun z S3=>asD z fun k=>∃D D',(a,D)∈M/\D.put k d=some D'/\D.len<1000/\En.nx δ S3 (eV M a D')
theorem Hl{E:XK}{EX:EXD}{j:Nat}{ty tv:TE}{dk dv:DM->DE}(hk:∀M,REp (PhM M) ty (dk M))(hv:∀M,REp (PhM M) tv (dv M)):RSm E EX (Bs (cO j) ty tv) (iX j dk dv):=fun h o0 H0 o H δ σ S M En D e0 fr he hs rm q c x=>
 hv M (h++ad M) o H δ σ S _ _ he hs q (fun o1 H1 S1 y v e1 s1 x1 d1=>by
  obtain⟨d,rfl,y1,ey,a,rfl,d2⟩:=c4 d1;have aa:=he.mono e1;obtain⟨v1,ev,ag⟩:=aa.get j _ ey;have af:v1=.ref a:=ag;subst af;refine⟨_,ev,hk M (h++ad M) o1 H1 δ σ S1 _ _ aa s1 d2 (fun o2 H2 S2 z u e2 s2 z2 d3=>?_) ⟨h,rfl,rm.mono e1⟩⟩;obtain⟨k,rfl,D1,D2,mD,eD,hl,n⟩:=c4 d3;have ac:=e1.trans e2;have ae:=rm.mono ac;have ma:a∈ad M:=mem_map.mpr ⟨_,mD,rfl⟩;obtain⟨w,pt,fin⟩:=(ae.ct a D1 mD).put zU z2 (x1.mono e2) eD hl;have mh:a∈h++ad M:=cv _ ma;refine⟨a,_,rfl,pt,c.nx o2 _ δ S2 (eV M a D2) σ ⟨(e0.trans ac).pre,fun b w' nb zb=>?_⟩ fO ?_ ?_ (ae.put mD fin) n⟩
  ·obtain⟨z1,z3⟩:=(e0.trans ac).kp b w' nb zb;exact⟨z1,by rw[zE (fun z=>by rw[z,fr a ma]at zb;cases zb)];exact z3⟩
  ·rw[fO];exact(aa.mono e2).view (rO mh)
  ·rw[fO];exact s2.hidden mh) ⟨h,rfl,rm⟩
theorem Af{t t':TS}{d:DS}(h:RS t d)(e:t'=t:=by rfl):RS t' d:=e▸h
end
end L2
namespace L2
open PySem PySem.Spec PySem.Calls PyProof.Rows
theorem KD:entryFor table "dict_itemiterator.__iter__" = some jn.«dict_keyiterator.__iter__» :=
 entryFor_alias (id':="dict_keyiterator.__iter__") (by kernel_rfl) rfl (by decide +kernel) (by kernel_rfl)
theorem HK{prog:bz}{w:dh}{A:cz}{E:bb->be->Prop}{s:be}{it d:Addr}{i n ep:Nat}{ok ov:bb}{Q:bb->be->Prop}(z:mi s.heap it d i n ep ok ov)(h:Q (.ref it) s):bo (model prog w) A (pyIter (.ref it)) Q E s:=by
 have hT:s.TypeIs (.ref it) "dict_itemiterator":=⟨_,z,rfl⟩;refine wpAny_pyIter_slot hT F.slot_dict_itemiterator_iter (ko F.slot_dict_itemiterator_iter hT KD ?_ (F.args_dict_itemiterator_iter_1 _));show bo _ _ (ret (.ref it)) _ _ s;exact bh ⟨_,rfl,"dict_itemiterator",_,hT,F.slot_dict_itemiterator_next.lookup,h⟩
def DD.itemsD(m:List (Key×bd)):List bd:=m.map fun p=>.tuple [kD p.1,p.2]
def pM(e:DE):DI:=fun δ S R=>e δ S fun x S1=>∃m,x=.d (.dict (DD.pairs (.k m)))/\R (DD.itemsD m) S1
end L2
namespace L2
open PySem PySem.Spec PyProof.Rows
section
section
variable {E:XK}{EX:EXD}{a b c d e f u:TS}{dt du:DS}{i:Nat}
theorem Kz(h:RS (aR a (aR b c)) dt)(hu:RS u du):RS (aR a (aR b (aR c u))) (zS dt du):=Af (zO h hu)
theorem Ef(h:RS (aR a (aR b (aR c d))) dt)(hu:RS u du):RS (aR a (aR b (aR c (aR d u)))) (zS dt du):=Af (zO h hu)
end
end
end L2
namespace L2
open PySem PyProof.Rows
section
variable {prog:bz}{w:dh}{A:cz}{E:bb->be->Prop}{s:be}{kd:SortKind}{D:Keyed->Prop}{lt:Keyed->Keyed->Bool}
def flt(lt:Keyed->Keyed->Bool):Keyed->Keyed->Bool:=fun x y=>lt y x
def G(xs:Array Keyed)(i:Nat):Keyed:=(xs[i]?).getD (.none,.none)
end
end L2
namespace L2
open PySem PySem.Spec PySem.Calls PyProof.Rows PySem.W
def pB:List XV->Sto->RX->Prop:=fun xs S R=>arg1 xs fun x=>∃m:List (Key×bd),x=.d (.dict (DD.pairs (.k m)))/\∃ns:List Int,m.map (·.1)=ns.map Sum.inl/\ns.length<=10000000/\∀ms:List Int,ms.Perm ns->ms.Pairwise (· <= ·)->R (.d (.list (ms.map bp))) S
end L2
namespace L2
open PySem PySem.Spec PySem.Calls PyProof.Rows
def pZ(j:Nat)(dk dv:DM->DE):DSm:=fun En δ S M=>zj j δ S fun y S1=>∃a m,y=.o (.ref a)/\(a,DD.k m)∈M/\dk M δ S1 fun z S2=>dv M δ S2 fun x S3=>asD z fun k=>asD x fun d=>∃kk,fE k=some kk/\m.length<1000/\if (lkA m kk).isSome=true then En.nx δ S3 M else En.nx δ S3 (eV M a (.k (ptA m kk d)))
def lL(k:Int)(e:DE):DE:=fun δ S R=>e δ S fun x S1=>asD x fun d=>R (.d (.dict [(.int k,d)])) S1
end L2
namespace L2
theorem len0{α:Type}{l:List α}(h:l.length=0):l=[]:=fm h
theorem len1{α:Type}{l:List α}(h:l.length=1):∃a0,l=[a0]:=by
 cases l with
 |nil=>cases h
 |cons x r=>
  obtain rfl:=len0 (Nat.succ.inj h);exact⟨x,rfl⟩
theorem len2{α:Type}{l:List α}(h:l.length=2):∃a0 a1,l=[a0,a1]:=by
 cases l with
 |nil=>cases h
 |cons x r=>
  obtain⟨a1,rfl⟩:=len1 (Nat.succ.inj h);exact⟨x,a1,rfl⟩
theorem len3{α:Type}{l:List α}(h:l.length=3):∃a0 a1 a2,l=[a0,a1,a2]:=by
 cases l with
 |nil=>cases h
 |cons x r=>
  obtain⟨a1,a2,rfl⟩:=len2 (Nat.succ.inj h);exact⟨x,a1,a2,rfl⟩
theorem len4{α:Type}{l:List α}(h:l.length=4):∃a0 a1 a2 a3,l=[a0,a1,a2,a3]:=by
 cases l with
 |nil=>cases h
 |cons x r=>
  obtain⟨a1,a2,a3,rfl⟩:=len3 (Nat.succ.inj h);exact⟨x,a1,a2,a3,rfl⟩
end L2
namespace L2
open PySem PySem.Spec PySem.Calls PyProof.Rows
open Sem (wp)
def pA(a:DA):DE:=fun δ S R=>a δ S fun xs S1=>arg2 xs fun x y=>∃ds,eO x=some ds/\∃es,eO y=some es/\min ds.length es.length<=1000/\R (.d (.list (uM ds es))) S1
end L2
namespace L2
open PySem PySem.Spec PyProof.Rows
section
theorem lo{sc:Scope}{x:Str}(h:sc.names.lookup x=some .local:=by rfl):Loc sc x:=fq h
theorem fsd{N P:List Str}{sc:Scope}(h:u9 N P sc=true:=by decide +kernel):FnScope N P sc:=fsc h
end
end L2
namespace L2
open PySem PySem.Spec PySem.Calls PyProof.Rows
inductive AllK {α:Type} (F:α->bb->Prop):List α->List bb->Prop
 |nil:AllK F [] []
 |cons {k v ks vs}:F k v->AllK F ks vs->AllK F (k::ks) (v::vs)
def KAt(h:Heap):(s:KSg)->KG s->bb->Prop
 | .int,i,v=>Value.isInt i v=true
 | .bool,b,v=>v=.bool b
 | .many s,ks,v=>∃a vs,v=.ref a/\h.IsTuple a vs/\AllK (KAt h s) ks vs.toList
 | .two s t,k,v=>∃a u w,v=.ref a/\h.IsTuple a #[u,w]/\KAt h s k.1 u/\KAt h t k.2 w
def kdraw:(s:KSg)->KG s->Nat
 | .int,_=>1
 | .bool,_=>1
 | .many s,ks=>(ks.map (kdraw s)).sum+1
 | .two s t,k=>kdraw s k.1+kdraw t k.2+1
def KSg.dp:KSg->Nat
 | .int=>0
 | .bool=>0
 | .many s=>s.dp+1
 | .two s t=>max s.dp t.dp+1
theorem AllK.inj{α:Type}{F:α->bb->Prop}(hi:∀a b v,F a v->F b v->a=b):∀{xs ys:List α}{vs:List bb},AllK F xs vs->AllK F ys vs->xs=ys
 |_,_,_,.nil,.nil=>rfl
 |_,_,_,.cons a l,.cons b m=>by rw[hi _ _ _ a b,AllK.inj hi l m]
theorem tQ{h:Heap}{a:Addr}{vs us:Array bb}(x:h.IsTuple a vs)(y:h.IsTuple a us):vs=us:=by
 obtain⟨o,e,c,n,d⟩:=x;obtain⟨o',e',c',n',d'⟩:=y;rw[e]at e';cases e';rw[d]at d';injection d'
theorem KAt.inj{h:Heap}:∀(s:KSg) {x y:KG s}{v:bb},KAt h s x v->KAt h s y v->x=y
 | .int,x,y,v,a,b=>Value.isInt_inj v x y a b
 | .bool,x,y,v,a,b=>by
  have:=(show v=.bool x from a).symm.trans (show v=.bool y from b);injection this
 | .many s,x,y,v,⟨a,vs,e,t,l⟩,⟨a',vs',e',t',l'⟩=>by
  subst e;injection e' with e'
  subst e';rw[tQ t' t]at l';exact AllK.inj (F:=KAt h s) (fun _ _ _ p q=>KAt.inj s p q) l l'
 | .two s t,x,y,v,⟨a,u,w,e,tt,l,m⟩,⟨a',u',w',e',tt',l',m'⟩=>by
  subst e;injection e' with e'
  subst e';have z:=tQ tt' tt;have z1:u'=u:=by have:=congrArg (fun q=>q[0]?) z;simpa using this
  have z2:w'=w:=by have:=congrArg (fun q=>q[1]?) z;simpa using this
  subst z1 z2;exact Prod.ext (KAt.inj s l l') (KAt.inj t m m')
theorem AllK.imp{α:Type}{F G:α->bb->Prop}(hi:∀a v,F a v->G a v):∀{xs:List α}{vs:List bb},AllK F xs vs->AllK G xs vs
 |_,_,.nil=>.nil
 |_,_,.cons a l=>.cons (hi _ _ a) (l.imp hi)
theorem CZ{h h':Heap}{a d:Addr}{vs:Array bb}{o:Obj}{es ep}(x:h.IsTuple a vs)(ho:h.get? d=some o)(hd:o.data=.dict es ep)(hs:gu d h h'):h'.IsTuple a vs:=by
 obtain⟨o',e,c,n,q⟩:=x;have z:a≠d:=by
  rintro rfl;rw[ho]at e;cases e;rw[hd]at q;cases q
 exact⟨o',(hs.2 a z).trans e,c,n,q⟩
theorem KAt.keeps{h h':Heap}{d:Addr}{o:Obj}{es ep}(ho:h.get? d=some o)(hd:o.data=.dict es ep)(hs:gu d h h'):∀(s:KSg) {k:KG s}{v:bb},KAt h s k v->KAt h' s k v
 | .int,_,_,x=>x
 | .bool,_,_,x=>x
 | .many s,_,_,⟨a,vs,e,t,l⟩=>⟨a,vs,e,CZ t ho hd hs,l.imp fun _ _ q=>KAt.keeps ho hd hs s q⟩
 | .two s t,_,_,⟨a,u,w,e,tt,l,m⟩=>⟨a,u,w,e,CZ tt ho hd hs,KAt.keeps ho hd hs s l,KAt.keeps ho hd hs t m⟩
section
variable {prog:bz}{w:dh}{A:cz}{E:bb->be->Prop}{s:be}
theorem FC{b:Bool}{Q:Int->be->Prop}(h:Q (reduceHash (match b with|true=>1|false=>0)) { s with toks:=s.toks+1 }):bo (model prog w) A (pyHash (.bool b)) Q E s:=by
 refine W.pyHash_slot (T:="bool") rfl F.slot_bool_hash PySem.entry_int_hash (PySem.args_int_hash _) (beq_builtin_none _) (.inl rfl) ?_;cases b
 ·exact(show bo _ _ (do ret (<- mkInt 0)) _ _ s from bc (wpAny_mkInt (bh ⟨_,_,rfl,h⟩)))
 ·exact(show bo _ _ (do ret (<- mkInt 1)) _ _ s from bc (wpAny_mkInt (bh ⟨_,_,rfl,h⟩)))
theorem AW{a:Addr}{vs:Array bb}{Q:Int->be->Prop}(ht:s.heap.IsTuple a vs)(hu:A.units<gz)(L:List (bb×Int×Nat))(hv:vs.toList=L.map (·.1))
  (hp:∀x∈L,∀(E':bb->be->Prop) (s':be) (Q':Int->be->Prop),s'.heap=s.heap->Q' x.2.1 { s' with toks:=s'.toks+x.2.2 }->bo (model prog w) A.in1 (pyHash x.1) Q' E' s')
  (h:Q (reduceHash (ib (L.map (·.2.1)))) { s with toks:=s.toks+((L.map (·.2.2)).sum+1) }):bo (model prog w) A (pyHash (.ref a)) Q E s:=by
 have hT:s.TypeIs (.ref a) "tuple":=let ⟨o,e,c,_⟩:=ht;⟨o,e,c⟩;obtain⟨o,ho,hc,n,hd⟩:=ht;refine W.pyHash_slot (T:="tuple") hT F.slot_tuple_hash F.entry_tuple_hash (F.args_tuple_hash_1 _) (beq_builtin_none _) (.inr hu) ?_;show bo _ _ (Builtin.Tuple.tupleItemsOf (.ref a) >>= _) _ _ s;refine bc (wpAny_tupleItemsOf ho hd ?_);refine bc ?_;rw[<- Array.forIn_toList];refine wpAny_forIn_list _
  (fun rest (b:Array Int) s'=>∃done left,L=done++left/\rest=left.map (·.1)/\b.toList=done.map (·.2.1)/\s' = { s with toks:=s.toks+(done.map (·.2.2)).sum })
  _ ?_ ?_ _ _ ⟨[],L,rfl,hv,rfl,rfl⟩
 ·rintro x rest b s' ⟨done,left,e,hl,hb,rfl⟩;cases left with
  |nil=>simp at hl
  |cons y left=>
   rw[dq,List.cons.injEq]at hl;rw[hl.1];refine bc (hp y (by rw[e];simp) _ _ _ rfl ?_);have fin:∃done' left',L=done'++left'/\rest=left'.map (·.1)/\(b.push y.2.1).toList=done'.map (·.2.1)/\({ s with toks:=s.toks+(done.map (·.2.2)).sum+y.2.2 }:be) = { s with toks:=s.toks+(done'.map (·.2.2)).sum } :=
    ⟨done++[y],left,by rw[e];simp,hl.2,by simp[hb],by simp[Nat.add_assoc]⟩
   first
    |exact bh fin
    |exact bc (bh (bh fin))
 ·rintro b s' ⟨done,left,e,hl,hb,rfl⟩;cases left with
  |cons y left=>simp at hl
  |nil=>
   rw[gq]at e;subst e;show bo _ _ (retInt (ib b.toList)) _ _ _;rw[hb];exact(show bo _ _ (do ret (<- mkInt (ib (L.map (·.2.1))))) _ _ _ from bc (wpAny_mkInt (bh ⟨_,_,rfl,by simpa[Nat.add_assoc]using h⟩)))
theorem qY:∀(g:KSg) {k:KG g}{v:bb}{A:cz}{E:bb->be->Prop}{s:be}{Q:Int->be->Prop},A.units+g.dp<gz->KAt s.heap g k v->Q (khash g k) { s with toks:=s.toks+kdraw g k }->bo (model prog w) A (pyHash v) Q E s
 | .int,k,v,A,E,s,Q,_,x,h=>by
  obtain⟨t,rfl⟩:=lv x;exact wpAny_pyHash_int h
 | .bool,k,v,A,E,s,Q,_,x,h=>by
  rw[show v=.bool k from x];exact FC h
 | .many g,k,v,A,E,s,Q,hu,⟨a,vs,e,t,l⟩,h=>by
  subst e;have aa:A.units+(g.dp+1)<gz:=hu;have z:∀(ks:List (KG g)) (us:List bb),AllK (KAt s.heap g) ks us->∃L:List (bb×Int×Nat),us=L.map (·.1)/\L.map (·.2.1)=ks.map (khash g)/\L.map (·.2.2)=ks.map (kdraw g)/\∀x∈L,∃k,KAt s.heap g k x.1/\x.2.1=khash g k/\x.2.2=kdraw g k:=by
   intro ks us q;induction q with
   |nil=>exact⟨[],rfl,rfl,rfl,yv⟩
   | @cons k u ks us q1 _ ih=>
    obtain⟨L,h1,h2,h3,h4⟩:=ih;refine⟨(u,khash g k,kdraw g k)::L,by rw[h1];rfl,by rw[dq,dq,h2],by rw[dq,dq,h3],fun x m=>?_⟩;rcases mem_cons.mp m with rfl|m
    ·exact⟨k,q1,rfl,rfl⟩
    ·exact h4 x m
  obtain⟨L,h1,h2,h3,h4⟩:=z k vs.toList l;refine AW t yw L h1 (fun x m E' s' Q' eh hq=>?_) (by rw[h2,h3];exact h);obtain⟨k',q1,q2,q3⟩:=h4 x m;refine qY g (k:=k') (by show A.units+1+g.dp<gz;omega) (by rw[eh];exact q1) ?_;rw[<- q2,<- q3];exact hq
 | .two g g',k,v,A,E,s,Q,hu,⟨a,u,u',e,t,l,m⟩,h=>by
  subst e;have aa:A.units+(max g.dp g'.dp+1)<gz:=hu;refine AW t yw [(u,khash g k.1,kdraw g k.1),(u',khash g' k.2,kdraw g' k.2)] rfl (fun x mx E' s' Q' eh hq=>?_) ?_
  ·simp only[gj,fj,or_false]at mx;rcases mx with rfl|rfl
   ·exact qY g (k:=k.1) (by show A.units+1+g.dp<gz;omega) (by rw[eh];exact l) hq
   ·exact qY g' (k:=k.2) (by show A.units+1+g'.dp<gz;omega) (by rw[eh];exact m) hq
  ·have h':Q (reduceHash (ib [khash g k.1,khash g' k.2])) { s with toks:=s.toks+(kdraw g k.1+kdraw g' k.2+1) }:=h;simpa[Nat.add_assoc]using h'
theorem Gf(a b:Int):(a==b)=decide (a=b):=by by_cases z:a=b<;>simp[z]
theorem Fj(a b:Bool):(a==b)=decide (a=b):=by cases a<;>cases b<;>rfl
theorem AllK.length{α:Type}{F:α->bb->Prop}:∀{xs:List α}{vs:List bb},AllK F xs vs->xs.length=vs.length
 |_,_,.nil=>rfl
 |_,_,.cons _ l=>by rw[cn,cn,l.length]
theorem AllK.get{α:Type}{F:α->bb->Prop}:∀{xs:List α}{vs:List bb}{j:Nat}{v:bb},AllK F xs vs->vs[j]?=some v->∃x,xs[j]?=some x/\F x v
 |_,_,0,v,.cons a _,e=>by simp at e;subst e;exact⟨_,rfl,a⟩
 |_,_,j+1,v,.cons _ l,e=>by obtain⟨x,e1,e2⟩:=l.get (j:=j) (by simpa using e);exact⟨x,by simpa using e1,e2⟩
theorem G1{α:Type}[DecidableEq α](x y:List α):((dj (min x.length y.length)).all (fun j=>decide (x[j]?=y[j]?))&&x.length==y.length)=decide (x=y):=by
 by_cases e:x=y
 ·subst e;simp
 ·rw[fx e,Bool.and_eq_false_iff];by_cases hl:x.length=y.length
  ·left;rw[<- Bool.not_eq_true,all_eq_true];intro h;refine e (List.ext_getElem? fun j=>?_);rcases Nat.lt_or_ge j x.length with hj|hj
   ·exact of_decide_eq_true (h j (mem_range.mpr yw))
   ·rw[List.getElem?_eq_none hj,List.getElem?_eq_none yw]
  ·right;exact beq_eq_false_iff_ne.mpr hl
theorem FJ{α:Type}[DecidableEq α]{F:α->bb->Prop}{A:cz}{s:be}{a a':Addr}{x y:List α}{vs aa:Array bb}(l:AllK F x vs.toList)(l':AllK F y aa.toList)(t:s.heap.IsTuple a vs)(t':s.heap.IsTuple a' aa)(hu:A.units<gz)(ha:a≠a')
  (he:∀k k' u v,F k u->F k' v->PySem.SeqAt.EqAt A.in1 s u v (decide (k=k'))):PySem.SeqAt.EqAt A s (.ref a) (.ref a') (decide (x=y)):=by
 have c:=PySem.SeqAt.RcAt.tuples (A:=A) (e:=fun j=>decide (x[j]?=y[j]?)) t t' hu (fun j h1 h2=>by
  obtain⟨k,e1,k1⟩:=l.get (j:=j) (v:=vs[j]) (by simp[h1]);obtain⟨k',e2,k2⟩:=l'.get (j:=j) (v:=aa[j]) (by simp[h2]);have z:decide (x[j]?=y[j]?)=decide (k=k'):=by
   rw[e1,e2];by_cases q:k=k'<;>simp[q]
  show PySem.SeqAt.EqAt A.in1 s vs[j] aa[j] (decide (x[j]?=y[j]?));rw[z];exact he _ _ _ _ k1 k2)
 have n1:x.length=vs.size:=by rw[l.length,jd]
 have n2:y.length=aa.size:=by rw[l'.length,jd]
 rw[<- n1,<- n2,G1]at c;exact PySem.SeqAt.EqAt.of_refs ha c
theorem Ej{e:Nat->Bool}:(dj 2).all e=(e 0&&e 1):=by
 rw[show dj 2=[0,1]from rfl];simp
theorem qQ:∀(g:KSg) {x y:KG g}{u v:bb}{A:cz}{s:be},A.units+g.dp<gz->KAt s.heap g x u->KAt s.heap g y v->PySem.SeqAt.EqAt A s u v (decide (x=y))
 | .int,x,y,u,v,A,s,_,p,q=>by
  obtain⟨t,rfl⟩:=lv p;obtain⟨t',rfl⟩:=lv q;exact fun prog w E Q h=>wpAny_eqBool_int (by
   have z:((show Int from x)==(show Int from y))=decide (x=y):=Gf x y;rw[z];exact h)
 | .bool,x,y,u,v,A,s,_,p,q=>by
  rw[show u=.bool x from p,show v=.bool y from q];have z:((show Bool from x)==(show Bool from y))=decide (x=y):=Fj x y;rw[<- z];exact PySem.SeqAt.EqAt.bool_bool _ _
 | .many g,x,y,u,v,A,s,hu,⟨a,vs,e,t,l⟩,⟨a',vs',e',t',l'⟩=>by
  subst e e';have aa:A.units+(g.dp+1)<gz:=hu;by_cases ha:a=a'
  ·subst ha;rw[tQ t' t]at l';rw[ju (show x=y from AllK.inj (F:=KAt s.heap g) (fun _ _ _ p q=>KAt.inj g p q) l l')];exact PySem.SeqAt.EqAt.same _
  ·exact FJ (F:=KAt s.heap g) l l' t t' yw ha fun k k' u v p q=>qQ g (by show A.units+1+g.dp<gz;omega) p q
 | .two g g',x,y,u,v,A,s,hu,⟨a,p,q,e,t,l,m⟩,⟨a',p',q',e',t',l',m'⟩=>by
  subst e e';have aa:A.units+(max g.dp g'.dp+1)<gz:=hu;by_cases ha:a=a'
  ·subst ha;rw[ju (show x=y from KAt.inj (.two g g') (v:=.ref a) ⟨a,p,q,rfl,t,l,m⟩ ⟨a,p',q',rfl,t',l',m'⟩)];exact PySem.SeqAt.EqAt.same _
  ·have c:=PySem.SeqAt.RcAt.tuples (A:=A) (e:=fun j=>if j=0 then decide (x.1=y.1)else decide (x.2=y.2)) t t' yw (fun j h1 h2=>by
    have:j=0\/j=1:=by have:j<2:=h1;omega
    rcases this with rfl|rfl
    ·exact qQ g (by show A.units+1+g.dp<gz;omega) l l'
    ·exact qQ g' (by show A.units+1+g'.dp<gz;omega) m m')
   have e:decide (x=y)=((dj (min (#[p,q]:Array bb).size (#[p',q']:Array bb).size)).all (fun j=>if j=0 then decide (x.1=y.1)else decide (x.2=y.2))&&(#[p,q]:Array bb).size==(#[p',q']:Array bb).size):=by
    show _=((dj 2).all _&&true);rw[Ej,Bool.and_true];obtain⟨x1,x2⟩:=x;obtain⟨y1,y2⟩:=y;show decide ((x1,x2)=(y1,y2))=(decide (x1=y1)&&decide (x2=y2));by_cases z1:x1=y1<;>by_cases z2:x2=y2<;>simp[z1,z2]
   rw[e];exact PySem.SeqAt.EqAt.of_refs ha c
theorem DH{n:Nat}{a:Addr}{vs:Array bb}{A:cz}{E:bb->be->Prop}{s:be}{Q:Bool->be->Prop}(ht:s.heap.IsTuple a vs)(hq:∀v∈vs.toList,∀(E':bb->be->Prop) (Q':Bool->be->Prop),Q' true s->bo (model prog w) A (eqIsQuiet n v) Q' E' s)(h:Q true s):bo (model prog w) A (eqIsQuiet (n+1) (.ref a)) Q E s:=by
 have hT:s.TypeIs (.ref a) "tuple":=let ⟨o,e,c,_⟩:=ht;⟨o,e,c⟩;obtain⟨o,ho,hc,m,hd⟩:=ht;unfold eqIsQuiet;refine bc (wpAny_specialOf hT F.slot_tuple_eq.lookup ?_);show bo _ _ (isInstance (.ref a) (.type "tuple") >>= _) _ _ s;refine bc (wpAny_isInstance hT isSubtype_tuple_tuple ?_);simp only[Bool.not_true,gy,if_false];refine bc (wpAny_seqItems ho hd ?_);refine bc ?_;show bo _ _ (forIn vs _ _) _ _ s;rw[<- Array.forIn_toList];refine wpAny_forIn_list _ (fun rest r s'=>r.1=none/\s'=s/\∀v∈rest,v∈vs.toList) _ ?_ ?_ _ _ ⟨rfl,rfl,fun v m=>m⟩
 ·rintro v rest r s' ⟨hr,rfl,z⟩;refine bc (hq v (z v ck) _ _ ?_);simp only[Bool.not_true,gy,if_false];exact bh ⟨rfl,rfl,fun u aa=>z u (bw _ aa)⟩
 ·rintro⟨r1,r2⟩ s' ⟨hr,rfl,_⟩;simp only at hr;subst hr;exact bh h
theorem rN:∀(n:Nat) (g:KSg) {k:KG g}{v:bb}{A:cz}{E:bb->be->Prop}{s:be}{Q:Bool->be->Prop},g.dp<=n->KAt s.heap g k v->Q true s->bo (model prog w) A (eqIsQuiet n v) Q E s
 |n,.int,k,v,A,E,s,Q,_,x,h=>by
  obtain⟨t,rfl⟩:=lv x;rw[eqIsQuiet_byValue n rfl];exact bh h
 |n,.bool,k,v,A,E,s,Q,_,x,h=>by
  rw[show v=.bool k from x,eqIsQuiet_byValue n rfl];exact bh h
 | 0,.many g,k,v,A,E,s,Q,hn,x,h=>absurd (show g.dp+1<=0 from hn) yw
 | 0,.two g g',k,v,A,E,s,Q,hn,x,h=>absurd (show max g.dp g'.dp+1<=0 from hn) yw
 |n+1,.many g,k,v,A,E,s,Q,hn,⟨a,vs,e,t,l⟩,h=>by
  have z:g.dp+1<=n+1:=hn;subst e;refine DH t (fun v m E' Q' hq=>?_) h;obtain⟨j,hj⟩:=mem_iff_getElem?.mp m;obtain⟨k',_,q⟩:=l.get hj;exact rN n g yw q hq
 |n+1,.two g g',k,v,A,E,s,Q,hn,⟨a,u,u',e,t,l,m⟩,h=>by
  have z:max g.dp g'.dp+1<=n+1:=hn;subst e;refine DH t (fun v mv E' Q' hq=>?_) h;simp only[gj,fj,or_false]at mv;rcases mv with rfl|rfl
  ·exact rN n g yw l hq
  ·exact rN n g' yw m hq
end
def uS(prog:bz)(w:dh)(g:KSg)(hg:g.dp<=8):HeapKind prog w (KG g) where
 is:=fun h k a=>KAt h g k (.ref a)
 hash:=khash g
 draws:=kdraw g
 room:=fun A=>A.units+g.dp<gz
 inj:=fun hx hy=>KAt.inj g hx hy
 keeps:=fun x ho hd hs=>x.keeps ho hd hs
 pyHash:=fun hu hk h=>qY g hu hk h
 eqBool:=fun hu hx hy h=>qQ g hu hx hy _ _ _ _ h
 quiet:=fun hk h=>rN 8 g hg hk h
section
variable {prog:bz}{w:dh}{K:Type} [DecidableEq K] {knd:HeapKind prog w K}
theorem EF{A:cz}{E:bb->be->Prop}{s:be}{d a:Addr}{xs:List (K×Addr×bb)}{k:K}{v:bb}{Q:bb->be->Prop}(hu:knd.room A)(z:knd.is s.heap k a)(hm:s.heap.DictOfH knd d xs)(hsz:xs.length<=br)
  (h1:∀p,ku xs k=some p->Q p.2 { s with toks:=s.toks+knd.draws k })
  (h2:ku xs k=none->∀h',h'.DictOfH knd d (xs++[(k,a,v)])->gu d s.heap h'->Q v { s with heap:=h',toks:=s.toks+knd.draws k }):bo (model prog w) A (dictSetDefault d (.ref a) v) Q E s:=by
 obtain⟨o,es,ep,ho,hc,hd,he,ac,hn⟩:=hm;unfold dictSetDefault
 try with_reducible refine je ?_
 refine bc (knd.pyHash hu z (bc (wpAny_dictFind_heap (s:={ s with toks:=s.toks+knd.draws k }) hu z ho hd he ac hn ?_ ?_)))
 ·intro aa;have ae:k∉xs.map (·.1):=not_mem_keys_of_get aa;refine bc (wpAny_rule (bc (wpAny_updateDictKeys (hz:=by have e:=size_of_entries he;omega) (s:={ s with toks:=s.toks+knd.draws k }) ho hd (bh (h2 (atKey_none_of_get aa) _ ⟨_,_,ep+1,gl _ ho (Obj.isFreed_of_dict (Obj.data_mapDictKeys hd _)),hc.mapDictKeys _,Obj.data_mapDictKeys hd _,?_,?_,?_⟩ (Heap.SameBut.update ..))))))
  ·simp[he,entryOfKey]
  ·intro x hx;rcases mem_append.mp hx with hx|hx
   ·exact knd.keeps (ac x hx) ho hd (Heap.SameBut.update ..)
   ·rw[mem_singleton.mp hx];exact knd.keeps z ho hd (Heap.SameBut.update ..)
  ·rw[jc,nodup_append];refine⟨hn,yv,fun x hx y hy e=>?_⟩;simp only[dq,map_nil,mem_singleton]at hy;subst hy;exact ae (e▸hx)
 ·intro j p hj;refine bc (wpAny_dictEntries (s:={ s with toks:=s.toks+knd.draws k }) ho hd ?_);rw[entry_at he j,hj];exact bc (wpAny_rule (bh (h1 p (atKey_of_get hn hj))))
theorem K8{d a:Addr}(hd:(d==gb)=false)(v:bb):
  MeetsIn prog w (jn.«dict.setdefault» ⟨[.ref d,.ref a,v],[]⟩) (fun A R s=>knd.room A.in1/\∃(k:K) (xs:List (K×Addr×bb)),knd.is s.heap k a/\s.heap.DictOfH knd d xs/\xs.length<=br/\(∀p,ku xs k=some p->R (.ok (.ret p.2)) { s with toks:=s.toks+knd.draws k }) /\
   (ku xs k=none->∀h',h'.DictOfH knd d (xs++[(k,a,v)])->gu d s.heap h'->R (.ok (.ret v)) { s with heap:=h',toks:=s.toks+knd.draws k })):=
 .of_wp fun A R s ⟨hu,k,xs,hk,hm,hsz,h1,h2⟩=>by
  unfold jn.«dict.setdefault» Builtin.Dict.keyAndDefault;refine bc (bc (wpAny_notOrdered_dict hm.typeIs ?_));show bo _ _ (pure (d,bu a,some v)) _ _ s;refine bh ?_;simp only[hd,gy,if_false];exact bc (EF hu hk hm hsz (fun p e=>bh ⟨_,rfl,h1 p e⟩) fun e h' d' sb=>bh ⟨v,rfl,h2 e h' d' sb⟩)
end
section
variable {prog:bz}{w:dh}{A:cz}{E:bb->be->Prop}{s:be}
structure DOb(h:Heap)(d:Addr)(ob:Obj)(es:Array mw)(ep:Nat):Prop where
 at_:h.get? d=some ob
 ex:ob.ExactDict
 dt:ob.data=.dict es ep
theorem EV{d:Addr}(hd:(d==gb)=false):MeetsIn prog w (jn.«dict.items» ⟨[.ref d],[]⟩) (fun _ R s=>s.TypeIs (.ref d) "dict" /\
   R (.ok (.ret (.ref s.heap.objs.size))) { s with heap:=s.heap.push { cls:=.type "dict_items",data:=.fields #[.ref d] } }):=
 .of_wp fun A R s ⟨hT,h⟩=>by
  unfold jn.«dict.items» Builtin.Dict.noArgs Builtin.Dict.showsAll;refine bc (bc (wpAny_notOrdered_dict hT ?_));show bo _ _ (pure d) _ _ s;refine bh ?_;show bo _ _ ((if (d==gb)=true then _ else _) >>= _) _ _ s;rw[bv (by rw[hd];exact gc)];exact bc (bh (bc (ft (bh ⟨_,rfl,h⟩))))
theorem Gc{v d:Addr}{ob:Obj}{es:Array mw}{ep:Nat}{Q:bb->be->Prop}(hv:s.heap.IsItemsView v d)(hm:DOb s.heap d ob es ep)
  (hQ:Q (.ref s.heap.objs.size) { s with heap:=s.heap.push { cls:=.type "dict_itemiterator",data:=.fields #[.none,.bool false,.ref d,.int 0 0,.int es.size 0,.int ep 0,.none,.none] } }):bo (model prog w) A (pyIter (.ref v)) Q E s:=by
 obtain⟨ov,aa,ae,ac⟩:=id hv;have z:Builtin.Dict_items.ownsTuple "dict_itemiterator" = true:=by decide
 refine wpAny_pyIter_slot hv.typeIs F.slot_dict_items_iter (ko F.slot_dict_items_iter hv.typeIs F.entry_dict_items_iter ?_ (F.args_dict_items_iter_1 _));unfold jn.«dict_items.__iter__» Builtin.Dict_items.dictOf Builtin.Dict_items.newIterator;refine bc (bh (bc (bc (jo aa ac (x:=.ref d) rfl (bh (bc (bc (wpAny_dictEntries hm.at_ hm.dt (bc (wpAny_dictEpoch hm.at_ hm.dt ?_)))))))))) ;simp only[z,if_true];refine ft (bh ⟨_,rfl,"dict_itemiterator",_,⟨_,cf _ rfl,rfl⟩,F.slot_dict_itemiterator_next.lookup,?_⟩) (by simp only[sizeOk,Builtin.Dict_items.ownedTupleFields,cr,bx,cn,length_nil,jg];omega);simpa[nc,Builtin.Dict_items.ownedTupleFields]using hQ
theorem F8{it d:Addr}{ob:Obj}{es:Array mw}{i ep:Nat}{e:mw}{ok ov:bb}{Q:Option bb->be->Prop}(z:mi s.heap it d i es.size ep ok ov)(hm:DOb s.heap d ob es ep)(hx:es[i]?=some e)
  (hQ:∀h',IsItemIterOut h' it d (i+1) es.size ep e.key e.val s.heap.objs.size->h'.get? s.heap.objs.size=some { cls:=.type "tuple",data:=.seq #[e.key,e.val] }->h'.objs.size=s.heap.objs.size+1 ->
   (∀b o,b≠it->s.heap.get? b=some o->h'.get? b=some o)->Q (some (.ref s.heap.objs.size)) { s with heap:=h' }):bo (model prog w) A (pyNext (.ref it)) Q E s:=by
 obtain⟨hp,g,dr,tk,os⟩:=s;have hT:Shared.TypeIs ⟨hp,g,dr,tk,os⟩ (.ref it) "dict_itemiterator":=⟨_,z,rfl⟩;have ac:Builtin.Dict_items.ownsTuple "dict_itemiterator" = true:=by decide
 have ae:i<es.size:=(Array.getElem?_eq_some_iff.mp hx).1;unfold pyNext;refine bc (wpAny_attempt (wpAny_callSpecial?_slot (name:=Str.ofString "__next__") hT F.slot_dict_itemiterator_next (ko F.slot_dict_itemiterator_next hT F.entry_dict_itemiterator_next ?_ (F.args_dict_itemiterator_next_1 _))));refine bc (bh (bc (bc ?_)))
 first|refine bc (wpAny_typeNameOfWhole_itemiter hT (bh ?_))|refine bc (wpAny_typeNameOf_itemiter hT (bh ?_))
 refine bc (wpAny_fieldsOf z rfl ?_);simp only[ac,if_true];show bo _ _ (if (bu d==gh)=true then _ else _) _ _ _;rw[bv (show ¬((bu d==gh)=true)from gc)];refine bc (bh (bc (wpAny_dictEntries hm.at_ hm.dt ?_)));rw[bv yv];refine bc (bh (bc (wpAny_dictEpoch hm.at_ hm.dt ?_)));rw[bv yv];refine bh ?_;simp only[show ¬((i:Int)<0)from by omega,if_false,Int.toNat_natCast,hx];refine bc ?_
 first|refine bc (wpAny_typeNameOfWhole_itemiter hT (bh ?_))|refine bc (wpAny_typeNameOf_itemiter hT (bh ?_))
 refine bc (wpAny_isOneOf_itemiter hT ?_);show bo _ _ (setField (.ref it) 3 (nc ((i:Int)+1)) >>= _) _ _ ⟨hp,g,dr,tk,os⟩;refine bc (lh z yv fun g1 z1 b1=>?_);replace b1:gu it hp g1:=b1;replace z1:mi g1 it d (i+1) es.size ep ok ov:=by
  have e:((i+1:Nat):Int)=(i:Int)+1:=yw
  unfold mi;rw[e];simpa[nc]using z1
 have aa:Shared.TypeIs ⟨g1,g,dr,tk,os⟩ (.ref it) "dict_itemiterator":=⟨_,z1,rfl⟩;refine bc (je (bc (wpAny_isOneOf_itemiter aa (bc (wpAny_isOneOf_itemiter aa ?_)))));show bo _ _ (Builtin.Dict_items.pairFromOwner (.ref it) 6 e.key e.val) _ _ ⟨g1,g,dr,tk,os⟩;unfold Builtin.Dict_items.pairFromOwner;refine bc (wpAny_newTuple ?_);have z2:mi (g1.push { cls:=.type "tuple",data:=.seq #[e.key,e.val] }) it d (i+1) es.size ep ok ov:=bi _ z1;have sz:g1.objs.size=hp.objs.size:=b1.1;have il:it<hp.objs.size:=dn z;obtain⟨g2,e2⟩:∃g2,g2=g1.push { cls:=.type "tuple",data:=.seq #[e.key,e.val] }:=⟨_,rfl⟩;rw[<- e2]at z2 ⊢;have t2:g2.get? hp.objs.size=some { cls:=.type "tuple",data:=.seq #[e.key,e.val] }:=by rw[e2,<- sz];exact cf _ rfl
 have s2:g2.objs.size=hp.objs.size+1:=by rw[e2,size_push,sz]
 have k2:∀b o,b≠it->hp.get? b=some o->g2.get? b=some o:=fun b o hb q=>by rw[e2];exact bi _ (b1.extBut b o hb q)
 show bo _ _ (Builtin.Dict_items.ownedTupleIsFree (.ref it) >>= _) _ _ ⟨g2,g,dr,tk,os⟩;rw[sz];clear e2 z1 b1 aa sz g1;unfold Builtin.Dict_items.ownedTupleIsFree;refine bc (bc (jo z2 rfl (x:=.none) rfl (bh ?_)));simp only[if_true];refine bc (jo z2 rfl (x:=ok) rfl (bc (jo z2 rfl (x:=ov) rfl ?_)));refine bc (lh z2 yv fun g3 z3 b3=>?_);replace b3:gu it g2 g3:=b3;replace z3:mi g3 it d (i+1) es.size ep e.key ov:=z3;refine bc (lh z3 yv fun g4 z4 b4=>?_);replace b4:gu it g3 g4:=b4;replace z4:mi g4 it d (i+1) es.size ep e.key e.val:=z4;refine bc (lh z4 yv fun g5 z5 b5=>?_);replace b5:gu it g4 g5:=b5;replace z5:IsItemIterOut g5 it d (i+1) es.size ep e.key e.val hp.objs.size:=z5;refine bc (lh z5 yv fun g6 z6 b6=>?_);replace b6:gu it g5 g6:=b6;replace z6:IsItemIterOut g6 it d (i+1) es.size ep e.key e.val hp.objs.size:=z6;have all:∀b o,b≠it->g2.get? b=some o->g6.get? b=some o:=fun b o hb q=>b6.extBut b o hb (b5.extBut b o hb (b4.extBut b o hb (b3.extBut b o hb q)));exact bc (wpAny_letGo (bh (bh ⟨_,rfl,bh (hQ g6 z6 (all _ _ (ne_of_gt il) t2) (by show g6.objs.size=hp.objs.size+1;rw[b6.1,b5.1,b4.1,b3.1,s2]) fun b o hb q=>all b o hb (k2 b o hb q))⟩)))
theorem EQ{it d:Addr}{ob:Obj}{es:Array mw}{i ep:Nat}{ok ov:bb}{Q:Option bb->be->Prop}(hh:A.handled=none)(z:mi s.heap it d i es.size ep ok ov)(hm:DOb s.heap d ob es ep)(hx:es.size<=i)
  (hQ:∀h',Heap.ExtBut it s.heap h'->Q none { s with heap:=h' }):bo (model prog w) A (pyNext (.ref it)) Q E s:=by
 have hT:s.TypeIs (.ref it) "dict_itemiterator":=⟨_,z,rfl⟩;have aa:Builtin.Dict_items.ownsTuple "dict_itemiterator" = true:=by decide
 unfold pyNext;refine bc (wpAny_attempt (wpAny_callSpecial?_slot (name:=Str.ofString "__next__") hT F.slot_dict_itemiterator_next (ko F.slot_dict_itemiterator_next hT F.entry_dict_itemiterator_next ?_ (F.args_dict_itemiterator_next_1 _))));refine bc (bh (bc (bc ?_)))
 first|refine bc (wpAny_typeNameOfWhole_itemiter hT (bh ?_))|refine bc (wpAny_typeNameOf_itemiter hT (bh ?_))
 refine bc (wpAny_fieldsOf z rfl ?_);simp only[aa,if_true];show bo _ _ (if (bu d==gh)=true then _ else _) _ _ s;rw[bv (show ¬((bu d==gh)=true)from gc)];refine bc (bh (bc (wpAny_dictEntries hm.at_ hm.dt ?_)));rw[bv yv];refine bc (bh (bc (wpAny_dictEpoch hm.at_ hm.dt ?_)));rw[bv yv];refine bh ?_;simp only[show ¬((i:Int)<0)from by omega,if_false,Int.toNat_natCast,Array.getElem?_eq_none hx];refine bc ?_
 first|refine bc (wpAny_typeNameOfWhole_itemiter hT (bh ?_))|refine bc (wpAny_typeNameOf_itemiter hT (bh ?_))
 show bo _ _ (setField (.ref it) 2 .none >>= _) _ _ s;refine bc (wpAny_setField z rfl yv ?_);show bo _ _ (newExc (.type "StopIteration") [] >>= _) _ _ _;simp only[newExc,newTuple];refine bc (bc (ft ?_ (by size_fits)));refine bc (m:=firstArgMember _ _) (wpAny_of_eq (a:=gh) (by first|rfl|(simp only[firstArgMember];rfl)) ?_);refine ft ?_ (by size_fits);simp only[raiseNew];refine bc (wpAny_handled ?_);rw[show A.in1.handled=none from hh];refine bc (bh (wpAny_throw ?_));refine bc (wpAny_isInstance (T:="StopIteration") (b:=true) ⟨_,cf _ rfl,rfl⟩ isSubtype_stop ?_);exact bh (hQ _ (((Heap.SameBut.update ..).extBut.push _).push _))
end
theorem C1{g:KSg}{h:Heap}{H:Hp}(f:∀{k:KG g}{v:V}{u:bb},Has H (kdat g k) v->RelV v u->KAt h g k u):∀{ks:List (KG g)}{vs:List V}{us:List bb},HasL H (ks.map (kdat g)) vs->Vals vs us->AllK (KAt h g) ks us
 | [],vs,us,l,r=>by rw[zv.mp l]at r;cases r;exact .nil
 |k::ks,vs,us,l,r=>by
  obtain⟨v,t,rfl,q,l⟩:=zn.mp l;cases r with
  |cons r1 r2=>exact .cons (f q r1) (C1 f l r2)
theorem kW{P:bz}{w:dh}{H:Hp}{h:Heap}(ok:HOk P w H h):∀(g:KSg) {k:KG g}{v:V}{u:bb},Has H (kdat g k) v->RelV v u->KAt h g k u
 | .int,k,v,u,q,r=>by
  rw[d9.mp q]at r;obtain⟨t,rfl⟩:=r;exact beq_self_eq_true (α:=Int) k
 | .bool,k,v,u,q,r=>by
  rw[gM.mp q]at r;exact r
 | .many g,k,v,u,q,r=>by
  obtain⟨a,vs,rfl,ea,l⟩:=zW.mp q;obtain rfl:u=bu a:=r;obtain⟨_,z,rv,o,e1,e2,n,e3⟩:=(show ObjOk P w H h a (.tup vs)from ok a _ ea);exact⟨a,z.toArray,rfl,⟨o,e1,e2,n,e3⟩,C1 (fun q r=>kW ok g q r) l rv⟩
 | .two g g',k,v,u,q,r=>by
  obtain⟨a,vs,rfl,ea,l⟩:=zW.mp q;obtain rfl:u=bu a:=r;obtain⟨v1,t1,rfl,q1,l⟩:=zn.mp l;obtain⟨v2,t2,rfl,q2,l⟩:=zn.mp l;obtain rfl:=zv.mp l;obtain⟨_,z,rv,o,e1,e2,n,e3⟩:=(show ObjOk P w H h a (.tup [v1,v2])from ok a _ ea);cases rv with
  |cons r1 rv=>
   cases rv with
   |cons r2 rv=>
    cases rv;exact⟨a,_,_,rfl,⟨o,e1,e2,n,e3⟩,kW ok g q1 r1,kW ok g' q2 r2⟩
theorem At{P:bz}{w:dh}{H:Hp}{h:Heap}{a:Addr}{ob:Obj}{g:KSg}{xs:List (KG g×Addr×bb)}(hg:g.dp<=8)(ok:HOk P w H h)(e:H a=some (obO a ob))(pd:PDict g ob xs)(hk:∀x∈xs,Has H (kdat g x.1) (.ref x.2.1)):h.DictOfH (uS P w g hg) a xs:=by
 obtain⟨e1,_,_⟩:=(show ObjOk P w H h a (obO a ob)from ok a _ e);obtain⟨hx,es,ep,e2,e3,e4⟩:=pd;exact⟨ob,es,ep,e1,hx,e2,e3,fun x m=>kW ok g (hk x m) rfl,e4⟩
theorem A1{P:bz}{w:dh}{H:Hp}{h:Heap}{a:Addr}{ob:Obj}(e:h.get? a=some ob):ObjOk P w H h a (obO a ob):=⟨e,⟨ob,e⟩,fun h1 h2 q k=>k ob q⟩
section
variable {X:Cx}{zf:List (Addr×Obj)}{σ:St}{H:Hp}{s:be}{a b:Addr}{ob:Obj}{g:KSg}{xs:List (KG g×Addr×bb)}{k:KG g}{r:bb}{v:V}{A:cz}{E:bb->be->Prop}
theorem JT{Q:bb->be->Prop}(hg:g.dp<=8)(hu:A.units+64<gz)(I:Inv X zf σ H s)(e:H a=some (obO a ob))(hd:(a==gb)=false)(pd:PDict g ob xs)(hk:∀x∈xs,Has H (kdat g x.1) (.ref x.2.1))(hz:xs.length<1000)(hy:Has H (kdat g k) (.ref b))
  (h1:∀p s',ku xs k=some p->Inv X zf σ H s'->Q p.2 s') (h2:ku xs k=none->∀ob' s',PDict g ob' (xs++[(k,b,r)])->Inv X zf σ (upd H a (obO a ob')) s'->Q r s'):
  bo (model X.prog X.w) A (call (.builtin "dict.setdefault") [.ref a,.ref b,r]) Q E s:=by
 have dd:=At hg I.hok e pd hk;refine call_meetsIn PySem.F.slot_dict_setdefault dd.typeIs PySem.F.entry_dict_setdefault (PySem.F.args_dict_setdefault_3 _ _ _) (K8 (knd:=uS X.prog X.w g hg) hd r) ⟨?_,k,xs,kW I.hok g hy rfl,dd,im (small1000 (im hz)),fun p ep=>h1 p _ ep (I.tok _),fun en h' z hs=>?_⟩
 ·show A.units+1+g.dp<gz;omega
 ·obtain⟨o',es,ep,q1,q2,q3,q4,_,q5⟩:=z;exact h2 en o' _ ⟨q2,es,ep,q3,q4,q5⟩ (uF I (by rw[e];exact jj) hs ⟨o',q1⟩ (A1 q1))
theorem ET{Q:bb->be->Prop}(hg:g.dp<=8)(hu:A.units+64<gz)(I:Inv X zf σ H s)(e:H a=some (obO a ob))(hd:(a==gb)=false)(pd:PDict g ob xs)(hk:∀x∈xs,Has H (kdat g x.1) (.ref x.2.1))(hy:Has H (kdat g k) (.ref b))
  (h1:∀s',Inv X zf σ H s'->Q (((ku xs k).map (·.2)).getD .none) s'):
  bo (model X.prog X.w) A (call (.builtin "dict.get") [.ref a,.ref b]) Q E s:=by
 have dd:=At hg I.hok e pd hk;refine call_meetsIn PySem.F.slot_dict_get dd.typeIs PySem.F.entry_dict_get (PySem.F.args_dict_get_2 _ _) (meetsH_dict_get (uS X.prog X.w g hg) a b hd) ⟨?_,k,xs,kW I.hok g hy rfl,dd,h1 _ (I.tok _)⟩;show A.units+1+g.dp<gz;omega
end
def KSg.tup:KSg->Bool
 | .int=>false
 | .bool=>false
 |_=>true
theorem D5{H:Hp}{g:KSg}(hg:g.tup=true){k:KG g}{v:V}(q:Has H (kdat g k) v):∃b,v=.ref b:=by
 cases g with
 |int=>cases hg
 |bool=>cases hg
 |many g=>obtain⟨b,_,rfl,_⟩:=zW.mp q;exact⟨b,rfl⟩
 |two g g'=>obtain⟨b,_,rfl,_⟩:=zW.mp q;exact⟨b,rfl⟩
def ob0:Obj:={ cls:=.type "dict",data:=.dict #[] }
theorem pd0(g:KSg):PDict g ob0 []:=⟨⟨rfl,rfl,rfl⟩,#[],0,rfl,rfl,nodup_nil⟩
def A3:TE:=fun _ H Q=>∀p,H p=none->(p==gb)=false->Q (.ref p) (upd H p (obO p ob0))
def GAt(H:Hp)(a:Addr)(g:KSg)(ob:Obj)(xs:List (KG g×Addr×bb)):Prop:=H a=some (obO a ob)/\(a==gb)=false/\PDict g ob xs/\∀x∈xs,Has H (kdat g x.1) (.ref x.2.1)
def Aw(g:KSg)(td ty tx:TE):TE:=fun σ H Q=>td σ H fun x H1=>∃a,x=.ref a/\IsD H1 a/\ty σ H1 fun y H2=>tx σ H2 fun z H3=>∃ob xs k,GAt H3 a g ob xs/\xs.length<1000/\Has H3 (kdat g k) y/\(∀p,ku xs k=some p->∃v,RelV v p.2/\Q v H3)/\(ku xs k=none->∀ob' b r,y=.ref b->RelV z r->PDict g ob' (xs++[(k,b,r)])->Q z (upd H3 a (obO a ob')))
def AZ(g:KSg)(td ty:TE):TE:=fun σ H Q=>td σ H fun x H1=>∃a,x=.ref a/\IsD H1 a/\ty σ H1 fun y H2=>∃ob xs k,GAt H2 a g ob xs/\Has H2 (kdat g k) y/\(∀p,ku xs k=some p->∃v,RelV v p.2/\Q v H2)/\(ku xs k=none->Q .non H2)
section
variable {X:Cx}{pos apos cpos:Pos}{o e f:Expr}{td ty tx:TE}
theorem Ka:PE X (.Dict [] [] pos) A3:=fun zf s σ H Q I h=>
 wpAny_Dict_empty ⟨.ref s.heap.objs.size,_,I.laid (a:=s.heap.objs.size) (o:=obO s.heap.objs.size ob0) (t':=s.toks) (fun _ _ q=>bi _ q) (cw _) (A1 (cf _ rfl)),rfl,h _ (I.hok.fresh (cw _)) (beq_eq_false_iff_ne.mpr (gs (gf I.big)))⟩
theorem LI{g:KSg}(hg:g.dp<=8)(ht:g.tup=true)(hu:X.A.units+64<gz)(ho:PE X o td)(he:PE X e ty)(hf:PE X f tx)(m:M2 X o "setdefault" apos e f cpos):PE X (.Call (.Attribute o "setdefault" apos) [e,f] [] cpos) (Aw g td ty tx):=by
 intro zf s σ H Q I h;refine wpAny_Call_method m.base m.few m.line PySem.F.plainAttrs_dict PySem.F.slot_dict_setdefault PySem.F.type_dict_setdefault (thn (ho zf s σ H _ I h) fun u s1 ⟨x,H1,I1,rx,a,ex,d,q1⟩=>?_);subst ex;obtain rfl:u=bu a:=rx;obtain⟨t1,t2,_⟩:=yR I1 d;refine⟨t1,t2,?_⟩;rw[m.trees];refine Calls.callWith_builtin rfl (Calls.evalArgs_plain (jt (thn (he zf s1 σ H1 _ I1 q1) fun iv s2 ⟨y,H2,I2,ry,q2⟩=>
  jt (thn (hf zf s2 σ H2 _ I2 q2) fun fv s3 ⟨z,H3,I3,rz,ob,xs,k,⟨ga,gd,gp,gk⟩,hz,hy,q3,q4⟩=>lz ?_))))
 obtain⟨b,rfl⟩:=D5 ht hy;obtain rfl:iv=bu b:=ry;refine JT hg hu I3 ga gd gp gk hz hy (fun p s' ep I4=>?_) fun en ac s' aa I4=>⟨z,_,I4,rz,q4 en ac b fv rfl rz aa⟩;obtain⟨v,rv,q⟩:=q3 p ep;exact⟨v,H3,I4,rv,q⟩
theorem Jf{g:KSg}(hg:g.dp<=8)(ht:g.tup=true)(hu:X.A.units+64<gz)(ho:PE X o td)(he:PE X e ty)(m:M1 X o "get" apos e cpos):PE X (.Call (.Attribute o "get" apos) [e] [] cpos) (AZ g td ty):=by
 intro zf s σ H Q I h;refine wpAny_Call_method m.base m.few m.line PySem.F.plainAttrs_dict PySem.F.slot_dict_get PySem.F.type_dict_get (thn (ho zf s σ H _ I h) fun u s1 ⟨x,H1,I1,rx,a,ex,d,q1⟩=>?_);subst ex;obtain rfl:u=bu a:=rx;obtain⟨t1,t2,_⟩:=yR I1 d;refine⟨t1,t2,?_⟩;rw[m.trees];refine Calls.callWith_builtin rfl (Calls.evalArgs_plain (jt (thn (he zf s1 σ H1 _ I1 q1) fun iv s2 ⟨y,H2,I2,ry,ob,xs,k,⟨ga,gd,gp,gk⟩,hy,q3,q4⟩=>lz ?_)));obtain⟨b,rfl⟩:=D5 ht hy;obtain rfl:iv=bu b:=ry;refine ET hg hu I2 ga gd gp gk hy fun s' I4=>?_;cases ek:ku xs k with
 |none=>exact⟨.non,H2,I4,rfl,q4 ek⟩
 |some p=>
  obtain⟨v,rv,q⟩:=q3 p ek;exact⟨v,H2,I4,rv,q⟩
end
abbrev VE:List (V×V)->List mw->Prop:=Paired fun p e=>RelV p.1 e.key/\RelV p.2 e.val
theorem VE.get{vs:List (V×V)}{es:List mw}(r:VE vs es):∀{i:Nat}{p:V×V},vs[i]?=some p->∃e,es[i]?=some e/\RelV p.1 e.key/\RelV p.2 e.val:=by
 induction r with
 |nil=>intro i p e;simp at e
 | @cons p q ps qs h t ih=>
  intro i x e;cases i with
  |zero=>simp at e;subst e;exact⟨q,rfl,h⟩
  |succ i=>obtain⟨u,e1,e2⟩:=ih (i:=i) (p:=x) (by simpa using e);exact⟨u,by simpa using e1,e2⟩
theorem VE.length{vs:List (V×V)}{es:List mw}(r:VE vs es):vs.length=es.length:=by
 induction r with
 |nil=>rfl
 |cons _ _ ih=>rw[cn,cn,ih]
def ItiG(a:Addr)(ob:Obj)(vs:List (V×V)):It:=⟨fun i H=>i<vs.length/\H a=some (obO a ob),fun i H x H'=>∃p b,vs[i]?=some p/\H b=none/\x=.ref b/\H'=upd H b (.tup [p.1,p.2]),fun i H=>vs.length<=i/\H a=some (obO a ob)⟩
def tnG(it a:Addr)(n ep:Nat)(i:Nat)(h:Heap):Prop:=∃ok ov,mi h it a i n ep ok ov
theorem vJ{P:bz}{w:dh}{H:Hp}{h:Heap}{a:Addr}{ob:Obj}(ok:HOk P w H h)(e:H a=some (obO a ob)):h.get? a=some ob:=(show ObjOk P w H h a (obO a ob)from ok a _ e).1
theorem J6{P:bz}{w:dh}{K:bj}{elts:List Expr}{n:Nat}{tpos:Pos}(a it:Addr)(ob:Obj)(vs:List (V×V))(es:Array mw)(ep:Nat)(hx:ob.ExactDict)(hd:ob.data=.dict es ep)(ve:VE vs es.toList):Turn P w K (.Tuple elts n tpos) (ItiG a ob vs) [it] it (tnG it a es.size ep) where
 mem:=by simp
 obj:=fun i h ⟨_,_,st⟩ b hb=>by
  have e:b=it:=by simpa using hb
  subst e;exact⟨_,st,fun v z=>by cases z⟩
 keep:=fun i h h' ⟨ok,ov,st⟩ k=>⟨ok,ov,k it yv _ st⟩
 item:=by
  intro X hP hw hK hc i zf s σ H E I hf st hg;subst hP hw hK;obtain⟨ok,ov,st⟩:=st;obtain⟨hi,ea⟩:=hg;obtain⟨e,ee,r1,r2⟩:=ve.get (bq hi);refine F8 st ⟨vJ I.hok ea,hx,hd⟩ (e:=e) (by rw[<- Array.getElem?_toList];exact ee) fun h' ac t1 sz kp=>?_;refine⟨_,rfl,wpAny_letOwnedTupleGo_items (s:={ s with heap:=h' }) ac fun g' e2 b2=>?_⟩;have lt:it<s.heap.objs.size:=dn st;have t2:g'.get? s.heap.objs.size=some { cls:=.type "tuple",data:=.seq #[e.key,e.val] }:=(b2.2 _ (ne_of_gt lt)).trans t1;have aa:H s.heap.objs.size=none:=I.hok.fresh (cw _);refine⟨.ref s.heap.objs.size,upd H s.heap.objs.size (.tup [vs[i].1,vs[i].2]),I.turnLaid (ch:=[it]) (t':=s.toks) (fun b o nb q=>(b2.2 b fun z=>nb (by simp[z])).trans (kp b o (fun z=>nb (by simp[z])) q)) hf (cw _) ?_,rfl,
   ⟨vs[i],_,bq hi,aa,rfl,rfl⟩,⟨_,_,e2⟩,fun b hb=>?_⟩
  ·exact⟨⟨by show 2<=br;decide,_,t2,rfl⟩,[e.key,e.val],.cons r1 (.cons r2 .nil),⟨_,t2,rfl,_,rfl⟩⟩
  ·rw[mem_singleton.mp hb,zE (gf lt)];exact(hf _ yv).1
 done:=by
  intro X hP hw hK hc i zf s σ H E I hf st hg;subst hP hw hK;obtain⟨ok,ov,st⟩:=st;obtain⟨hi,ea⟩:=hg;obtain⟨f0,f1,f2,f3,f4,f5⟩:=hf it yv;exact EQ (I.ok.hd hc) st ⟨vJ I.hok ea,hx,hd⟩ (by rw[<- jd,<- ve.length];exact hi) fun h' eb=>⟨rfl,I.turned (t':=s.toks) (fun b o hb e=>eb b o hb e) f0 f1 f3 f4 f5⟩
 self:=fun _ _ _ _ _ ⟨_,_,st⟩ h=>HK st h
section
variable {X:Cx}{elts:List Expr}{n:Nat}{tpos apos cpos:Pos}
def AT(te:TE):TI:=fun σ H R=>te σ H fun x H1=>∃a ob es ep vs,x=.ref a/\H1 a=some (obO a ob)/\(a==gb)=false/\ob.ExactDict/\ob.data=.dict es ep/\VE vs es.toList/\R (ItiG a ob vs) H1
theorem FR{l:Expr}{te:TE}(hl:PE X l te)(z:ls l "items" X.env (eval l X.env)=eval l X.env)(aa:(apos.endLine==cpos.line)=true):PI X (.Tuple elts n tpos) (.Call (.Attribute l "items" apos) [] [] cpos) (AT te):=by
 intro zf s σ H R I h;refine wpAny_Call_method (T:="dict") (id:="dict.items") z rfl aa F.plainAttrs_dict F.slot_dict_items F.type_dict_items (thn (hl zf s σ H _ I h) fun v s1 ⟨x,H1,I1,r1,q1⟩=>?_);obtain⟨a,ob,es,ep,vs,e,ea,ac,hx,hd,ve,q⟩:=q1;subst e;cases r1;have g1:=vJ I1.hok ea;have hT:s1.TypeIs (.ref a) "dict":=⟨ob,g1,hx.1⟩;refine⟨hT,fun b q=>by cases q;exact⟨ob,g1,hx.2.1⟩,?_⟩;show bo _ _ (callWith cpos (.builtin "dict.items") [.ref a] [] []) _ _ s1;refine method_meetsIn F.slot_dict_items F.entry_dict_items rfl (PyProof.Rows.evalArgs_none ⟨rfl,hT,F.args_dict_items_1 _,_,EV ac,hT,?_⟩);refine Gc (s:={ s1 with heap:=s1.heap.push { cls:=.type "dict_items",data:=.fields #[.ref a] } }) ⟨_,cf _ rfl,rfl,rfl⟩ ⟨bi _ g1,hx,hd⟩ ?_;have I2:Inv X zf σ H1 { s1 with heap:=s1.heap.push { cls:=.type "dict_items",data:=.fields #[.ref a] } }:=I1.kept (t':=s1.toks) fun b o e=>bi _ e;refine⟨_,[_],_,_,H1,rfl,I2.kept (t':=s1.toks) fun b o e=>bi _ e,J6 a _ ob vs es ep hx hd ve,⟨_,_,cf _ rfl⟩,fun b hb=>?_,q⟩;rw[mem_singleton.mp hb];exact I2.fpOk (cw _) (I2.hok.fresh (cw _))
end
end L2
namespace L2
open PySem PySem.Spec PySem.Calls PyProof.Rows
section
variable {G:Hp}{g:KSg}
theorem PrG.length:∀{m:List (KG g×bd)}{xs:List (KG g×Addr×bb)},PrG G g m xs->xs.length=m.length
 | [],_,q=>by rw[show _=[]from q];rfl
 |p::r,_,⟨q,t,e,_,_,_,l⟩=>by rw[e,cn,cn,PrG.length l]
theorem PrG.has:∀{m:List (KG g×bd)}{xs:List (KG g×Addr×bb)},PrG G g m xs->∀x∈xs,Has G (kdat g x.1) (.ref x.2.1)
 | [],_,q,x,mx=>by rw[show _=[]from q]at mx;cases mx
 |p::r,_,⟨q,t,e,e1,h1,_,l⟩,x,mx=>by
  rw[e]at mx;rcases mem_cons.mp mx with rfl|mx
  ·rw[e1];exact h1
  ·exact PrG.has l x mx
theorem PrG.at_(k:KG g):∀{m:List (KG g×bd)}{xs:List (KG g×Addr×bb)},PrG G g m xs->(lkA m k=none/\ku xs k=none)\/∃d p v,lkA m k=some d/\ku xs k=some p/\Has G d v/\RelV v p.2
 | [],xs,q=>by rw[show xs=[]from q];exact .inl ⟨rfl,rfl⟩
 |p::r,xs,⟨q,t,e,e1,h1,⟨v,h2,h3⟩,l⟩=>by
  subst e;by_cases hk:p.1=k
  ·exact .inr ⟨p.2,q.2,v,by simp[lkA,hk],by simp[ku,e1,hk],h2,h3⟩
  ·have z1:lkA (p::r) k=lkA r k:=by simp[lkA,hk]
   have z2:ku (q::t) k=ku t k:=by simp[ku,e1,hk]
   rw[z1,z2];exact PrG.at_ k l
theorem PrG.snoc{k:KG g}{b:Addr}{d:bd}{v:V}{r:bb}(h1:Has G (kdat g k) (.ref b))(h2:Has G d v)(h3:RelV v r):∀{m:List (KG g×bd)}{xs:List (KG g×Addr×bb)},PrG G g m xs->PrG G g (m++[(k,d)]) (xs++[(k,b,r)])
 | [],xs,q=>by rw[show xs=[]from q];exact⟨_,[],rfl,rfl,h1,⟨v,h2,h3⟩,rfl⟩
 |p::r,xs,⟨q,t,e,e1,z1,z2,l⟩=>by subst e;exact⟨q,_,rfl,e1,z1,z2,PrG.snoc h1 h2 h3 l⟩
theorem PrG.vals:∀{m:List (KG g×bd)}{xs:List (KG g×Addr×bb)},PrG G g m xs->∃vs:List (V×V),vs.length=m.length/\VE vs (xs.map fun x=>⟨khash g x.1,.ref x.2.1,x.2.2⟩)/\∀(i:Nat) (p:KG g×bd),m[i]?=some p->∃q:V×V,vs[i]?=some q/\Has G (kdat g p.1) q.1/\Has G p.2 q.2
 | [],xs,q=>by rw[show xs=[]from q];exact⟨[],rfl,.nil,fun i p e=>by simp at e⟩
 |p::r,xs,⟨q,t,e,e1,z1,⟨v,h2,h3⟩,l⟩=>by
  subst e;obtain⟨vs,a1,a2,a3⟩:=PrG.vals l;refine⟨(.ref q.2.1,v)::vs,by rw[cn,cn,a1],.cons ⟨rfl,h3⟩ a2,fun i x ex=>?_⟩;cases i with
  |zero=>simp at ex;subst ex;exact⟨_,rfl,z1,h2⟩
  |succ i=>obtain⟨y,b1,b2⟩:=a3 i x (by simpa using ex);exact⟨y,by simpa using b1,b2⟩
end
section
variable {E:XK}{EX:EXD}{i j:Nat}{tb:TS}{db:DSm}
theorem xO{g:KSg}(hb:RSm E EX tb db):RSm E EX (aR (iN A3 (g0 i)) tb) (eU false i (.g g ob0 []) db):=fun h o0 H0 o H δ σ S M En D e0 fr he hs rm q c x p hp aa=>
 BQ (f:=false) (D0:=.g g ob0 []) (u:=.x p ob0) (fun G H z=>⟨z,aa,[],pd0 g,rfl⟩) hb e0 fr he hs rm q c x hp
def jE(g:KSg)(j:Nat)(dk dv:DM->DE):DSm:=fun En δ S M=>zj j δ S fun y S1=>∃a ob m,y=.o (.ref a)/\(a,DD.g g ob m)∈M/\dk M δ S1 fun z S2=>dv M δ S2 fun x S3=>asD z fun k=>asD x fun d=>∃kk,k=kdat g kk/\m.length<1000/\if (lkA m kk).isSome=true then En.nx δ S3 M else ∀ob',En.nx δ S3 (eV M a (.g g ob' (m++[(kk,d)])))
theorem CW{g:KSg}(ht:g.tup=true){ty tv:TE}{dk dv:DM->DE}(hk:∀M,REp (PhM M) ty (dk M))(hv:∀M,REp (PhM M) tv (dv M)):RSm E EX (oO (Aw g (cO j) ty tv)) (jE g j dk dv):=fun h o0 H0 o H δ σ S M En D e0 fr he hs rm q c x=>by
 obtain⟨y1,ey,a,ob,m,rfl,mD,d2⟩:=q;obtain⟨v1,ev,ah⟩:=he.get j _ ey;have ag:v1=.ref a:=ah;subst ag;refine⟨_,ev,a,rfl,(rm.ct a _ mD).rd.isD,hk M (h++ad M) o H δ σ S _ _ he hs d2 (fun o1 H1 S1 z u e1 s1 z1 d3=>hv M (h++ad M) o1 H1 δ σ S1 _ _ (he.mono e1) s1 d3 (fun o2 H2 S2 y v e2 s2 x2 d4=>?_) ⟨h,rfl,rm.mono e1⟩) ⟨h,rfl,rm⟩⟩;replace d4:=c4 d4;obtain⟨k,rfl,d4⟩:=d4;obtain⟨d,rfl,kk,rfl,hl,n⟩:=c4 d4;have aa:=e1.trans e2;have ae:=rm.mono aa;have ma:a∈ad M:=mem_map.mpr ⟨_,mD,rfl⟩;obtain⟨e3,af,xs,pd,l⟩:=ae.ct a (.g g ob m) mD;have mh:a∈h++ad M:=cv _ ma;have z2:Has (vx (h++ad M) o2 H2) (kdat g kk) u:=z1.mono e2;refine⟨ob,xs,kk,⟨e3,af,pd,fun x mx=>Has.mono zU _ _ (l.has x mx)⟩,by rw[l.length];exact hl,Has.mono zU _ _ z2,fun p ep=>?_,fun en ac b r eb rz ai=>?_⟩
 ·rcases l.at_ kk with ⟨y1,y2⟩|⟨d',p',w',y1,y2,y3,y4⟩
  ·rw[y2]at ep;cases ep
  ·rw[y2]at ep;cases ep;rw[y1]at n;exact⟨w',y4,c.nx o2 H2 δ S2 M σ (e0.trans aa) rfl (he.mono aa) s2 ae n⟩
 ·rcases l.at_ kk with ⟨y1,y2⟩|⟨d',p',w',y1,y2,y3,y4⟩
  ·rw[y1]at n;subst eb;have n2:=n ac;have fin:∀H',H' a=some (MO.x a ac).ho->DAt (vx (h++ad M) o2 H2) H' a (.g g ac (m++[(kk,d)])):=fun H' z=>⟨z,af,_,ai,PrG.snoc z2 x2 rz l⟩;refine c.nx o2 _ δ S2 (eV M a (.g g ac (m++[(kk,d)]))) σ ⟨(e0.trans aa).pre,fun b w' nb zb=>?_⟩ fO ?_ ?_ (ae.put mD fin) n2
   ·obtain⟨z1,z3⟩:=(e0.trans aa).kp b w' nb zb;exact⟨z1,by rw[zE (fun z=>by rw[z,fr a ma]at zb;cases zb)];exact z3⟩
   ·rw[fO];exact(he.mono aa).view (rO mh)
   ·rw[fO];exact s2.hidden (u:=.x a ac) mh
  ·rw[y2]at en;cases en
def jX(M:DM)(g:KSg)(dd dy:DE):DE:=fun δ S R=>dd δ S fun x S1=>∃a ob m,x=.o (.ref a)/\(a,DD.g g ob m)∈M/\dy δ S1 fun y S2=>asD y fun k=>∃kk,k=kdat g kk/\R (.d ((lkA m kk).getD .none)) S2
theorem Hv{M:DM}{g:KSg}{td ty:TE}{dd dy:DE}(hd:REp (PhM M) td dd)(hy:REp (PhM M) ty dy):REp (PhM M) (AZ g td ty) (jX M g dd dy):=fun h o H δ σ S R Q he hs q c w=>
 hd h o H δ σ S _ _ he hs q (fun o1 H1 S1 x v e1 s1 x1 ⟨a,ob,m,ex,mD,d1⟩=>by
  subst ex;obtain rfl:v=.ref a:=x1;obtain⟨h1,eh,ae⟩:=Stb.st (Φ:=PhM M) w e1;refine⟨a,rfl,(ae.ct a _ mD).rd.isD,hy h o1 H1 δ σ S1 _ _ (he.mono e1) s1 d1 (fun o2 H2 S2 y u e2 s2 y2 d2=>?_) (Stb.st w e1)⟩;obtain⟨k,rfl,kk,rfl,n⟩:=c4 d2;obtain⟨h2,ac,z⟩:=Stb.st (Φ:=PhM M) w (e1.trans e2);obtain⟨e3,aa,xs,pd,l⟩:=z.ct a (.g g ob m) mD;rw[<- ac]at l;refine⟨ob,xs,kk,⟨e3,aa,pd,fun x mx=>Has.mono zU _ _ (l.has x mx)⟩,Has.mono zU _ _ y2,fun p ep=>?_,fun en=>?_⟩
  ·rcases l.at_ kk with ⟨y1,y2⟩|⟨d',p',w',y1,y2,y3,y4⟩
   ·rw[y2]at ep;cases ep
   ·rw[y2]at ep;cases ep;rw[y1]at n;exact⟨w',y4,c o2 H2 S2 (.d d') w' (e1.trans e2) s2 y3 n⟩
  ·rcases l.at_ kk with ⟨y1,y2⟩|⟨d',p',w',y1,y2,y3,y4⟩
   ·rw[y1]at n;exact c o2 H2 S2 (.d .none) .non (e1.trans e2) s2 (show Has (vx h o2 H2) .none .non from gT.mpr rfl) n
   ·rw[y2]at en;cases en) w
def dmLoopG(a:Addr)(D0:DD)(dg:DG)(db:DSm):List bd->DSm
 | [],E,δ,S,M=>(a,D0)∈M/\E.nx δ S M
 |d::ds,E,δ,S,M=>(a,D0)∈M/\dg (.d d) δ S fun δ1 S1=>db { nx:=fun δ2 S2 M2=>dmLoopG a D0 dg db ds E δ2 S2 M2,ct:=fun δ2 S2 M2=>dmLoopG a D0 dg db ds E δ2 S2 M2,bk:=E.nx,rt:=E.rt } δ1 S1 M
theorem dmLoopG.mem{a:Addr}{D0:DD}{dg:DG}{db:DSm}:∀{ds:List bd}{E:DEndsM}{δ:XE}{S:Sto}{M:DM},dmLoopG a D0 dg db ds E δ S M->(a,D0)∈M
 | [],_,_,_,_,h=>h.1
 |_::_,_,_,_,_,h=>h.1
def i7(g:KSg)(m:List (KG g×bd)):List bd:=m.map fun p=>.tuple [kdat g p.1,p.2]
def iZ(g:KSg)(j:Nat)(dg:DG)(db:DSm):DSm:=fun En δ S M=>zj j δ S fun y S1=>∃a ob m,y=.o (.ref a)/\(a,DD.g g ob m)∈M/\dmLoopG a (.g g ob m) dg db (i7 g m) En δ S1 M
theorem DX{gg:KSg}{g:TG}{dg:DG}(hg:RG g dg)(hb:RSm E EX tb db):RSm E EX (k7 (AT (cO j)) g tb) (iZ gg j dg db):=fun h o0 H0 o H δ σ S M En D e0 fr he hs rm q c x=>by
 obtain⟨y1,ey,a,ob,m,rfl,mD,d1⟩:=q;obtain⟨v1,ev,ap⟩:=he.get j _ ey;have ao:v1=.ref a:=ap;subst ao;obtain⟨e3,as,xs,⟨hx,es,ep,hd,ar,az⟩,l⟩:=rm.ct a (.g gg ob m) mD;obtain⟨vs,vl,ve,vg⟩:=l.vals;rw[<- ar]at ve;refine⟨_,ev,a,ob,es,ep,vs,rfl,e3,as,hx,hd,ve,?_⟩;have il:(i7 gg m).length=vs.length:=by unfold i7;rw[cg,vl]
 generalize hds:i7 gg m=ds at d1 il;refine⟨fun i n σ2 H2=>n=ds.length-i/\i<=ds.length/\∃o2 δ2 S2 M2,Ex o0 H0 o2 H2/\ExH (h++ad M) o H o2 H2/\ad M2=ad M/\RepE (h++ad M) o2 H2 δ2 σ2/\RepS (h++ad M) o2 H2 S2/\RepM h o2 H2 M2/\dmLoopG a (.g gg ob m) dg db (ds.drop i) En δ2 S2 M2,
   ⟨ds.length,yv,mj _,o,δ,S,M,e0,ExH.refl,rfl,he,hs,rm,d1⟩,?_⟩
 rintro i n σ2 H2 ⟨rfl,hi,o2,δ2,S2,M2,e2,x2,ea,al,aj,ah,d2⟩;have am:H2 a=some (obO a ob):=(ah.ct a _ d2.mem).1;by_cases hlt:i<ds.length
 ·have ed:ds[i]?=some ds[i]:=bq hlt;rw[jz hlt]at d2;refine .inr ⟨⟨yw,am⟩,fun σ3 H3=>∃o3 δ3 S3 M3,Ex o0 H0 o3 H3/\ExH (h++ad M) o H o3 H3/\ad M3=ad M/\RepE (h++ad M) o3 H3 δ3 σ3/\RepS (h++ad M) o3 H3 S3/\RepM h o3 H3 M3/\dmLoopG a (.g gg ob m) dg db (ds.drop (i+1)) En δ3 S3 M3,fun σ3 H3 n=>⟨ds.length-(i+1),yw,rfl,yw,n⟩,fun y H3 yy=>?_⟩;obtain⟨p,b,ep,nb,au,eH⟩:=yy;subst au eH;have s3:Same H2 (upd H2 b (.tup [p.1,p.2])):=Same.laid nb;have ak:Ex o2 H2 o2 (upd H2 b (.tup [p.1,p.2])):=Ex.of_same s3;have av:HasX (h++ad M) o2 (upd H2 b (.tup [p.1,p.2])) (.d ds[i]) (.ref b):=by
   have em:∃r,m[i]?=some r/\ds[i]=.tuple [kdat gg r.1,r.2]:=by
    have hm:i<m.length:=by rw[<- vl,<- il];exact hlt
    refine⟨m[i],bq hm,?_⟩;have z:ds[i]?=some (PyData.tuple [kdat gg m[i].1,m[i].2]):=by rw[<- hds];unfold i7;rw[gi,bq hm];rfl
    rw[ed]at z;exact fc z
   obtain⟨r,er,ax⟩:=em;obtain⟨qv,eq,k1,k2⟩:=vg i r er;rw[ep]at eq;cases eq;rw[ax];have sv:Same (vx (h++ad M) o H) (vx (h++ad M) o2 (upd H2 b (.tup [p.1,p.2]))):=fun c u z=>ak.vx c u (x2.vx c u z);have f1:=aj.fresh nb;exact zW.mpr ⟨b,_,rfl,zL.mpr ⟨f1.1,f1.2,zP⟩,zn.mpr ⟨_,_,rfl,Has.mono sv _ _ k1,zn.mpr ⟨_,_,rfl,Has.mono sv _ _ k2,zv.mpr rfl⟩⟩⟩
  obtain⟨_,d2⟩:=d2;refine hg (h++ad M) o2 _ δ2 σ2 S2 (.d ds[i]) _ _ _ (al.mono ak) (aj.same s3) av d2 fun o4 H4 δ4 S4 σ4 e4 aw an d4=>?_;have ag:Ex o2 H2 o4 H4:=ak.trans e4;have nM:∀b u,H0 b=some u->b∉ad M:=fun b u z mb=>by
   rw[fr b mb]at z;cases z
  have af:Ex o0 H0 o4 (fun b=>if b∈ad M then none else H4 b):=⟨(e2.trans ag).pre,fun b u nb z=>by
   obtain⟨z1,z2⟩:=(e2.trans ag).kp b u nb z;exact⟨z1,by show (if b∈ad M then none else H4 b)=some u;rw[bv (nM b u z)];exact z2⟩⟩
  have aq:∀{o5 H5},Ex o4 (fun b=>if b∈ad M then none else H4 b) o5 H5->ExH (h++ad M) o4 H4 o5 H5:=fun e5=>⟨e5.pre,fun b u n1 n2 z=>e5.kp b u n2 (by show (if b∈ad M then none else H4 b)=some u;rw[bv (fun mb=>n1 (cv _ mb))];exact z)⟩;have ae:∀o5 H5 δ5 S5 M5 σ5,Ex o4 (fun b=>if b∈ad M then none else H4 b) o5 H5->ad M5=ad M2->RepE (h++ad M5) o5 H5 δ5 σ5->RepS (h++ad M5) o5 H5 S5->RepM h o5 H5 M5->dmLoopG a (.g gg ob m) dg db (ds.drop (i+1)) En δ5 S5 M5 ->
    ∃o3 δ3 S3 M3,Ex o0 H0 o3 H5/\ExH (h++ad M) o H o3 H5/\ad M3=ad M/\RepE (h++ad M) o3 H5 δ3 σ5/\RepS (h++ad M) o3 H5 S3/\RepM h o3 H5 M3/\dmLoopG a (.g gg ob m) dg db (ds.drop (i+1)) En δ3 S3 M3:=fun o5 H5 δ5 S5 M5 σ5 e5 a5 ai ac aa d5=>
   ⟨o5,δ5,S5,M5,af.trans e5,(x2.trans ag.hid).trans (aq e5),a5.trans ea,by rw[<- ea,<- a5];exact ai,by rw[<- ea,<- a5];exact ac,aa,d5⟩
  refine hb h o4 (fun b=>if b∈ad M then none else H4 b) o4 H4 δ4 σ4 S4 M2 _ _ ⟨⟨[],yv⟩,fun b u nb eb=>?_⟩ (fun a ma=>by show (if a∈ad M then none else H4 a)=none;rw[cy (by rw[<- ea];exact ma)]) (by rw[ea];exact aw) (by rw[ea];exact an) (ah.mono ag) d4
   ⟨ae,fun o5 H5 S5 M5 y5 v5 e5 a5 ac aa ay q5=>c.rt o5 H5 S5 M5 y5 v5 (af.trans e5) (a5.trans ea) ac aa ay q5,fun o5 H5 δ5 S5 M5 σ5 e5 a5 ai ac aa q5=>c.nx o5 H5 δ5 S5 M5 σ5 (af.trans e5) (a5.trans ea) ai ac aa q5,ae⟩ (x.pre af)
  refine⟨nb,?_⟩;by_cases mb:b∈ad M
  ·simp[mb]at eb
  ·simpa[mb]using eb
 ·have ei:i=ds.length:=yw
  subst ei;rw[drop_length]at d2;exact .inl ⟨⟨yw,am⟩,c.nx o2 H2 δ2 S2 M2 σ2 e2 ea (by rw[ea];exact al) (by rw[ea];exact aj) ah d2.2⟩
end
end L2
namespace L2
open PySem PySem.Spec PyProof.Rows
section
def hB(b:Bool):Int:=reduceHash (match b with|true=>1|false=>0)
def kB(e:Int×bb):Bool:=match e.2 with
 | .bool b=>b
 |_=>false
end
section
section
variable {prog:bz}{w:dh}{A:cz}{E:bb->be->Prop}{s:be}
open AutoSeq1 (wpAny_loadPart') in
theorem E1(l b:Addr)(z:Array bb)(n:Nat)(dd aa:Option Addr)(dt:Data)(sl ac:Array (Option bb)):
  Meets (jn.«tuple.__ne__» ⟨[.ref l,.ref b],[]⟩) (fun _ R s=>s.heap.get? l=some { cls:=.type "tuple",dict:=dd,data:=.seq z n,slots:=sl }/\s.heap.get? b=some { cls:=.type "dict",dict:=aa,data:=dt,slots:=ac }/\R (.ok (.ret .notImplemented)) s):=
 .of_wp fun prog w A R s h=>by obtain⟨hp,g,d,tk,os⟩:=s;obtain⟨hl,hb,h⟩:=h;have f1:=F.sub_dict_tuple;wp_walk using wpAny_loadPart' hl,wpAny_loadPart' hb;exact⟨_,rfl,h⟩
theorem Ew{a b:Addr}{oa ob:Obj}{z:Array bb}{n:Nat}(ha:s.heap.get? a=some oa)(ca:oa.cls=.type "dict")(hb:s.heap.get? b=some ob)(cb:ob.cls=.type "tuple")(db:ob.data=.seq z n)(hu:A.units<gz){Q:bb->be->Prop}
  (h:Q (.bool true) s):bo (model prog w) A (fw .NotEq (.ref a) (.ref b)) Q E s:=by
 have ac:a≠b:=fun e=>by
  subst e;rw[ha]at hb;cases hb;rw[ca]at cb;exact absurd cb dz
 have ta:s.TypeIs (.ref a) "dict":=⟨_,ha,ca⟩;have tb:s.TypeIs (.ref b) "tuple":=⟨_,hb,cb⟩;refine SeqAt.rc_ne_decline_or (k:=false) ta tb dz F.sub_tuple_dict F.slot_dict_ne F.slot_tuple_ne_refl (fun Q' hq=>?_) (fun Q' hq=>?_) (fun Q' hq=>wpAny_isSame_ref_other ac ha hb (by rw[ca];simp) hq) (.inr hu) h
 ·refine ko F.slot_dict_ne ta F.entry_dict_ne ?_ (F.args_dict_ne_2 _ _);show bo _ _ (Builtin.Dict.dictSlotArgs "__ne__" ⟨[.ref a,.ref b],[]⟩ >>= _) _ _ s;refine bc ?_;unfold Builtin.Dict.dictSlotArgs;refine bc (wpAny_notOrdered_dict ta ?_);show bo _ _ (pure (bu a,bu b)) _ _ s;refine bh ?_;refine bc (wpAny_isInstance (T:="tuple") tb F.sub_tuple_dict ?_);simp only[Bool.not_false,if_true];exact bc (wpAny_rule (bh ⟨_,rfl,hq⟩))
 ·obtain⟨ai,aa,ae,af⟩:=oa;obtain⟨aj,ag,ak,ah⟩:=ob;simp only at ca cb db;subst ca cb db;exact ny F.slot_tuple_ne_refl tb F.entry_tuple_ne (F.args_tuple_ne_2 _ _) (E1 b a z n ag aa ae ah af) ⟨hb,ha,hq⟩
end
def TupG(K:bj)(mg:Str->Option bb)(x z:Str)(a:Addr):Prop:=mg x=some (.ref a)/\∃ob t n,K.lookup a=some ob/\ob.cls=.type "tuple"/\ob.data=.seq #[.str z t] n
theorem TupG.mk'{K:bj}{h:Heap}{mg:Str->Option bb}(X:K.In h)(G:h.Ns ix mg){x z:Str}{a:Addr}{od:Option Addr}{t:Tok}{n:Nat}{aa:Array (Option bb)}
  (e:W.nsIn K ix x=some (some (.ref a))) (l:K.lookup a=some ⟨.type "tuple",od,.seq #[.str z t] n,aa⟩):∃a,TupG K mg x z a:=⟨a,mz X G e,_,t,n,l,rfl,rfl⟩
def vD(a:Addr)(z:Str):R2:=fun x y H Q=>y=.ref a/\((∃d,Has H d x/\cu d=true/\Q (.bl (!PyData.eqv d (.tuple [.str z]))) H)\/(Has H (.dict []) x/\Q (.bl true) H))
theorem Ab{X:Cx}{x z:Str}{a:Addr}(hG:TupG X.K X.mg x z a)(hz:cu (.tuple [.str z])=true)(hu:X.A.units+64<gz):OpR X (fw .NotEq) (vD a z):=by
 rintro zf s σ H x y v u Q I rx ry ⟨rfl,q⟩;obtain⟨_,ob,t,n,hl,hc,hd⟩:=hG;cases (show u=bu a from ry);have ea:s.heap.get? a=some ob:=I.kIn _ _ hl;rcases q with ⟨d,hd1,sd,q⟩|⟨hd1,q⟩
 ·obtain⟨as,q1⟩:=Has.reads I d x v hd1 (dw sd) rx;exact ne_dataH q1 (.tuple ea hc hd (.cons (.str z t) .nil)) sd hz hu ⟨.bl _,H,I,rfl,q⟩
 ·obtain⟨b,vs,rfl,hD,_⟩:=tG.mp hd1;cases (show v=bu b from rx);rcases hD with ⟨ob2,m,e1,e2,e3⟩|⟨ob2,p,m,e1,e2,_⟩
  ·have hok:=(show ObjOk X.prog X.w H s.heap b (.frz ob2 (.dK m))from I.hok b _ e1);obtain⟨g1,_,_,ac,_,aa⟩:=hok;obtain⟨o3,g3,c3⟩:=aa.typeIs;exact Ew g3 c3 ea hc hd yw ⟨.bl _,H,I,rfl,q⟩
  ·cases e2
def E9(a:Addr)(z:Str):D2:=fun x y S R=>y=.o (.ref a)/\((∃d,b0 S x=some d/\cu d=true/\R (.d (.bool (!PyData.eqv d (.tuple [.str z])))) S)\/(x=.d (.dict [])/\R (.d (.bool true)) S))
theorem E4{a:Addr}{z:Str}:RO (vD a z) (E9 a z):=fun h o H S x y v u R Q hs hx hy ⟨ey,q⟩ c=>by
 subst ey;refine⟨hy,?_⟩;rcases q with ⟨d,e,sd,q⟩|⟨e,q⟩
 ·exact .inl ⟨d,dF hs e hx,sd,c o H S _ _ Ex.refl hs (xB _) q⟩
 ·subst e;exact .inr ⟨dF hs rfl hx,c o H S _ _ Ex.refl hs (xB _) q⟩
def gU(z:Str)(e:DE):DE:=fun δ S R=>e δ S fun x S1=>(∃d,b0 S1 x=some d/\cu d=true/\R (.d (.bool (!PyData.eqv d (.tuple [.str z])))) S1)\/(x=.d (.dict [])/\R (.d (.bool true)) S1)
theorem LA{a:Addr}{z:Str}{te:TE}{de:DE}(aa:RE te de):RE (tOp (vD a z) te (tC (.ref a))) (gU z de):=fun h o H δ σ S R Q he hs q c=>
 aa h o H δ σ S _ _ he hs q fun o1 H1 S1 x v e1 s1 x1 d1=>E4 h o1 H1 S1 x (.o (.ref a)) v (.ref a) R Q s1 x1 rfl ⟨rfl,d1⟩ (c.pre e1)
end
end L2
namespace My
open PySem L2
def Bo:PN:=fun xs S R=>(aC (dQ (dCB cT (zc (zj 0) (zc (dO (.ty "int")) zo))) (iR (dCB cT (zc (zj 0) (zc (dO (.ty "bool")) zo)))))) (aD S.length R) (xs.map some++bg 0 none) S
def p7:PN:=fun xs S R=>(zS (aA (dOp (dI (fun _ j=>0<j) fun i j=>i % j) (dOp aF (zj 0) (dC (.int 7919))) (dC (.int 2147483647))) (zm 0)) (aC (dOp (dI (fun _ j=>0<j) fun i j=>i % j) (dOp aF (dOp aF (dOp bH (zj 0) (zj 0)) (dOp bH (dC (.int 48271)) (zj 0))) (dC (.int 12345))) (dC (.int 2147483629))))) (aD S.length R) (xs.map some++bg 0 none) S
def rR:PN:=fun xs S R=>(zS (aA (dCB (dI2 fun i j=>if j>i then j else i) (zc (zj 0) (zc (dOp (dI0 fun i j=>i-j) (dC (.int 0)) (zj 0)) zo))) (zm 1)) (aC (cC (zc (zj 1) (zc (dCB j4 (zc (dOp (dIb fun i j=>decide (j<=i)) (zj 1) (dOp (dI CPow fun i j=>i ^ j.toNat) (dC (.int 10)) (dC (.int 18)))) zo)) (zc (dOp (dI (fun _ j=>0<j) fun i j=>i % j) (zj 1) (dC (.int 1000003))) zo)))))) (aD S.length R) (xs.map some++bg 1 none) S
def jM:PN:=fun xs S R=>(aC (dQ (dCB cT (zc (zj 0) (zc (dO (.ty "int")) zo))) (iR (dCB cT (zc (zj 0) (zc (dO (.ty "bool")) zo)))))) (aD S.length R) (xs.map some++bg 0 none) S
def zy:PN:=fun xs S R=>(zS (aJ (dB (dOp aT (dOp dIx (zj 0) (dC (.int 1))) (dC (.int 1)))) (zS (aA (dOp (dI (fun _ j=>0<j) fun i j=>i % j) (dOp dIx (zj 0) (dC (.int 0))) (zj 1)) (zm 2)) (zS (aA (dOp dFd (dOp dIx (zj 0) (dC (.int 0))) (zj 1)) (hW (zj 0) (dC (.int 0)))) (aC (zj 2)))) aH) (zS (aA (aE 1 p7 (zc (dOp aF (aE 1 p7 (zc (dOp dIx (zj 0) (dC (.int 2))) zo)) (dC (.int 7))) zo)) (hW (zj 0) (dC (.int 2)))) (aC (dOp (dI (fun _ j=>0<j) fun i j=>i % j) (dOp dFd (dOp dIx (zj 0) (dC (.int 2))) (dC (.int 64))) (zj 1))))) (aD S.length R) (xs.map some++bg 1 none) S
def mU:PN:=fun xs S R=>(zS (aA (aL 0 2 zy (zc (zj 0) (zc (dC (.int 8)) zo))) (zm 1)) (zS (aJ (dB (dOp (dIb fun i j=>decide (i<j)) (zj 1) (dC (.int 5)))) (aC (dOp (dI0 fun i j=>i-j) (aL 0 2 zy (zc (zj 0) (zc (dC (.int 13)) zo))) (dC (.int 6)))) aH) (zS (aJ (dB (dOp (dIb fun i j=>decide (i<j)) (zj 1) (dC (.int 7)))) (aC (dOp (dI0 fun i j=>i-j) (aL 0 2 zy (zc (zj 0) (zc (dC (.int 2001)) zo))) (dC (.int 1000)))) aH) (aC (dOp bH (dOp (dI0 fun i j=>i-j) (aL 0 2 zy (zc (zj 0) (zc (dOp bH (dC (.int 2)) (dOp (dI CPow fun i j=>i ^ j.toNat) (dC (.int 10)) (dC (.int 30)))) zo))) (dOp (dI CPow fun i j=>i ^ j.toNat) (dC (.int 10)) (dC (.int 30)))) (dOp (dI CPow fun i j=>i ^ j.toNat) (dC (.int 10)) (dC (.int 28)))))))) (aD S.length R) (xs.map some++bg 1 none) S
def oW:PN:=fun xs S R=>(aC (dOp aF (dOp (dI0 fun i j=>i-j) (dOp dIx (zj 0) (dC (.int 1))) (dOp dIx (zj 0) (dC (.int 0)))) (dC (.int 1)))) (aD S.length R) (xs.map some++bg 0 none) S
def sC:PN:=fun xs S R=>(zS (aA (aO (zc (dCB cZ (zc (zj 0) (zc (dO (.ref 37)) zo))) (zc (dCB cZ (zc (zj 0) (zc (dO (.ref 49)) zo))) (zc (dCB cZ (zc (zj 0) (zc (dO (.ref 61)) zo))) (zc (dCB cZ (zc (zj 0) (zc (dO (.ref 161)) zo))) zo))))) (zm 1)) (zS (aA (dOp aF (zj 1) (aO (zc (dCB cZ (zc (zj 0) (zc (dO (.ref 73)) zo))) (zc (dCB cZ (zc (zj 0) (zc (dO (.ref 85)) zo))) (zc (dCB cZ (zc (zj 0) (zc (dO (.ref 104)) zo))) (zc (dCB cZ (zc (zj 0) (zc (dO (.ref 123)) zo))) zo)))))) (zm 1)) (zS (aA (dOp aF (zj 1) (aO (zc (dCB cZ (zc (zj 0) (zc (dO (.ref 142)) zo))) (zc (dCB cZ (zc (zj 0) (zc (dO (.ref 180)) zo))) zo)))) (zm 1)) (zS (aJ (dOr (b7 (bJ (dCB cZ (zc (zj 0) (zc (dO (.ty "ValueError")) zo))))) (dB (dOp dP (iK j8 (zj 1) (zc (dC (.bool true)) zo)) (dC (.int 1))))) (aC (dC (.str "other"))) aH) (zS (aA (aO (zc (dC (.str "span")) (zc (dC (.str "part")) (zc (dC (.str "set")) (zc (dC (.str "text")) (zc (dC (.str "row")) (zc (dC (.str "unlike")) (zc (dC (.str "drawing")) (zc (dC (.str "gap")) (zc (dC (.str "offer")) (zc (dC (.str "great")) zo))))))))))) (zm 2)) (aC (dOp dIx (zj 2) (iK i6 (zj 1) (zc (dC (.bool true)) zo))))))))) (aD S.length R) (xs.map some++bg 2 none) S
def mY:PN:=fun xs S R=>(zS (aA (dC (.str "abcdefghijklmnopqrstuvwxyz")) (zm 1)) (zS (aA (aL 0 2 zy (zc (zj 0) (zc (dC (.int 3)) zo))) (zm 2)) (zS (aA (aL 0 2 zy (zc (zj 0) (zc (dC (.int 26)) zo))) (zm 3)) (zS (aA (fV [none,some 1,some 3] (bY (zc (dC (.int 8)) zo)) (zm 0) aK (dOp bH (dOp dIx (zj 1) (dOp (dI (fun _ j=>0<j) fun i j=>i % j) (dOp aF (zj 2) (dOp bH (dC (.int 5)) (zj 0))) (dC (.int 26)))) (dOp aF (dC (.int 1)) (dOp (dI (fun _ j=>0<j) fun i j=>i % j) (dOp aF (zj 2) (dOp bH (dC (.int 3)) (zj 0))) (dC (.int 8)))))) (zm 4)) (zS (aJ (dB (dOp aT (zj 2) (dC (.int 0)))) (zS (aA (jT iV (dC (.str "")) (zc (bK [none,some 1,some 3] (bY (zc (dC (.int 8)) zo)) (zm 0) aK (dOp dIx (zj 1) (dOp (dI (fun _ j=>0<j) fun i j=>i % j) (dOp aF (zj 2) (dOp bH (dC (.int 7)) (zj 0))) (dC (.int 26))))) zo)) (zm 5)) (aA (fV [none,some 5] (bY (zc (dC (.int 8)) zo)) (zm 0) aK (dSl gF (zj 1) fS (fN (dOp aF (zj 0) (dC (.int 1)))))) (zm 4))) aH) (zS (aJ (dB (dOp aT (zj 2) (dC (.int 1)))) (aA (cC (zc (dC (.str "part")) (zc (dC (.str "gap")) (zc (dC (.str "cut")) (zc (dC (.str "a")) (zc (dC (.str "aa")) (zc (dC (.str "dear")) (zc (dC (.str "b")) (zc (dC (.str "keeps")) zo))))))))) (zm 4)) aH) (zS (aA (aL 0 2 zy (zc (zj 0) (zc (dC (.int 8)) zo))) (zm 6)) (zS (aA (dOp jO (dSl gF (zj 4) (fN (zj 6)) fS) (dSl gF (zj 4) fS (fN (zj 6)))) (zm 4)) (zS (aJ (dB (dOp aT (aL 0 2 zy (zc (zj 0) (zc (dC (.int 2)) zo))) (dC (.int 1)))) (bV (gZ j6 (zj 4))) aH) (aC (zj 4))))))))))) (aD S.length R) (xs.map some++bg 6 none) S
def lV:PN:=fun xs S R=>(zS (aJ (dOr (b7 (bJ (dCB cT (zc (zj 0) (zc (dO (.ty "tuple")) zo))))) (dB (dOp dP (dCB bN (zc (zj 0) zo)) (dCB bN (zc (zj 1) zo))))) (aC (dC (.bool false))) aH) (aC (dQ (dCB gE (zc (bK [none] (aQ (zj 0)) (zm 0) aK (aE 1 jM (zc (zj 0) zo))) zo)) (dOp aT (zj 0) (dCB dH (zc (zj 1) zo)))))) (aD S.length R) (xs.map some++bg 0 none) S
def oK:PN:=fun xs S R=>(aC (aI (zc (dOp dIx (zj 0) (dC (.int 1))) (zc (dOp dIx (zj 0) (dC (.int 2))) zo)))) (aD S.length R) (xs.map some++bg 0 none) S
def n8:PN:=fun xs S R=>(zS (aA (cC zo) (zm 2)) (zS (bI (aQ (zj 0)) (zm 3) (bV (dBM gB (zj 2) (zc (bK [none,some 3] (aQ (zj 1)) (zm 0) aK (dOp aF (zj 1) (aI (zc (zj 0) zo)))) zo)))) (aC (zj 2)))) (aD S.length R) (xs.map some++bg 2 none) S
def jL:PN:=fun xs S R=>(zS (aA (dC (.int 1)) (zm 1)) (zS (bI (aQ (zj 0)) (zm 2) (aA (dOp bH (zj 1) (aE 1 oW (zc (aE 1 oK (zc (zj 2) zo)) zo))) (zm 1))) (aC (zj 1)))) (aD S.length R) (xs.map some++bg 2 none) S
def rA:PN:=fun xs S R=>(zS (aA (aE 1 jL (zc (zj 0) zo)) (zm 1)) (aJ (dB (dOp (dIb fun i j=>decide (j<i)) (zj 1) (dC (.int 300)))) fZ aH)) (aD S.length R) (xs.map some++bg 1 none) S
def zX:PX:=fun xs S R EX=>(zS (aA (aE 1 jL (zc (zj 0) zo)) (zm 1)) (aJ (dB (dOp (dIb fun i j=>decide (j<i)) (zj 1) (dC (.int 300)))) (jQ EX 180 ["many","most"] (zc (zj 1) (zc (dC (.int 300)) zo))) aH)) (aD S.length R) (xs.map some++bg 1 none) S
def rM:PN:=fun xs S R=>(zS (bV (aE 1 rA (zc (zj 0) zo))) (zS (aA (aO (zc (aI zo) zo)) (zm 1)) (zS (bI (aQ (zj 0)) (zm 2) (aA (aE 2 n8 (zc (zj 1) (zc (hZ (zc (dOp dIx (zj 2) (dC (.int 1))) (zc (dOp aF (dOp dIx (zj 2) (dC (.int 2))) (dC (.int 1))) zo))) zo))) (zm 1))) (aC (zj 1))))) (aD S.length R) (xs.map some++bg 2 none) S
def m5:PX:=fun xs S R EX=>(zS (bV (bS EX 1 zX (zc (zj 0) zo))) (zS (aA (aO (zc (aI zo) zo)) (zm 1)) (zS (bI (aQ (zj 0)) (zm 2) (aA (aE 2 n8 (zc (zj 1) (zc (hZ (zc (dOp dIx (zj 2) (dC (.int 1))) (zc (dOp aF (dOp dIx (zj 2) (dC (.int 2))) (dC (.int 1))) zo))) zo))) (zm 1))) (aC (zj 1))))) (aD S.length R) (xs.map some++bg 2 none) S
def sV:PN:=fun xs S R=>(aC (dCB iJ (zc (bK [none,none,some 1] (aQ (dOp dIx (zj 0) (dC (.int 0)))) (c9 2 (aZ (zm 0) (aZ (zm 1) c7))) aK (dOp bH (zj 1) (dOp dIx (zj 2) (zj 0)))) zo))) (aD S.length R) (xs.map some++bg 0 none) S
def kY:PN:=fun xs S R=>(aC (gI (dIb fun i j=>decide (i<=j)) (dIb fun i j=>decide (i<=j)) (dOp dIx (zj 0) (dC (.int 1))) (aE 2 sV (zc (zj 0) (zc (zj 1) zo))) (dOp dIx (zj 0) (dC (.int 2))))) (aD S.length R) (xs.map some++bg 0 none) S
def rJ:PN:=fun xs S R=>(zS (aA (dC (.int 0)) (zm 2)) (zS (aA (dC (.int 0)) (zm 3)) (zS (bI (aQ (zj 1)) (c9 2 (aZ (zm 4) (aZ (zm 5) c7))) (zS (aA (aO (zc (dOp bH (zj 5) (dOp dIx (dOp dIx (zj 0) (zj 4)) (dC (.int 1)))) (zc (dOp bH (zj 5) (dOp dIx (dOp dIx (zj 0) (zj 4)) (dC (.int 2)))) zo))) (zm 6)) (zS (aA (dOp aF (zj 2) (dCB tY (zc (zj 6) zo))) (zm 2)) (aA (dOp aF (zj 3) (dCB uO (zc (zj 6) zo))) (zm 3))))) (aC (aI (zc (zj 2) (zc (zj 3) zo))))))) (aD S.length R) (xs.map some++bg 5 none) S
def sT:PN:=fun xs S R=>(zS (aA (aO (zc (aI zo) zo)) (zm 1)) (zS (bI (aQ (zj 0)) (c9 3 (aZ (zm 2) (aZ (zm 3) (aZ (zm 4) c7)))) (zS (iE (zS (aA (cC zo) (zm 5)) (bI (aQ (zj 1)) (zm 6) (bV (dBM gB (zj 5) (zc (bK [none,some 6,some 3] (bY (zc (dOp aF (dOp (dI0 fun i j=>i-j) (zj 4) (zj 3)) (dC (.int 1))) zo)) (zm 0) aK (dOp aF (zj 1) (aI (zc (dOp aF (zj 2) (zj 0)) zo)))) zo)))))) (aA (zj 5) (zm 1)))) (aC (zj 1)))) (aD S.length R) (xs.map some++bg 6 none) S
def tH:PN:=fun xs S R=>(zS (aA (cC zo) (zm 2)) (zS (bI (bY (zc (dCB bN (zc (zj 1) zo)) zo)) (zm 3) (zS (aA (dOp (dI0 fun i j=>i-j) (aL 0 2 zy (zc (zj 0) (zc (dC (.int 9)) zo))) (dC (.int 4))) (zm 4)) (aJ (dB (dOp lU (zj 4) (aI (zc (dUn (dUI fun i=>-i) (dC (.int 4))) (zc (dC (.int 0)) (zc (dC (.int 4)) zo)))))) (bV (dBM eY (zj 2) (zc (aI (zc (zj 3) (zc (zj 4) zo))) zo))) aH))) (zS (aJ (dB (dOp aT (zj 2) (aO zo))) (aA (cC (zc (aI (zc (aL 0 2 zy (zc (zj 0) (zc (dCB bN (zc (zj 1) zo)) zo))) (zc (dOp dIx (aO (zc (dC (.int 1)) (zc (dUn (dUI fun i=>-i) (dC (.int 1))) (zc (dC (.int 2)) (zc (dUn (dUI fun i=>-i) (dC (.int 3))) zo))))) (aL 0 2 zy (zc (zj 0) (zc (dC (.int 4)) zo)))) zo))) zo)) (zm 2)) aH) (zS (aA (jG 2 rJ (zc (zj 1) (zc (zj 2) zo))) (c9 2 (aZ (zm 5) (aZ (zm 6) c7)))) (zS (aA (dOp (dI0 fun i j=>i-j) (zj 6) (zj 5)) (zm 7)) (zS (aA (dOp aF (zj 5) (dOp dIx (aO (zc (dC (.int 0)) (zc (dC (.int 1)) (zc (dUn (dUI fun i=>-i) (dC (.int 1))) (zc (dOp dFd (zj 7) (dC (.int 2))) (zc (dOp dFd (zj 7) (dC (.int 3))) (zc (dOp aF (zj 7) (dC (.int 1))) zo))))))) (aL 0 2 zy (zc (zj 0) (zc (dC (.int 6)) zo))))) (zm 8)) (zS (aA (dOp aF (zj 8) (dOp dIx (aO (zc (dC (.int 0)) (zc (dC (.int 1)) (zc (dC (.int 2)) (zc (dOp dFd (zj 7) (dC (.int 2))) (zc (zj 7) (zc (dOp aF (zj 7) (dC (.int 2))) zo))))))) (aL 0 2 zy (zc (zj 0) (zc (dC (.int 6)) zo))))) (zm 9)) (aC (aI (zc (dCB dH (zc (zj 2) zo)) (zc (zj 8) (zc (zj 9) zo)))))))))))) (aD S.length R) (xs.map some++bg 8 none) S
def uB:PN:=fun xs S R=>(zS (aA (aL 0 1 mY (zc (zj 0) zo)) (zm 2)) (zS (aA (bK [none,some 0] (bY (zc (dOp aF (dC (.int 1)) (aL 0 2 zy (zc (zj 0) (zc (zj 1) zo)))) zo)) (zm 0) aK (dOp aF (dC (.int 1)) (aL 0 2 zy (zc (zj 1) (zc (dC (.int 3)) zo))))) (zm 3)) (zS (aJ (dB (dOp aT (aL 0 2 zy (zc (zj 0) (zc (dC (.int 12)) zo))) (dC (.int 0)))) (aA (dOp dIx (aO (zc (dOp bH (aO (zc (dC (.int 2)) zo)) (dC (.int 8))) (zc (aO (zc (dC (.int 17)) (zc (dC (.int 17)) zo))) (zc (aO (zc (dC (.int 300)) zo)) (zc (dOp bH (aO (zc (dC (.int 1)) zo)) (dC (.int 8))) zo))))) (aL 0 2 zy (zc (zj 0) (zc (dC (.int 4)) zo)))) (zm 3)) aH) (zS (aA (cC zo) (zm 4)) (zS (bI (bY (zc (dCB bN (zc (zj 3) zo)) zo)) (zm 5) (zS (aA (aL 0 1 mU (zc (zj 0) zo)) (zm 6)) (bV (dBM eY (zj 4) (zc (aI (zc (dOp dIx (zj 2) (zj 5)) (zc (zj 6) (zc (dOp (dI0 fun i j=>i-j) (dOp aF (zj 6) (dOp dIx (zj 3) (zj 5))) (dC (.int 1))) zo)))) zo))))) (aC (dCB dH (zc (zj 4) zo)))))))) (aD S.length R) (xs.map some++bg 5 none) S
def yW:PN:=fun xs S R=>(zS (aA (cC zo) (zm 2)) (zS (bI (aQ (zj 0)) (zm 3) (zS (aA (dIf (bJ (zj 3)) (dOp aF (dOp dIx (zj 3) (dUn (dUI fun i=>-i) (dC (.int 1)))) (dC (.int 1))) (dC (.int 0))) (zm 4)) (bI (jD (zc (zj 4) (zc (zj 1) zo))) (zm 5) (bV (dBM eY (zj 2) (zc (dOp aF (zj 3) (aI (zc (zj 5) zo))) zo)))))) (aC (zj 2)))) (aD S.length R) (xs.map some++bg 4 none) S
def Bx:PN:=fun xs S R=>(zS (aA (aO (zc (aI zo) zo)) (zm 2)) (zS (bI (bY (zc (zj 1) zo)) (zm 3) (aA (aE 2 yW (zc (zj 2) (zc (zj 0) zo))) (zm 2))) (aC (zj 2)))) (aD S.length R) (xs.map some++bg 2 none) S
def rW:PN:=fun xs S R=>(aC (dCB dH (zc (bK [none,some 0] (aQ (zj 1)) (zm 0) aK (dOp dIx (zj 1) (zj 0))) zo))) (aD S.length R) (xs.map some++bg 0 none) S
def yH:PN:=fun xs S R=>(zS (iE (zS (aA (cC zo) (zm 3)) (zS (aA (zj 0) (zm 4)) (tU (dB (dOp aT (dOp dIx (zj 4) (dC (.int 0))) (dC (.str "measure")))) (zS (aA (dOp dIx (zj 4) (dC (.int 1))) (zm 5)) (zS (bV (dBM eY (zj 3) (zc (zj 5) zo))) (aA (dOp dIx (dOp dIx (zj 4) (dC (.int 2))) (dOp (dI0 fun i j=>i-j) (dOp dIx (zj 2) (zj 5)) (dOp dIx (dOp dIx (zj 1) (zj 5)) (dC (.int 1))))) (zm 4)))))))) (aC (aI (zc (zj 3) (zc (dOp dIx (zj 4) (dC (.int 0))) zo))))) (aD S.length R) (xs.map some++bg 3 none) S
def sI:PN:=fun xs S R=>(zS (aA (dCB iJ (zc (bK [none,none,some 1] (aQ (dOp dIx (zj 0) (dC (.int 0)))) (c9 2 (aZ (zm 0) (aZ (zm 1) c7))) aK (dOp bH (zj 1) (dOp dIx (zj 2) (zj 0)))) zo)) (zm 2)) (aC (gI (dIb fun i j=>decide (i<=j)) (dIb fun i j=>decide (i<=j)) (dOp dIx (zj 0) (dC (.int 1))) (zj 2) (dOp dIx (zj 0) (dC (.int 2)))))) (aD S.length R) (xs.map some++bg 1 none) S
def mF:PN:=fun xs S R=>(aC (dCB dH (zc (bK [none,some 0] (aQ (zj 1)) (zm 0) aK (dOp dIx (zj 1) (zj 0))) zo))) (aD S.length R) (xs.map some++bg 0 none) S
def kH:PN:=fun xs S R=>(zS (gK (eU false 2 (.g (.two (.many .int) .bool) ob0 []) (gD (f7 (fun M=>(aQ (zj 0))) (c9 2 (aZ (zm 3) (aZ (zm 4) c7))) (jE (.two (.many .int) .bool) 2 (fun M=>(aI (zc (aE 2 rW (zc (zj 3) (zc (zj 1) zo))) (zc (zj 4) zo)))) (fun M=>(zj 3)))) (iZ (.two (.many .int) .bool) 2 (c9 2 (aZ (zm 5) (aZ (zm 3) c7))) (gD (gX (fun M=>(jX M (.two (.many .int) .bool) (zj 2) (aI (zc (dOp dIx (zj 5) (dC (.int 0))) (zc (dC (.bool false)) zo))))) (zm 6)) (fA (aJ (dZ (bJ (dOp dIx (zj 5) (dC (.int 1)))) (dB (dOp i0 (zj 6) (dC .none)))) (aC (aI (zc (zj 3) (zc (zj 6) zo)))) aH))))))) (aC (dC .none))) (aD S.length R) (xs.map some++bg 5 none) S
def AE:PN:=fun xs S R=>(zS (aJ (dOr (b7 (bJ (dCB cT (zc (zj 1) (zc (dO (.ty "tuple")) zo))))) (dOr (dB (dOp dP (dCB bN (zc (zj 1) zo)) (dC (.int 3)))) (dB (dOp dP (dOp dIx (zj 1) (dC (.int 0))) (dC (.str "measure")))))) (aC (dC (.bool false))) aH) (zS (aJ (dOr (b7 (bJ (aE 1 Bo (zc (dOp dIx (zj 1) (dC (.int 1))) zo)))) (b7 (dB (gI (dIb fun i j=>decide (i<=j)) (dIb fun i j=>decide (i<j)) (dC (.int 0)) (dOp dIx (zj 1) (dC (.int 1))) (dCB bN (zc (zj 0) zo)))))) (aC (dC (.bool false))) aH) (aC (dQ (dCB cT (zc (dOp dIx (zj 1) (dC (.int 2))) (zc (dO (.ty "tuple")) zo))) (dOp aT (dCB bN (zc (dOp dIx (zj 1) (dC (.int 2))) zo)) (aE 1 oW (zc (aE 1 oK (zc (dOp dIx (zj 0) (dOp dIx (zj 1) (dC (.int 1)))) zo)) zo))))))) (aD S.length R) (xs.map some++bg 0 none) S
def qE:PN:=fun xs S R=>(zS (gK (eU false 3 (.t []) (eU false 4 (.t []) (gD (f7 (fun M=>(aQ (zj 0))) (zm 5) (gD (gX (fun M=>(dIf (bJ (aE 2 sI (zc (zj 1) (zc (zj 5) zo)))) (zj 3) (zj 4))) (zm 6)) (iL (fun M=>(dB (dOp (f9 M true) (aE 2 mF (zc (zj 5) (zc (zj 2) zo))) (zj 6)))) (iX 6 (fun M=>(aE 2 mF (zc (zj 5) (zc (zj 2) zo)))) (fun M=>(zj 5))) (fA aH)))) (f7 (fun M=>(aQ (zj 0))) (zm 5) (gD (fA (aA (aE 2 mF (zc (zj 5) (zc (zj 2) zo))) (zm 7))) (iL (fun M=>(dZ (dB (dOp (f9 M false) (zj 7) (zj 3))) (dZ (dB (dOp (f9 M false) (zj 7) (zj 4))) (dB (dOp aT (iA M (zj 3) (zj 7)) (zj 5)))))) (i9 (fun M=>(aI (zc (zj 5) (zc (iA M (zj 4) (zj 7)) zo))))) (fA aH)))))))) (aC (dC .none))) (aD S.length R) (xs.map some++bg 5 none) S
def BT:PN:=fun xs S R=>(zS (aA (cC (zc (aI (zc (zj 1) (zc (aI zo) zo))) zo)) (zm 2)) (zS (tU (bJ (zj 2)) (zS (aA (gZ jV (zj 2)) (zm 3)) (zS (aA (dOp dIx (zj 3) (dC (.int 0))) (zm 4)) (zS (aA (dOp dIx (zj 3) (dC (.int 1))) (zm 5)) (aJ (dZ (bJ (aE 2 AE (zc (zj 0) (zc (zj 4) zo)))) (dB (dOp lU (dOp dIx (zj 4) (dC (.int 1))) (zj 5)))) (bV (dBM gB (zj 2) (zc (bK [none,some 5,some 4] (aQ (dOp dIx (zj 4) (dC (.int 2)))) (zm 0) aK (aI (zc (zj 0) (zc (dOp aF (zj 1) (aI (zc (dOp dIx (zj 2) (dC (.int 1))) zo))) zo)))) zo))) (aJ (dZ (dB (gU "keeps" (zj 4))) (dB (gU "breaks" (zj 4)))) (aC (dC (.bool false))) aH)))))) (aC (dC (.bool true))))) (aD S.length R) (xs.map some++bg 4 none) S
def sE:PX:=fun xs S R EX=>(zS (bV (bS EX 1 zX (zc (zj 0) zo))) fZ) (aD S.length R) (xs.map some++bg 0 none) S
def sJ:PN:=fun xs S R=>(aC (fV [none,some 1] (aQ (aE 1 rM (zc (zj 0) zo))) (zm 0) aK (aI (zc (zj 0) (zc (aE 2 kY (zc (zj 1) (zc (zj 0) zo))) zo))))) (aD S.length R) (xs.map some++bg 0 none) S
def kL:PX:=fun xs S R EX=>(aC (bK [none,some 1] (aQ (bS EX 1 m5 (zc (zj 0) zo))) (zm 0) aK (aI (zc (zj 0) (zc (aE 2 kY (zc (zj 1) (zc (zj 0) zo))) zo))))) (aD S.length R) (xs.map some++bg 0 none) S
def tN:PX:=fun xs S R EX=>(zS (aA (bS EX 1 m5 (zc (zj 0) zo)) (zm 3)) (zS (aJ (b7 (bJ (aE 2 BT (zc (zj 0) (zc (zj 2) zo))))) (aC (dC (.bool false))) aH) (aC (dCB gE (zc (bK [none,some 1,some 2,some 0] (aQ (zj 3)) (zm 0) aK (dOp aT (dOp aT (dOp dIx (aE 3 yH (zc (zj 2) (zc (zj 3) (zc (zj 0) zo)))) (dC (.int 1))) (dC (.str "keeps"))) (aE 2 kY (zc (zj 1) (zc (zj 0) zo))))) zo))))) (aD S.length R) (xs.map some++bg 1 none) S
def p8:PN:=fun xs S R=>(aC (aE 2 kH (zc (aE 2 sJ (zc (zj 0) (zc (zj 1) zo))) (zc (zj 2) zo)))) (aD S.length R) (xs.map some++bg 0 none) S
def oA:PX:=fun xs S R EX=>(aC (aE 2 kH (zc (bS EX 2 kL (zc (zj 0) (zc (zj 1) zo))) (zc (zj 2) zo)))) (aD S.length R) (xs.map some++bg 0 none) S
def qL:PX:=fun xs S R EX=>(zS (aA (bS EX 2 kL (zc (zj 0) (zc (zj 1) zo))) (zm 2)) (bI (bY (zc (dOp aF (dCB bN (zc (zj 0) zo)) (dC (.int 1))) zo)) (zm 3) (bI (aQ (aE 2 Bx (zc (dCB bN (zc (zj 0) zo)) (zc (zj 3) zo)))) (zm 4) (aJ (dB (dOp cX (aE 2 kH (zc (zj 2) (zc (zj 4) zo))) (dC .none))) (aC (zj 4)) aH)))) (aD S.length R) (xs.map some++bg 3 none) S
def sB:PN:=fun xs S R=>(aC (dOp cX (aE 3 p8 (zc (zj 0) (zc (zj 1) (zc (zj 2) zo)))) (dC .none))) (aD S.length R) (xs.map some++bg 0 none) S
def tM:PX:=fun xs S R EX=>(aC (dOp cX (bS EX 3 oA (zc (zj 0) (zc (zj 1) (zc (zj 2) zo)))) (dC .none))) (aD S.length R) (xs.map some++bg 0 none) S
def sD:PX:=fun xs S R EX=>(zS (aA (bS EX 2 kL (zc (zj 0) (zc (zj 1) zo))) (zm 2)) fZ) (aD S.length R) (xs.map some++bg 1 none) S
def qI:PX:=fun xs S R EX=>(zS (aJ (dB (dOp aT (zj 0) (dC (.int 0)))) (aC (bS EX 3 oA (zc (zj 1) (zc (zj 2) (zc (aI zo) zo))))) aH) (zS (aJ (dB (dOp aT (zj 0) (dC (.int 1)))) (aC (bS EX 3 tM (zc (zj 1) (zc (zj 2) (zc (aI zo) zo))))) aH) (zS (aJ (dB (dOp aT (zj 0) (dC (.int 2)))) (aC (bS EX 2 qL (zc (zj 1) (zc (zj 2) zo)))) aH) (zS (aJ (dB (dOp aT (zj 0) (dC (.int 3)))) (aC (bS EX 2 sD (zc (zj 1) (zc (zj 2) zo)))) aH) (zS (aJ (dB (dOp aT (zj 0) (dC (.int 4)))) (aC (bS EX 2 sE (zc (zj 1) (zc (zj 2) zo)))) aH) (aC (bS EX 3 tN (zc (zj 1) (zc (zj 2) (zc (aI (zc (dC (.str "keeps")) zo)) zo)))))))))) (aD S.length R) (xs.map some++bg 0 none) S
def qW:PN:=fun xs S R=>(zS (aA (aE 3 qE (zc (zj 3) (zc (zj 1) (zc (zj 2) zo)))) (zm 4)) (zS (aA (aE 3 p8 (zc (zj 0) (zc (zj 1) (zc (zj 2) zo)))) (zm 5)) (zS (aA (aE 3 sB (zc (zj 0) (zc (zj 1) (zc (zj 2) zo)))) (zm 6)) (zS (aJ (dOr (b7 (bJ (dCB cT (zc (zj 6) (zc (dO (.ty "bool")) zo))))) (dB (dOp dP (zj 6) (dOp cX (zj 4) (dC .none))))) (aC (dC (.bool false))) aH) (zS (aJ (dOr (dB (dOp cX (zj 4) (dC .none))) (dB (dOp cX (zj 5) (dC .none)))) (aC (dQ (dOp cX (zj 4) (dC .none)) (dOp cX (zj 5) (dC .none)))) aH) (zS (aJ (dOr (b7 (bJ (dCB cT (zc (zj 5) (zc (dO (.ty "tuple")) zo))))) (dB (dOp dP (dCB bN (zc (zj 5) zo)) (dC (.int 2))))) (aC (dC (.bool false))) aH) (aC (dQ (aE 2 lV (zc (dOp dIx (zj 5) (dC (.int 0))) (zc (dOp dIx (zj 4) (dC (.int 0))) zo))) (aE 2 lV (zc (dOp dIx (zj 5) (dC (.int 1))) (zc (dOp dIx (zj 4) (dC (.int 1))) zo))))))))))) (aD S.length R) (xs.map some++bg 3 none) S
def qV:PN:=fun xs S R=>(zS (i3 knD 3 qI (zc (zj 0) (zc (zj 1) (zc (zj 2) zo))) 4 (zS (aJ (dOr (dB (dOp dP (iU sC (zc (zj 4) zo)) (dC (.str "great")))) (dOr (b7 (bJ (aE 1 jM (zc (dXA [180] (zj 4) "many") zo)))) (b7 (bJ (aE 1 jM (zc (dXA [180] (zj 4) "most") zo)))))) (aC (dC (.bool false))) aH) (aC (dQ (dOp aT (dXA [180] (zj 4) "many") (zj 3)) (dOp aT (dXA [180] (zj 4) "most") (dC (.int 300))))))) (aC (dC (.bool false)))) (aD S.length R) (xs.map some++bg 1 none) S
def tX:DS:=(zS (aA (aE 1 rR (zc (zj 1) zo)) (zm 2)) (zS (aA (aL 0 2 uB (zc (zj 2) (zc (dC (.int 4)) zo))) (zm 3)) (zS (aA (aL 0 2 tH (zc (zj 2) (zc (zj 3) zo))) (zm 4)) (zS (aA (aE 1 sT (zc (zj 3) zo)) (zm 5)) (zS (aA (dCB dH (zc (bK [none,some 2] (bY (zc (dCB bN (zc (zj 3) zo)) zo)) (zm 0) (dB (dOp aT (aL 0 2 zy (zc (zj 1) (zc (dC (.int 2)) zo))) (dC (.int 1)))) (zj 0)) zo)) (zm 6)) (zS (bI (aQ (aO (zc (aI zo) (zc (zj 6) (zc (jU (zc (dCB bN (zc (zj 3) zo)) zo)) (zc (zj 6) zo)))))) (zm 7) (aJ (b7 (bJ (aE 4 qW (zc (zj 3) (zc (zj 4) (zc (zj 7) (zc (zj 5) zo))))))) (aC (dC (.bool false))) aH)) (zS (aA (dOp dIx (zj 3) (dUn (dUI fun i=>-i) (dC (.int 1)))) (c9 3 (aZ (zm 8) (aZ (zm 9) (aZ (zm 10) c7))))) (zS (aA (dOp dFd (dCB bN (zc (zj 5) zo)) (dOp aF (dOp (dI0 fun i j=>i-j) (zj 10) (zj 9)) (dC (.int 1)))) (zm 11)) (zS (aA (dOp aF (dOp aF (dOp dFd (dC (.int 300)) (zj 11)) (dC (.int 1))) (aL 0 2 zy (zc (zj 2) (zc (dOp dIx (aO (zc (dC (.int 1)) (zc (dOp (dI CPow fun i j=>i ^ j.toNat) (dC (.int 10)) (dC (.int 20))) zo))) (aL 0 2 zy (zc (zj 2) (zc (dC (.int 2)) zo)))) zo)))) (zm 12)) (zS (aA (dOp aF (dSl gF (zj 3) fS (fN (dUn (dUI fun i=>-i) (dC (.int 1))))) (aI (zc (aI (zc (zj 8) (zc (zj 9) (zc (dOp (dI0 fun i j=>i-j) (dOp aF (zj 9) (zj 12)) (dC (.int 1))) zo)))) zo))) (zm 13)) (aJ (b7 (bJ (dCB gE (zc (bK [none,some 13,some 4,some 11,some 12] (bY (zc (dC (.int 6)) zo)) (zm 0) aK (aE 4 qV (zc (zj 0) (zc (zj 1) (zc (zj 2) (zc (dOp bH (zj 3) (zj 4)) zo)))))) zo)))) (aC (dC (.bool false))) aH)))))))))))
end My
namespace My
open PySem L2
theorem seq1{t u:DS}{E:DEnds}{δ:XE}{S:Sto}(h:t { E with nx:=u E } δ S):zS t u E δ S:=h
theorem seqm{t u:DSm}{E:DEndsM}{δ:XE}{S:Sto}{M:DM}(h:t { E with nx:=u E } δ S M):gD t u E δ S M:=h
theorem cut{t u:DS}{E:DEnds}{δ:XE}{S:Sto}(I:XE->Sto->Prop)(h1:∀N:XE->Sto->Prop,(∀ δ' S',I δ' S'->N δ' S')->t { E with nx:=N } δ S)(h2:∀ δ' S',I δ' S'->u E δ' S'):zS t u E δ S:=h1 _ h2
theorem g7(i j:Int):gx (.int i) (.int j)=decide (i=j):=rfl
theorem nF(i j:Bool):gx (.bool i) (.bool j)=decide (i=j):=by cases i<;>cases j<;>rfl
theorem mH(i:Int):cu (.int i)=true:=rfl
theorem nH(i:Bool):cu (.bool i)=true:=rfl
theorem nZ:("int" ∈ gA)=True:=eq_true dz
theorem lI:("bool" ∈ gA)=True:=eq_true dz
theorem mK:("tuple" ∈ gA)=True:=eq_true dz
theorem o7:("list" ∈ gA)=True:=eq_true dz
theorem pU:cu .none=true:=rfl
end My
namespace My
open PySem L2
local macro_rules|`(tactic|walk_at $s:str)=>do
 let xs<-("aA gU pA all_cons List.all_nil Bool.and_self i3 knD jQ dXA bS gK eU fA iL gX i9 f7 iX iA f9 pM iU j8 hZ pB pZ jE iZ jX lL jU lR oY zm zj dC dO dOp dUn zo zc dCB aI aO cC dB b7 dZ dOr dQ l6 iR dIf gI dI dI0 dIb dUI aT dP cX i0 pS m6 pP nA lX mP mG pR oE l7 pY mQ nE dFd bJ lD qA pL fS fN dSl bN p6 mE cT j4 dI2 dH dBM gZ jT iK eY j6 gB jV iV i6 jO iJ gE aE aL jG lE lW kI o9 oX oZ pC mV asL m3 lC pD mC oB nU oF nJ lB oM oR pJ qB pI nG pN nP aC aJ bV aH fZ bI aQ nC mR bY jD lH lT c9 aZ nB pO lG oQ lQ pF c7 hW bK fV aK eR iE pQ qD iQ p9 mI oS nI l9 List.replicate map_cons map_nil map_some Option.bind_some Option.bind_none Option.join_some getElem?_cons_zero getElem?_cons_succ set_cons_zero set_cons_succ List.take_succ_cons take_zero List.take_nil length_cons length_nil nil_append cons_append Option.some.injEq exists_eq_left' exists_eq_left List.cons.injEq XV.d.injEq XV.l.injEq XV.o.injEq PyData.int.injEq PyData.list.injEq PyData.tuple.injEq PyData.bool.injEq PyData.str.injEq and_true true_and decide_eq_true_eq Bool.not_true Bool.not_false Bool.false_eq_true Bool.true_eq_false not_true_eq_false not_false_eq_true decide_true decide_false Bool.not_eq_true' iT decide_eq_false_iff_not Nat.reduceAdd Nat.reduceMul zero_add Nat.reduceLT Nat.reduceLeDiff Nat.reduceEqDiff Int.reduceLT Int.reduceLE Int.reduceNeg Int.reducePow Int.reduceToNat Int.reduceEq Int.reduceAdd Int.reduceSub Int.reduceMul le_refl zero_le length_append length_map g7 nF mH nH pU List.isEmpty_nil List.isEmpty_cons Int.cast_ofNat_Int Int.natCast_zero Int.natCast_one nZ lI mK o7 nL lP n5 pV".splitOn " ").toArray.mapM fun n=>`(Lean.Parser.Tactic.simpLemma|$(Lean.mkIdent n.toName):ident)
 match s.getString with
 |"d"=>`(tactic|((try dsimp only[↓reduceIte,$xs,*]);(try simp only[↓reduceIte,$xs,*])))
 |"n"=>`(tactic|(refine seq1 ?_; walk_at "d"))
 |"dX"=>`(tactic|(try simp -implicitDefEqProofs only [↓reduceIte,$xs,*]))
 |"e"=>`(tactic|((try dsimp only[zS,gD,↓reduceIte,$xs,*]);(try simp only[zS,gD,↓reduceIte,$xs,*])))
 |_=>Lean.Macro.throwUnsupported
section
variable {R:RX}
theorem x5{n:Int}(q:∀m,0<=m->R (.d (.int m)) []):p7 [.d (.int n)] [] R:=by
 unfold p7;walk_at "e";have h1:=jx (n+7919) (show (2147483647:Int)≠0 by decide);have h2:=jv (n+7919) (show (0:Int)<2147483647 by decide);exact⟨dS yw yw,dS dz dz,q _ (jx _ dz)⟩
theorem zF{p:List bd}{n:Int}(hp:aS p)(hn:0<n)(hb:n.natAbs.log2<9000)(q:∀r p',0<=r->r<n->aS p'->R (.d (.int r)) [p']):zy [.l 0,.d (.int n)] [p] R:=by
 obtain⟨l,g,sd,rfl,hl⟩:=hp;unfold zy;walk_at "e";split
 ·refine⟨hn,.inl ⟨⟨hn,hb⟩,0,rfl,?_⟩⟩;walk_at "e";exact q _ _ (jx _ yw) (jv _ hn) ⟨_,_,_,rfl,Int.ediv_nonneg hl yw⟩
 ·refine x5 fun m _=>?_;walk_at "e";refine x5 fun m' h'=>?_;walk_at "e";refine⟨2,rfl,?_⟩;walk_at "e";exact .inl ⟨⟨by decide,by decide +kernel⟩,hn,q _ _ (jx _ yw) (jv _ hn) ⟨_,_,_,rfl,hl⟩⟩
theorem KO{n:Int}(q:∀p,aS p->R (.l 0) [p]):rR [.d (.int n)] [] R:=by
 unfold rR;walk_at "e";refine⟨⟨by decide,by decide,by decide⟩,?_⟩;refine .inr (q _ ⟨_,_,_,rfl,?_⟩);split<;>omega
theorem HD{p:List bd}(hp:aS p)(q:∀r p',-10 ^ 58<=r->r<=10 ^ 58->aS p'->R (.d (.int r)) [p']):mU [.l 0] [p] R:=by
 unfold mU;walk_at "e";refine zF hp dz (by decide +kernel) fun r p1 r0 r1 aa=>?_;walk_at "e";split
 ·refine zF aa dz (by decide +kernel) fun r p2 r0 r1 z=>?_;walk_at "e";exact q _ _ yw yw z
 ·split
  ·refine zF aa dz (by decide +kernel) fun r p2 r0 r1 z=>?_;walk_at "e";exact q _ _ yw yw z
  ·refine⟨⟨by decide,by decide,by decide⟩,dS dz dz,?_⟩;have k1:(10:Int) ^ 30=1000000000000000000000000000000:=by decide +kernel
   have k2:(10:Int) ^ 28=10000000000000000000000000000:=by decide +kernel
   refine zF aa (by decide +kernel) (by decide +kernel) fun r p2 r0 r1 z=>?_;walk_at "e"
   try simp only[k1,k2]at r1 ⊢
   refine⟨⟨by decide,by decide,by decide⟩,⟨by decide,by decide,by decide⟩,Fe 128 128 yw (by decide +kernel),q _ _ yw yw z⟩
end
section
variable {R:RX}
theorem Gu{α:Type}[Inhabited α]{l:List α}{i:Int}(h0:0<=i)(h1:i<l.length)(d:α):atI l i=some (l.getD i.toNat d):=by
 obtain⟨k,rfl⟩:=gw h0;have hk:k<l.length:=yw
 rw[gN (bq hk)];simp[ig,hk]
theorem BR:("abcdefghijklmnopqrstuvwxyz":Str).length=26:=by decide
theorem G7:("abcdefghijklmnopqrstuvwxyz":Str).cps.toList.length=26:=by rw[<- BR];simp[Str.length]
theorem yV:("abcdefghijklmnopqrstuvwxyz":Str).length<=br:=im (small1000 (by rw[BR];decide))
theorem len1(c:Nat):(⟨#[c]⟩:Str).length=1:=rfl
abbrev lsgn (i:Int):Str:=⟨#[("abcdefghijklmnopqrstuvwxyz":Str).cps.toList.getD i.toNat 0]⟩
theorem Bj{i:Int}(h0:0<=i)(h1:i<26):atI ("abcdefghijklmnopqrstuvwxyz":Str).cps.toList i=some (("abcdefghijklmnopqrstuvwxyz":Str).cps.toList.getD i.toNat 0):=Gu h0 (by rw[G7];exact h1) 0
theorem x9{ds:List bd}{a b:Option Int}{d:bd}(m:d∈aV ds a b):d∈ds:=by
 unfold aV at m;exact List.mem_of_mem_drop (List.mem_of_mem_take m)
def hU(z:Str):Bool:=decide (z.length<=100)&&PyData.strOk z&&!decide (z = "zy")
theorem K7:∀f<26,∀k<8,hU (PySem.Txt.mul (lsgn (((f:Nat)+5*(0+((k:Nat):Int))) % 26)) (1+((f:Nat)+3*(0+((k:Nat):Int))) % 8))=true:=by decide +kernel
theorem FT:∀f<26,∀k<8,hU (PySem.Txt.slice (PySem.Txt.join "" ((dj 8).map fun k:Nat=>lsgn (((f:Nat)+7*(0+(k:Int))) % 26))) none (some (0+((k:Nat):Int)+1)))=true:=by decide +kernel
theorem FV{ds:List bd}(h:∀d∈ds,∃z:Str,d=.str z/\hU z=true):∃zs:List Str,ds=zs.map lg/\zs.length=ds.length/\∀z∈zs,hU z=true:=by
 induction ds with
 |nil=>exact⟨[],rfl,rfl,yv⟩
 |cons d ds ih=>
  obtain⟨z,rfl,hz⟩:=h d ck;obtain⟨zs,rfl,hl,aa⟩:=ih fun d m=>h d (bw _ m);refine⟨z::zs,rfl,yv,fun y m=>?_⟩;rcases mem_cons.mp m with rfl|m
  ·exact hz
  ·exact aa y m
theorem xM(a b:Str):(a++b).length=a.length+b.length:=strLen_append a b
theorem xU:∀zs:List Str,(∀z∈zs,z.length<=1)->(Str.join "" zs).length<=zs.length
 | [],_=>cw 0
 | [a],h=>h a ck
 |a::b::r,h=>by
  show (a ++ "" ++ Str.join "" (b::r)).length<=_;rw[xM,xM];have e:("":Str).length=0:=rfl;have h1:=h a ck;have h2:=xU (b::r) fun z m=>h z (bw _ m);rw[e];simp only[cn]at h2 ⊢;omega
def nY(ds:List bd):Prop:=∀d∈ds,∃z:Str,d=.str z/\hU z=true
theorem GK{ds:List bd}{a:Int}(h0:0<=a)(h1:a<=ds.length):(aV ds (some a) none++aV ds none (some a)).length=ds.length:=by
 obtain⟨k,rfl⟩:=gw h0;have e1:HT.sIx ds.length 0 (some (k:Int))=k:=by rw[HT.sIx_nat];omega
 have e2:HT.sIx ds.length ds.length (some (k:Int))=k:=by rw[HT.sIx_nat];omega
 have e3:HT.sIx ds.length ds.length none=ds.length:=rfl;have e4:HT.sIx ds.length 0 none=0:=rfl;unfold aV;rw[e1,e2,e3,e4,bx,iy,iy,length_drop,length_drop];omega
def wD:List Str:=["part","gap","cut","a","aa","dear","b","keeps"]
set_option maxHeartbeats 8000000 in
theorem Gw{p:List bd}(hp:aS p)(q:∀(ns:List Str) p',ns.length=8->(∀z∈ns,hU z=true)->aS p'->R (.d (.list (ns.map lg))) [p']):mY [.l 0] [p] R:=by
 unfold mY;walk_at "dX"
 (refine seq1 ?_;walk_at "dX")
 (refine seq1 ?_;walk_at "dX")
 refine zF hp dz (by decide +kernel) fun ai p1 w0 w1 am=>?_;walk_at "dX"
 (refine seq1 ?_;walk_at "dX")
 refine zF am dz (by decide +kernel) fun aa p2 f0 f1 an=>?_;walk_at "dX";refine cut (fun δ' S'=>∃(ds:List bd),nY ds/\ds.length=8/\S'=[p2,ds]/\δ'=[some (.l 0),some (.d (.str ("abcdefghijklmnopqrstuvwxyz":Str))),some (.d (.int ai)),some (.d (.int aa)),some (.l 1),none,none]) (fun N hN=>?_) ?_
 ·walk_at "dX";refine cmp1 (S0:=[p2]) (fun k:Nat=>.str (PySem.Txt.mul (lsgn ((aa+5*(0+k)) % 26)) (1+(aa+3*(0+k)) % 8))) rfl (dj 8) yv ?_ ?_
  ·intro k mk u acc R' hk;have b1:=jx (aa+5*(0+(k:Int))) (show (26:Int)≠0 by decide);have b2:=jv (aa+5*(0+(k:Int))) (show (0:Int)<26 by decide);have b3:=jx (aa+3*(0+(k:Int))) (show (8:Int)≠0 by decide);have b4:=jv (aa+3*(0+(k:Int))) (show (0:Int)<8 by decide);walk_at "dX";refine⟨dS dz dz,yV,_,Bj b1 b2,?_⟩;walk_at "dX";refine⟨dS dz dz,?_⟩;walk_at "dX";exact⟨by rw[len1];decide,yw,yw,hk _⟩
  ·refine hN _ _ ⟨_,?_,yv,rfl,rfl⟩;intro d m;obtain⟨k,mk,rfl⟩:=mem_map.mp m;obtain⟨f,rfl⟩:=gw f0;exact⟨_,rfl,K7 f yw k (mem_range.mp mk)⟩
 rintro _ _ ⟨ds,ae,hl,rfl,rfl⟩;refine cut (fun δ' S'=>∃(ds:List bd) (T:Sto) (k:Nat) (u:Option XV),nY ds/\ds.length=8/\T[k]?=some ds/\S'=p2::T/\δ'=[some (.l 0),some (.d (.str ("abcdefghijklmnopqrstuvwxyz":Str))),some (.d (.int ai)),some (.d (.int aa)),some (.l (k+1)),u,none]) (fun N hN=>?_) ?_
 ·walk_at "dX";split
  ·refine seq1 ?_;walk_at "dX";refine cmp1 (S0:=[p2,ds]) (fun k:Nat=>.str (lsgn ((aa+7*(0+k)) % 26))) rfl (dj 8) yv ?_ ?_
   ·intro k mk u acc R' hk;have b1:=jx (aa+7*(0+(k:Int))) (show (26:Int)≠0 by decide);have b2:=jv (aa+7*(0+(k:Int))) (show (0:Int)<26 by decide);walk_at "dX";refine⟨dS dz dz,yV,_,Bj b1 b2,?_⟩;exact hk _
   ·walk_at "dX";refine⟨(dj 8).map fun k:Nat=>lsgn ((aa+7*(0+k)) % 26),by rw[kj];rfl,by decide,yv,fun y m=>?_,?_⟩
    ·obtain⟨k,_,rfl⟩:=mem_map.mp m;show 1<=1000;decide
    ·have wl:(PySem.Txt.join "" ((dj 8).map fun k:Nat=>lsgn ((aa+7*(0+k)) % 26))).length<=8*1016:=by
      have:=Fd (y:=("":Str)) (zs:=(dj 8).map fun k:Nat=>lsgn ((aa+7*(0+k)) % 26)) dz (fun y m=>by
       obtain⟨k,_,rfl⟩:=mem_map.mp m;show 1<=1000;decide)
      simpa using this
     have ao:(PySem.Txt.join "" ((dj 8).map fun k:Nat=>lsgn ((aa+7*(0+k)) % 26))).length<=8:=by
      show (Builtin.Str.glued _ _).length<=_;rw[StrLaws.glued_eq_join];have:=xU ((dj 8).map fun k:Nat=>lsgn ((aa+7*(0+k)) % 26)) (fun y m=>by
       obtain⟨k,_,rfl⟩:=mem_map.mp m;exact cw 1)
      simpa using this
     walk_at "dX";refine cmp1 (S0:=[p2,ds]) (fun k:Nat=>.str (PySem.Txt.slice (PySem.Txt.join "" ((dj 8).map fun k:Nat=>lsgn ((aa+7*(0+k)) % 26))) none (some (0+k+1)))) rfl (dj 8) yv ?_ ?_
     ·intro k mk u acc R' hk;walk_at "dX";exact⟨ip wl (by rw[jg];decide),hk _⟩
     ·refine hN _ _ ⟨_,[ds,_],1,_,?_,?_,rfl,rfl,rfl⟩
      ·intro d m;obtain⟨k,mk,rfl⟩:=mem_map.mp m;obtain⟨f,rfl⟩:=gw f0;exact⟨_,rfl,FT f yw k (mem_range.mp mk)⟩
      ·simp
  ·exact hN _ _ ⟨ds,[ds],0,none,ae,hl,rfl,rfl,rfl⟩
 rintro _ _ ⟨ds,T,k,u,ae,hl,hk,rfl,rfl⟩;refine cut (fun δ' S'=>∃(ds:List bd) (T:Sto) (k:Nat),nY ds/\ds.length=8/\T[k]?=some ds/\S'=p2::T/\δ'=[some (.l 0),some (.d (.str ("abcdefghijklmnopqrstuvwxyz":Str))),some (.d (.int ai)),some (.d (.int aa)),some (.l (k+1)),u,none]) (fun N hN=>?_) ?_
 ·walk_at "dX";split
  ·refine hN _ _ ⟨wD.map lg,T++[wD.map lg],T.length,?_,rfl,by rw[bn],rfl,rfl⟩;intro d m;obtain⟨z,hz,rfl⟩:=mem_map.mp m;refine⟨z,rfl,?_⟩;simp only[wD,gj,fj,or_false]at hz;rcases hz with rfl|rfl|rfl|rfl|rfl|rfl|rfl|rfl<;>decide +kernel
  ·exact hN _ _ ⟨ds,T,k,ae,hl,hk,rfl,rfl⟩
 rintro _ _ ⟨ds,T,k,ae,hl,hk,rfl,rfl⟩
 (refine seq1 ?_;walk_at "dX")
 refine zF an dz (by decide +kernel) fun ac p3 a0 a1 ak=>?_;walk_at "dX"
 (refine seq1 ?_;walk_at "dX")
 refine⟨ds,hk,ds,hk,?_⟩;have hc:=GK (ds:=ds) a0 yw;rw[bx]at hc;refine⟨yw,?_⟩;have aj:(T++[aV ds (some ac) none++aV ds none (some ac)])[T.length]?=some (aV ds (some ac) none++aV ds none (some ac)):=by rw[bn]
 have ah:nY (aV ds (some ac) none++aV ds none (some ac)):=fun d m=>(mem_append.mp m).elim (fun m=>ae d (x9 m)) fun m=>ae d (x9 m);have ag:(aV ds (some ac) none++aV ds none (some ac)).length=8:=by rw[bx];omega
 generalize aV ds (some ac) none++aV ds none (some ac)=es at aj ah ag ⊢;refine seq1 ?_;walk_at "dX";refine zF ak dz (by decide +kernel) fun r p4 r0 r1 al=>?_;walk_at "dX";have af:∀(fs:List bd),nY fs->fs.length=8->R (.d (.list fs)) [p4]:=by
  intro fs h1 h2;obtain⟨zs,rfl,z1,z2⟩:=FV h1;exact q zs p4 yw z2 al
 split
 ·refine⟨yv,es,aj,?_⟩;walk_at "dX";rw[bv yw];refine⟨es.reverse,by simp[Dc],.inl (af _ (fun d m=>ah d (List.mem_reverse.mp m)) (by simpa using ag))⟩
 ·rw[bv yw];exact⟨es,aj,.inl (af _ ah ag)⟩
abbrev Part:=Str×Int×Int
def bF(p:Part):bd:=.tuple [.str p.1,.int p.2.1,.int p.2.2]
def aG(ps:List Part):bd:=.tuple (ps.map bF)
structure Prt(p:Part):Prop where
 nm:hU p.1=true
 le:p.2.1<=p.2.2
 lo:-10 ^ 58<=p.2.1
 hi:p.2.2<=10 ^ 59
structure Drw(ps:List Part):Prop where
 l1:1<=ps.length
 l8:ps.length<=8
 all:∀p∈ps,Prt p
theorem kG{α:Type}{f:α->bd}{l:List α}{k:Nat}{x:α}(e:l[k]?=some x):atI (l.map f) (k:Int)=some (f x):=gN (by rw[gi,e];rfl)
end
section
variable {R:RX}{S:Sto}
theorem Jd{a b m:Int}(h1:m∈[a,b])(h2:∀x,x∈[a,b]->m<=x):m=min a b:=by
 have ha:=h2 a yv;have hb:=h2 b yv;simp only[gj,fj,or_false]at h1;omega
theorem Jh{a b m:Int}(h1:m∈[a,b])(h2:∀x,x∈[a,b]->x<=m):m=max a b:=by
 have ha:=h2 a yv;have hb:=h2 b yv;simp only[gj,fj,or_false]at h1;omega
theorem JM{a b:Int}(q:R (.d (.int (min a b))) S):tY [.d (.list [.int a,.int b])] S R:=.inl ⟨_,rfl,[a,b],rfl,yv,fun m h1 h2=>by rw[Jd h1 h2];exact q⟩
theorem Jn{a b:Int}(q:R (.d (.int (max a b))) S):uO [.d (.list [.int a,.int b])] S R:=⟨_,rfl,[a,b],rfl,yv,fun m h1 h2=>by rw[Jh h1 h2];exact q⟩
abbrev Term:=Nat×Int
def tmD(t:Term):bd:=.tuple [.int t.1,.int t.2]
def rS(ts:List Term):bd:=.tuple (ts.map tmD)
structure Gap where
 ts:List Term
 lo:Int
 hi:Int
def bE(g:Gap):bd:=.tuple [rS g.ts,.int g.lo,.int g.hi]
theorem qU(g:Gap):bE g=.tuple [rS g.ts,.int g.lo,.int g.hi]:=rfl
theorem Bq(t:Term):tmD t=.tuple [.int t.1,.int t.2]:=rfl
theorem CP(p:Part):bF p=.tuple [.str p.1,.int p.2.1,.int p.2.2]:=rfl
def aB(ns:List Int):bd:=.tuple (ns.map bp)
structure Tms(n:Nat)(ts:List Term):Prop where
 ne:ts≠[]
 len:ts.length<=n
 ok:∀t∈ts,t.1<n/\t.2≠0/\-3<=t.2/\t.2<=3
 srt:ts.Pairwise fun t u=>t.1<u.1
structure Tm3(n:Nat)(ts:List Term):Prop where
 len:ts.length<=100
 ok:∀t∈ts,t.1<n/\-3<=t.2/\t.2<=3
theorem Tms.tm3{n:Nat}{ts:List Term}(h:Tms n ts)(hn:n<=8):Tm3 n ts:=⟨by have:=h.len;omega,fun t m=>⟨(h.ok t m).1,(h.ok t m).2.2⟩⟩
def worth(ts:List Term)(ns:List Int):Int:=(ts.map fun t=>t.2*ns.getD t.1 0).sum
theorem vL{ns:List Int}{k:Nat}(h:k<ns.length):ns[k]?=some (ns.getD k 0):=by
 rw[bq h,ig,bq h];rfl
def part(ps:List Part)(k:Nat):Part:=ps.getD k ("",0,0)
theorem LC{ps:List Part}{k:Nat}(h:k<ps.length):ps[k]?=some (part ps k):=by
 unfold part;rw[bq h,ig,bq h];rfl
def plo(ps:List Part)(k:Nat):Int:=(part ps k).2.1
def phi(ps:List Part)(k:Nat):Int:=(part ps k).2.2
def tLo(ps:List Part)(t:Term):Int:=min (t.2*plo ps t.1) (t.2*phi ps t.1)
def tHi(ps:List Part)(t:Term):Int:=max (t.2*plo ps t.1) (t.2*phi ps t.1)
def cJ(ps:List Part)(ts:List Term):Int:=(ts.map (tLo ps)).sum
def cF(ps:List Part)(ts:List Term):Int:=(ts.map (tHi ps)).sum
theorem Ii{ps:List Part}{t:Term}{ts:List Term}:cJ ps (t::ts)=tLo ps t+cJ ps ts:=by simp[cJ]
theorem Jg{ps:List Part}{t:Term}{ts:List Term}:cF ps (t::ts)=tHi ps t+cF ps ts:=by simp[cF]
theorem ES{ps:List Part}{ts:List Term}{i:Nat}{t:Term}(h:ts[i]?=some t):cJ ps (ts.take (i+1))=cJ ps (ts.take i)+tLo ps t:=by
 unfold cJ;rw[List.take_add_one,h];simp
theorem J3{ps:List Part}{ts:List Term}{i:Nat}{t:Term}(h:ts[i]?=some t):cF ps (ts.take (i+1))=cF ps (ts.take i)+tHi ps t:=by
 unfold cF;rw[List.take_add_one,h];simp
theorem B0(ps:List Part):∀ts:List Term,cJ ps ts<=cF ps ts
 | []=>by simp[cJ,cF]
 |t::ts=>by
  have:=B0 ps ts;rw[Ii,Jg];unfold tLo tHi;omega
theorem eE{α:Type}{f:α->bd}{l:List α}{i:Nat}{d:bd}(h:(l.map f)[i]?=some d):∃x,l[i]?=some x/\d=f x:=by
 rw[gi]at h;obtain⟨x,e,rfl⟩:=map_eq_some_iff.mp h;exact⟨x,e,rfl⟩
theorem HN{ps:List Part}{ts:List Term}{t:bd}(ht:eO (.d t)=some (ts.map tmD))(h3:Tm3 ps.length ts)(q:R (.d (spD (cJ ps ts) (cF ps ts))) []):rJ [.d (aG ps),.d t] [] R:=by
 unfold rJ aG;walk_at "d"
 walk_at "n"
 walk_at "n"
 walk_at "n";refine⟨_,ht,?_⟩;refine fD (fun i δ S=>∃(u1 u2 u3:Option XV),S=[]/\δ=[some (.d (.tuple (ps.map bF))),some (.d t),some (.d (.int (cJ ps (ts.take i)))),some (.d (.int (cF ps (ts.take i)))),u1,u2,u3]) ⟨_,_,_,rfl,rfl⟩ ?_ ?_
 ·rintro i d _ _ N hi ⟨u1,u2,u3,rfl,rfl⟩ hN;obtain⟨t,ht,rfl⟩:=eE hi;obtain⟨t1,t2,t3⟩:=h3.ok t (cj ht);have ep:=kG (f:=bF) (LC t1);unfold tmD;walk_at "d"
  walk_at "n"
  refine⟨_,ep,?_⟩;unfold bF;walk_at "d";refine⟨dS yw yw,_,ep,?_⟩;unfold bF;walk_at "d";refine⟨dS yw yw,?_⟩
  walk_at "n"
  refine JM ?_;walk_at "d";refine Jn ?_;walk_at "d";exact hN _ _ ⟨_,_,_,rfl,by rw[ES ht,J3 ht];rfl⟩
 ·rintro _ _ ⟨u1,u2,u3,rfl,rfl⟩;rw[cg,ie];walk_at "d";exact q
theorem lJ{ds:List bd}{r:Int}{P:bd->Prop}(h0:0<=r)(h1:r<ds.length)(hP:∀d∈ds,P d):∃d,atI ds r=some d/\P d:=by
 obtain⟨k,rfl⟩:=gw h0;have hk:k<ds.length:=yw
 exact⟨ds[k],gN (bq hk),hP _ (getElem_mem hk)⟩
theorem JC(ds:List bd):gx (.list ds) (.list [])=decide (ds=[]):=by
 cases ds with
 |nil=>rfl
 |cons d ds=>rfl
theorem JD(t:Term):Shp 1 (tmD t):=DV (Fp vP vP)
theorem Hh(ts:List Term):cu (.list (ts.map tmD))=true:=(wO (tD fun t _=>JD t)).ok
structure GapOk(n:Nat)(g:Gap):Prop where
 ts:Tms n g.ts
 le:g.lo<=g.hi
theorem Ia{p:List bd}{ps:List Part}(hp:aS p)(hd:Drw ps)(q:∀g p',GapOk ps.length g->aS p'->R (.d (bE g)) [p']):tH [.l 0,.d (aG ps)] [p] R:=by
 have h8:=hd.l8;have h1:=hd.l1;unfold tH;walk_at "d"
 walk_at "n"
 refine cut (fun δ S=>∃(p:List bd) (ts:List Term) (u1 u2:Option XV),aS p/\ts.length<=ps.length/\(∀t∈ts,t.1<ps.length/\t.2≠0/\-3<=t.2/\t.2<=3)/\(ts.Pairwise fun t u=>t.1<u.1)/\S=[p,ts.map tmD]/\δ=[some (.l 0),some (.d (aG ps)),some (.l 1),u1,u2,none,none,none,none,none]) (fun N hN=>?_) ?_
 ·walk_at "d";refine⟨ps.length,by unfold aG;walk_at "d",?_⟩;refine fD (fun i δ S=>∃(p:List bd) (ts:List Term) (u1 u2:Option XV),aS p/\ts.length<=i/\(∀t∈ts,t.1<i/\t.2≠0/\-3<=t.2/\t.2<=3)/\(ts.Pairwise fun t u=>t.1<u.1)/\S=[p,ts.map tmD]/\δ=[some (.l 0),some (.d (aG ps)),some (.l 1),u1,u2,none,none,none,none,none]) ⟨p,[],_,_,hp,cw _,yv,.nil,rfl,rfl⟩ ?_ ?_
  ·rintro i d _ _ N hi ⟨p,ts,u1,u2,hp,hl,ht,hw,rfl,rfl⟩ hN;obtain⟨ah,rfl⟩:=r9 hi;have ai:i<ps.length:=by simpa using ah
   walk_at "d"
   walk_at "n"
   refine zF hp dz (by decide +kernel) fun r p2 r0 r1 aa=>?_;walk_at "d";refine⟨rfl,?_⟩;simp only[any_cons,List.any_nil,Bool.or_false,g7];have ag:=hN [some (.l 0),some (.d (aG ps)),some (.l 1),some (.d (.int (0+(i:Int)))),some (.d (.int (r-4))),none,none,none,none,none] [p2,ts.map tmD] ⟨p2,ts,_,_,aa,yw,fun t m=>⟨by have:=(ht t m).1;omega,(ht t m).2⟩,hw,rfl,rfl⟩;by_cases hz:r-4 = -4\/r-4=0\/r-4=4
   ·have e:(decide ((-4:Int)=r-4)||(decide ((0:Int)=r-4)||decide ((4:Int)=r-4)))=true:=by
     rcases hz with h|h|h<;>simp[h]
    rw[e];walk_at "d";exact ag
   ·have e:(decide ((-4:Int)=r-4)||(decide ((0:Int)=r-4)||decide ((4:Int)=r-4)))=false:=by
     simp;omega
    rw[e];walk_at "d";refine⟨yw,hN _ _ ⟨p2,ts++[(i,r-4)],_,_,aa,by simp;omega,fun t m=>?_,?_,by simp[tmD],rfl⟩⟩
    ·rcases mem_append.mp m with m|m
     ·exact⟨by have:=(ht t m).1;omega,(ht t m).2⟩
     ·rw[mem_singleton.mp m];exact⟨yv,by simp only;omega,by simp only;omega,by simp only;omega⟩
    ·rw[List.pairwise_append];exact⟨hw,yv,fun t m u m'=>by rw[mem_singleton.mp m'];exact(ht t m).1⟩
  ·rintro _ _ ⟨p,ts,u1,u2,hp,hl,ht,hw,rfl,rfl⟩;rw[kF]at hl ht;have hz:(ps.length:Int).toNat=ps.length:=by simp
   rw[hz]at hl ht;exact hN _ _ ⟨p,ts,u1,u2,hp,hl,ht,hw,rfl,rfl⟩
 rintro _ _ ⟨p,ts,u1,u2,hp,hl,ht,hw,rfl,rfl⟩;refine cut (fun δ S=>∃(p:List bd) (ts:List Term) (T:Sto) (k:Nat),aS p/\Tms ps.length ts/\T[k]?=some (ts.map tmD)/\S=p::T/\δ=[some (.l 0),some (.d (aG ps)),some (.l (k+1)),u1,u2,none,none,none,none,none]) (fun N hN=>?_) ?_
 ·walk_at "d";refine⟨Hh ts,rfl,?_⟩;rw[JC];walk_at "d";split
  ·refine⟨ps.length,by unfold aG;walk_at "d",?_⟩;refine zF hp yw (rG yw yw) fun r p2 r0 r1 aa=>?_;walk_at "d";refine zF aa dz (by decide +kernel) fun r3 p3 r2 r4 ac=>?_;obtain⟨d,ed,n,rfl,hn⟩:=lJ (ds:=[bp 1,bp (-1),bp 2,bp (-3)]) (P:=fun d=>∃n,d=.int n/\n≠0/\-3<=n/\n<=3) r2 r4 (by
    intro d m;simp only[gj,fj,or_false]at m;rcases m with rfl|rfl|rfl|rfl<;>exact⟨_,rfl,by decide,by decide,by decide⟩)
   obtain⟨k,rfl⟩:=gw r0;walk_at "d";refine⟨_,ed,?_⟩;walk_at "d";refine hN _ _ ⟨p3,[(k,n)],[ts.map tmD,[tmD (k,n)]],1,ac,⟨yv,by simpa using h1,fun t m=>by rw[mem_singleton.mp m];exact⟨by simp only;omega,hn⟩,yv⟩,rfl,rfl,rfl⟩
  ·rename_i af;exact hN _ _ ⟨p,ts,[ts.map tmD],0,hp,⟨fun z=>af (by rw[z];rfl),hl,ht,hw⟩,rfl,rfl,rfl⟩
 rintro _ _ ⟨p,ts,T,k,hp,ae,hk,rfl,rfl⟩
 walk_at "n"
 rw[hk];walk_at "d";refine HN rfl (ae.tm3 h8) ?_;have lm:=B0 ps ts;unfold spD;walk_at "d";refine⟨rfl,?_⟩;walk_at "d"
 walk_at "n"
 walk_at "n"
 refine .inl ⟨⟨by decide,by decide +kernel⟩,.inl ⟨⟨by decide,by decide +kernel⟩,?_⟩⟩;walk_at "d";refine zF hp dz (by decide +kernel) fun r p2 r0 r1 aa=>?_;obtain⟨d,ed,n,rfl⟩:=lJ (P:=fun d=>∃n,d=.int n) (ds:=[bp 0,bp 1,bp (-1),bp ((cF ps ts-cJ ps ts)/2),bp ((cF ps ts-cJ ps ts)/3),bp (cF ps ts-cJ ps ts+1)]) r0 r1 yv;walk_at "d";refine⟨_,ed,?_⟩;walk_at "d"
 walk_at "n"
 refine .inl ⟨⟨by decide,by decide +kernel⟩,?_⟩;walk_at "d";refine zF aa dz (by decide +kernel) fun r' p3 r2 r3 ac=>?_;obtain⟨d,ed,n',rfl,h0⟩:=lJ (P:=fun d=>∃n,d=.int n/\0<=n) (ds:=[bp 0,bp 1,bp 2,bp ((cF ps ts-cJ ps ts)/2),bp (cF ps ts-cJ ps ts),bp (cF ps ts-cJ ps ts+2)]) r2 r3 (by simp;omega);walk_at "d";refine⟨_,ed,?_⟩;walk_at "d";refine⟨_,hk,?_⟩;walk_at "d";exact q ⟨ts,_,_⟩ p3 ⟨ae,by simp only;omega⟩ ac
theorem Bc{g:DG}{te:DE}{fin:Sto->Prop}{α:Type}(F:α->Prop)(f:α->bd)(P:XE->Prop):∀(ds:List bd) (acc:List α) (p:List bd) (τ:XE),P τ->aS p->acc.length+ds.length<=1000 ->
  (∀d∈ds,∀ τ p acc (R:XE->RX),P τ->aS p->(∀ τ' x p',P τ'->aS p'->F x->R τ' (.d (f x)) [p',acc])->g (.d d) τ [p,acc] fun τ1 S1=>te τ1 S1 (R τ1)) ->
  (∀xs p',aS p'->(∀x∈xs,F x)->xs.length=ds.length->fin [p',(acc++xs).map f])->bM 1 g aK te fin ds τ [p,acc.map f]
 | [],acc,p,τ,_,hp,_,_,h=>by
  have:=h [] p hp yv rfl;rw[gq]at this;exact this
 |d::ds,acc,p,τ,hP,hp,hl,el,h=>by
  show g (.d d) τ [p,acc.map f] fun τ1 S1=>aK τ1 S1 fun b S2=>if b=true then te τ1 S2 fun x S3=>asD x fun e=>∃acc,S3[1]?=some acc/\acc.length<1000/\bM 1 g aK te fin ds τ1 (S3.set 1 (acc++[e]))else bM 1 g aK te fin ds τ1 S2
  simp only[aK,↓reduceIte];rw[cn]at hl;refine el d ck τ p (acc.map f) (fun τ1 x S3=>asD x fun e=>∃acc,S3[1]?=some acc/\acc.length<1000/\bM 1 g aK te fin ds τ1 (S3.set 1 (acc++[e]))) hP hp fun τ' x p' aa z hF=>?_;refine⟨acc.map f,rfl,by rw[cg];omega,?_⟩;have e:([p',acc.map f]:Sto).set 1 (acc.map f++[f x])=[p',(acc++[x]).map f]:=by simp
  rw[e];refine Bc F f P ds (acc++[x]) p' τ' aa z (by rw[bx,fb];omega) (fun e m=>el e (bw _ m)) fun xs p'' hp'' fs hl=>?_;rw[fz];exact h (x::xs) p'' hp'' (fun y m=>(mem_cons.mp m).elim (fun e=>e▸hF) (fs y)) (by simp[hl])
end
section
variable {R:RX}{S:Sto}
theorem Cz{p:Part}(q:R (.d (spD p.2.1 p.2.2)) []):oK [.d (bF p)] [] R:=by
 unfold oK bF;walk_at "e";exact q
theorem BV{a b:Int}(q:R (.d (.int (b-a+1))) []):oW [.d (spD a b)] [] R:=by
 unfold oW spD;walk_at "e";exact q
theorem E8{g:Gap}{ns:List Int}(h3:Tm3 ns.length g.ts)(q:R (.d (.int (worth g.ts ns))) []):sV [.d (bE g),.d (aB ns)] [] R:=by
 unfold sV aB;rw[qU,rS];walk_at "e";refine cmp2 (S0:=[]) (fun t:Term=>.int (t.2*ns.getD t.1 0)) rfl g.ts (by have:=h3.len;omega) ?_ ?_
 ·intro t mt u v acc R' hk;obtain⟨t1,t2,t3⟩:=h3.ok t mt;have e:=kG (f:=bp) (vL t1);rw[Bq];walk_at "e";refine⟨_,e,?_⟩;walk_at "e";exact⟨dS yw yw,hk _ _⟩
 ·walk_at "e";refine⟨g.ts.map fun t:Term=>t.2*ns.getD t.1 0,by rw[kj];rfl,q⟩
def fM(g:Gap)(ns:List Int):Bool:=decide (g.lo<=worth g.ts ns/\worth g.ts ns<=g.hi)
theorem K1{g:Gap}{ns:List Int}(h3:Tm3 ns.length g.ts)(q:R (.d (.bool (fM g ns))) []):kY [.d (bE g),.d (aB ns)] [] R:=by
 unfold kY;walk_at "e";rw[qU];walk_at "e";rw[<- qU];refine E8 h3 ?_;walk_at "e";unfold fM at q;by_cases h:g.lo<=worth g.ts ns
 ·simp only[h,true_and]at q;rw[cy h];exact q
 ·simp only[h,false_and,decide_false]at q;rw[bv h];exact q
structure InBox(ps:List Part)(ns:List Int):Prop where
 len:ns.length=ps.length
 ok:∀k,k<ps.length->plo ps k<=ns.getD k 0/\ns.getD k 0<=phi ps k
def Ord(ps:List Part):Prop:=∀p∈ps,p.2.1<=p.2.2
theorem Drw.ord{ps:List Part}(h:Drw ps):Ord ps:=fun p m=>(h.all p m).le
end
section
variable {R:RX}{S:Sto}
def CI:bd->Bool
 | .int _=>true
 |_=>false
theorem vN{d:bd}(q:R (.d (.bool (CI d))) []):jM [.d d] [] R:=by
 unfold jM;cases d<;>(walk_at "e";exact q)
end
section
variable {R:RX}{S:Sto}
def rng(lo:Int)(n:Nat):List Int:=(dj n).map fun k:Nat=>lo+k
theorem BL{lo x:Int}{n:Nat}:x∈rng lo n↔lo<=x/\x<lo+n:=by
 unfold rng;rw[mem_map];constructor
 ·rintro⟨k,hk,rfl⟩;have:=mem_range.mp hk;omega
 ·rintro⟨h1,h2⟩;exact⟨(x-lo).toNat,mem_range.mpr yw,yw⟩
theorem Hz(lo:Int)(n:Nat):(rng lo n).Pairwise (· < ·):=by
 unfold rng;rw[List.pairwise_map];exact List.pairwise_lt_range.imp fun h=>by omega
def cR(p:Part):List Int:=rng p.2.1 (p.2.2-p.2.1+1).toNat
theorem rC(p:Part):(cR p).length=(p.2.2-p.2.1+1).toNat:=by simp[cR,rng]
def aN:List Part->List (List Int)
 | []=>[[]]
 |p::ps=>(cR p).flatMap fun x=>(aN ps).map (x :: ·)
def ext(z:List (List Int))(p:Part):List (List Int):=z.flatMap fun a=>(cR p).map fun x=>a++[x]
theorem BY:∀(ps:List Part) (found:List (List Int)),ps.foldl ext found=found.flatMap fun a=>(aN ps).map (a ++ ·)
 | [],found=>by simp[aN]
 |p::ps,found=>by
  rw[foldl_cons,BY ps];unfold ext;simp only[aN,List.flatMap_assoc,List.map_flatMap,List.flatMap_map,kj];congr 1;funext a;congr 1;funext x;congr 1;funext t;simp
theorem tL(ps:List Part):ps.foldl ext [[]]=aN ps:=by
 rw[BY];simp
theorem Hg{ms:List Int}:InBox [] ms↔ms=[]:=⟨fun h=>fm h.len,fun h=>by subst h;exact⟨rfl,fun k hk=>by simp at hk⟩⟩
theorem yD{p:Part}{ps:List Part}{k:Nat}:part (p::ps) (k+1)=part ps k:=by simp[part]
theorem EY{p:Part}{ps:List Part}{ms:List Int}:InBox (p::ps) ms↔∃x t,ms=x::t/\p.2.1<=x/\x<=p.2.2/\InBox ps t:=by
 constructor
 ·intro h;cases ms with
  |nil=>have:=h.len;simp at this
  |cons x t=>
   have h0:=h.ok 0 yv;refine⟨x,t,rfl,h0.1,h0.2,by have:=h.len;simpa using this,fun k hk=>?_⟩;have:=h.ok (k+1) (by simpa using hk);unfold plo phi at this ⊢;rw[yD]at this;simpa using this
 ·rintro⟨x,t,rfl,h1,h2,h3⟩;refine⟨by simp[h3.len],fun k hk=>?_⟩;cases k with
  |zero=>exact⟨h1,h2⟩
  |succ k=>
   have:=h3.ok k (by simpa using hk);unfold plo phi at this ⊢;rw[yD];simpa using this
theorem gH:∀{ps:List Part}{ms:List Int},ms∈aN ps↔InBox ps ms
 | [],ms=>by rw[Hg];simp[aN]
 |p::ps,ms=>by
  rw[EY,aN,List.mem_flatMap];constructor
  ·rintro⟨x,hx,h⟩;obtain⟨t,ht,rfl⟩:=mem_map.mp h;unfold cR at hx;rw[BL]at hx;exact⟨x,t,rfl,yw,yw,gH.mp ht⟩
  ·rintro⟨x,t,rfl,h1,h2,h3⟩;exact⟨x,by unfold cR;rw[BL];omega,mem_map.mpr ⟨t,gH.mpr h3,rfl⟩⟩
theorem Bv:∀ps:List Part,(aN ps).Pairwise fun a b=>HT.lexLt a b=true
 | []=>by simp[aN]
 |p::ps=>by
  rw[aN,List.pairwise_flatMap];refine⟨fun x _=>?_,?_⟩
  ·rw[List.pairwise_map];refine(Bv ps).imp fun {a b} h=>?_;rw[HT.lexLt_cons,cy rfl];exact h
  ·refine(Hz _ _).imp fun {x y} h a ha b hb=>?_;obtain⟨t,_,rfl⟩:=mem_map.mp ha;obtain⟨u,_,rfl⟩:=mem_map.mp hb;rw[HT.lexLt_cons,bv yw];simpa using h
def cB:List Nat->Nat
 | []=>1
 |x::xs=>x*cB xs
def zC(ps:List Part):Nat:=cB (ps.map fun p=>(p.2.2-p.2.1+1).toNat)
theorem tW{α β:Type}{f:α->List β}{n:Nat}:∀{l:List α},(∀x∈l,(f x).length=n)->(l.flatMap f).length=l.length*n
 | [],_=>by simp
 |x::l,h=>by
  rw[List.flatMap_cons,bx,h x ck,tW fun y m=>h y (bw _ m),cn,Nat.succ_mul,Nat.add_comm]
theorem oJ:∀ps:List Part,(aN ps).length=zC ps
 | []=>rfl
 |p::ps=>by
  rw[aN,tW (n:=zC ps) fun x _=>by rw[cg,oJ ps],rC];rfl
theorem oP{z:List (List Int)}{p:Part}:(ext z p).length=z.length*(p.2.2-p.2.1+1).toNat:=by
 unfold ext;exact tW fun x _=>by rw[cg,rC]
theorem oV{z:List (List Int)}:∀{ps:List Part},(ps.foldl ext z).length=z.length*zC ps
 | []=>by simp[zC,cB]
 |p::ps=>by
  rw[foldl_cons,oV (ps:=ps),oP];simp[zC,cB,Nat.mul_assoc]
theorem Cp:∀{l:List Nat},(∀x∈l,1<=x)->1<=cB l
 | [],_=>cw _
 |x::l,h=>Nat.mul_le_mul (h x ck) (Cp fun y m=>h y (bw _ m))
theorem wC{ps:List Part}(ho:Ord ps):1<=zC ps:=Cp fun x m=>by
 obtain⟨p,mp,rfl⟩:=mem_map.mp m;have:=ho p mp;omega
theorem lM:∀(a b:List Nat),cB (a++b)=cB a*cB b
 | [],b=>by simp[cB]
 |x::a,b=>by simp[cB,lM a b,Nat.mul_assoc]
theorem jF{ps:List Part}(ho:Ord ps)(i:Nat):zC (ps.take i)<=zC ps:=by
 have e:zC ps=zC (ps.take i)*zC (ps.drop i):=by
  unfold zC;rw[<- lM,<- jc,jr]
 have:=wC (ps:=ps.drop i) fun p m=>ho p (List.mem_of_mem_drop m);rw[e];exact Nat.le_mul_of_pos_right _ this
theorem zI{α:Type}{l:List α}{i:Nat}{x:α}(h:l[i]?=some x):l.take (i+1)=l.take i++[x]:=by rw[List.take_add_one,h];rfl
theorem CG(a:List Int)(x:Int):PyData.tuple (a.map bp++[.int x])=aB (a++[x]):=by simp[aB]
theorem IS{ps:List Part}(ho:Ord ps)(ae:ps.length<=100)(hs:zC ps<=300)(q:R (.d (.list ((aN ps).map aB))) []):sT [.d (aG ps)] [] R:=by
 unfold sT;rw[aG];walk_at "d"
 walk_at "n"
 walk_at "n";refine fD (fun i δ S=>∃(u1 u2 u3 u4 u5:Option XV),S=[]/\δ=[some (.d (.tuple (ps.map bF))),some (.d (.list (((ps.take i).foldl ext [[]]).map aB))),u1,u2,u3,u4,u5]) ⟨_,_,_,_,_,rfl,rfl⟩ ?_ ?_
 ·rintro i d _ _ N hi ⟨u1,u2,u3,u4,u5,rfl,rfl⟩ hN;obtain⟨p,hp,rfl⟩:=eE hi;have tk:=zI hp;have il:i<ps.length:=(List.getElem?_eq_some_iff.mp hp).1;have op:=ho p (cj hp);have l1:=jF ho i;have l2:=jF ho (i+1);have f1:((ps.take i).foldl ext [[]]).length=zC (ps.take i):=by rw[oV];simp
  have f2:(ext ((ps.take i).foldl ext [[]]) p).length=zC (ps.take (i+1)):=by
   have:(ps.take (i+1)).foldl ext [[]]=ext ((ps.take i).foldl ext [[]]) p:=by rw[tk,foldl_append];rfl
   rw[<- this,oV];simp
  have fl:∀a∈(ps.take i).foldl ext [[]],a.length<=i:=by
   rw[tL];intro a m;have:=(gH.mp m).len;rw[this,iy];omega
  have z:=fun u1 u2 u3 u4 u5=>hN [some (.d (.tuple (ps.map bF))),some (.d (.list ((ext ((ps.take i).foldl ext [[]]) p).map aB))),u1,u2,u3,u4,u5] [] ⟨u1,u2,u3,u4,u5,rfl,by rw[tk,foldl_append];rfl⟩;generalize (ps.take i).foldl ext [[]]=found at f1 f2 fl z ⊢;rw[CP];walk_at "d";walk_at "n";walk_at "n";refine fD (fun j δ S=>∃(u:Option XV),S=[(ext (found.take j) p).map aB]/\δ=[some (.d (.tuple (ps.map bF))),some (.d (.list (found.map aB))),some (.d (.str p.1)),some (.d (.int p.2.1)),some (.d (.int p.2.2)),some (.l 0),u]) ⟨_,rfl,rfl⟩ ?_ ?_
  ·rintro j d _ _ N' hj ⟨u,rfl,rfl⟩ ac;obtain⟨a,ha,rfl⟩:=eE hj;have aa:=zI ha;have al:=fl a (cj ha);have ej:ext (found.take (j+1)) p=ext (found.take j) p++(cR p).map fun x=>a++[x]:=by
    rw[aa];unfold ext;rw[List.flatMap_append];simp
   have lj:(ext (found.take (j+1)) p).length<=(ext found p).length:=by
    rw[oP,oP,iy];exact Nat.mul_le_mul_right _ yw
   have pl:(p.2.2-p.2.1+1).toNat<=1000:=by
    have:=rC p;rw[ej,bx,cg]at lj;omega
   rw[aB];walk_at "d";refine cmp1 (S0:=[(ext (found.take j) p).map aB]) (fun k:Nat=>aB (a++[p.2.1+(0+(k:Int))])) rfl (dj (p.2.2-p.2.1+1).toNat) (by simpa using pl) ?_ ?_
   ·intro k mk u acc R' hk;walk_at "d";refine⟨yw,?_⟩;rw[CG];exact hk _
   ·walk_at "d";have er:(dj (p.2.2-p.2.1+1).toNat).map (fun k:Nat=>aB (a++[p.2.1+(0+(k:Int))]))=((cR p).map fun x=>a++[x]).map aB:=by
     unfold cR rng;rw[kj,kj];simp[Function.comp_def]
    rw[er];refine⟨by rw[ej,bx]at lj;simp only[cg,length_range]at lj ⊢;rw[rC]at lj;omega,ac _ _ ⟨_,by rw[ej,jc],rfl⟩⟩
  ·rintro _ _ ⟨u,rfl,rfl⟩;rw[cg,ie];walk_at "d";exact z _ _ _ _ _
 ·rintro _ _ ⟨u1,u2,u3,u4,u5,rfl,rfl⟩;rw[cg,ie,tL];walk_at "d";exact q
end
section
variable {R:RX}{S:Sto}
structure Wds(ws:List Int):Prop where
 l1:1<=ws.length
 l8:ws.length<=8
 pos:∀x∈ws,1<=x
 le:∀x∈ws,x<=300
 prod:cB (ws.map Int.toNat)<=300
theorem prod3:∀{ws:List Int},(∀x∈ws,1<=x/\x<=3)->cB (ws.map Int.toNat)<=3 ^ ws.length
 | [],_=>by simp[cB]
 |x::ws,h=>by
  have h1:=h x ck;have h2:=prod3 fun y m=>h y (bw _ m);rw[dq,cB,cn,Nat.pow_succ,Nat.mul_comm];exact Nat.mul_le_mul h2 yw
theorem wds3{ws:List Int}(l1:1<=ws.length)(l4:ws.length<=4)(h:∀x∈ws,1<=x/\x<=3):Wds ws:=by
 refine⟨l1,yw,fun x m=>(h x m).1,fun x m=>by have:=(h x m).2;omega,ip (prod3 h) ?_⟩;have:ws.length=1\/ws.length=2\/ws.length=3\/ws.length=4:=yw
 rcases this with e|e|e|e<;>rw[e]<;>decide
theorem Iy{Q names number:PN}{p:List bd}{m:Int}(hQ:Q=fun xs S R=>(zS (aA (aL 0 1 names (zc (zj 0) zo)) (zm 2)) (zS (aA (bK [none,some 0] (bY (zc (dOp aF (dC (.int 1)) (aL 0 2 zy (zc (zj 0) (zc (zj 1) zo)))) zo)) (zm 0) aK (dOp aF (dC (.int 1)) (aL 0 2 zy (zc (zj 1) (zc (dC (.int 3)) zo))))) (zm 3)) (zS (aJ (dB (dOp aT (aL 0 2 zy (zc (zj 0) (zc (dC (.int 12)) zo))) (dC (.int 0)))) (aA (dOp dIx (aO (zc (dOp bH (aO (zc (dC (.int 2)) zo)) (dC (.int 8))) (zc (aO (zc (dC (.int 17)) (zc (dC (.int 17)) zo))) (zc (aO (zc (dC (.int 300)) zo)) (zc (dOp bH (aO (zc (dC (.int 1)) zo)) (dC (.int 8))) zo))))) (aL 0 2 zy (zc (zj 0) (zc (dC (.int 4)) zo)))) (zm 3)) aH) (zS (aA (cC zo) (zm 4)) (zS (bI (bY (zc (dCB bN (zc (zj 3) zo)) zo)) (zm 5) (zS (aA (aL 0 1 number (zc (zj 0) zo)) (zm 6)) (bV (dBM eY (zj 4) (zc (aI (zc (dOp dIx (zj 2) (zj 5)) (zc (zj 6) (zc (dOp (dI0 fun i j=>i-j) (dOp aF (zj 6) (dOp dIx (zj 3) (zj 5))) (dC (.int 1))) zo)))) zo))))) (aC (dCB dH (zc (zj 4) zo)))))))) (aD S.length R) (xs.map some++bg 5 none) S)
  (hnames:∀{p:List bd}{R:RX},aS p->(∀(ns:List Str) p',ns.length=8->(∀z∈ns,hU z=true)->aS p'->R (.d (.list (ns.map lg))) [p'])->names [.l 0] [p] R)
  (hnumber:∀{p:List bd}{R:RX},aS p->(∀r p',-10 ^ 58<=r->r<=10 ^ 58->aS p'->R (.d (.int r)) [p'])->number [.l 0] [p] R)
  (hp:aS p) (m1:0<m) (m4:m<=4) (q:∀(ps:List Part) p',Drw ps->zC ps<=300->aS p'->R (.d (aG ps)) [p']):Q [.l 0,.d (.int m)] [p] R:=by
 subst hQ;walk_at "d"
 walk_at "n"
 refine hnames hp fun ns p1 hn hz ag=>?_;walk_at "d"
 walk_at "n"
 refine zF ag m1 (rG m1 yw) fun r p2 r0 r1 ai=>?_;walk_at "d";refine Bc (α:=Int) (fun x=>1<=x/\x<=3) bp (fun τ=>∃u,τ=[u,some (.l 0)]) _ [] p2 _ ⟨_,rfl⟩ ai (by rw[kF];simp;omega) ?_ ?_
 ·rintro d md _ p acc R' ⟨u,rfl⟩ hp hk;walk_at "d";refine zF hp dz (by decide +kernel) fun r p' r0 r1 am=>?_;walk_at "d";exact hk _ _ p' ⟨_,rfl⟩ am ⟨yw,yw⟩
 ·intro ws p3 ac hw hl;rw[kF]at hl;have aa:Wds ws:=wds3 yw yw hw;rw[nil_append];walk_at "d";refine cut (fun δ S=>∃(p:List bd) (ws:List Int),aS p/\Wds ws/\S=[p]/\δ=[some (.l 0),some (.d (.int m)),some (.d (.list (ns.map lg))),some (.d (.list (ws.map bp))),none,none,none]) (fun N hN=>?_) ?_
  ·walk_at "d";refine zF ac dz (by decide +kernel) fun r2 p4 r3 r4 ae=>?_;walk_at "d";split
   ·refine zF ae dz (by decide +kernel) fun r5 p5 r6 r7 al=>?_;obtain⟨d,ed,af,rfl,aj⟩:=lJ (P:=fun d=>∃ws:List Int,d=.list (ws.map bp)/\Wds ws) (ds:=[PyData.list (bg 8 [bp 2]).flatten,.list [.int 17,.int 17],.list [.int 300],.list (bg 8 [bp 1]).flatten]) r6 r7 (by
     intro d m;simp only[gj,fj,or_false]at m;rcases m with rfl|rfl|rfl|rfl
     ·exact⟨[2,2,2,2,2,2,2,2],rfl,by decide,by decide,by decide,by decide,by decide⟩
     ·exact⟨[17,17],rfl,by decide,by decide,by decide,by decide,by decide⟩
     ·exact⟨[300],rfl,by decide,by decide,by decide,by decide,by decide⟩
     ·exact⟨[1,1,1,1,1,1,1,1],rfl,by decide,by decide,by decide,by decide,by decide⟩)
    walk_at "d";refine⟨_,ed,hN _ _ ⟨p5,af,al,aj,rfl,rfl⟩⟩
   ·exact hN _ _ ⟨p4,ws,ae,aa,rfl,rfl⟩
  rintro _ _ ⟨p,ws,hp,aa,rfl,rfl⟩;have w8:=aa.l8
  walk_at "n"
  walk_at "n";refine fD (fun i δ S=>∃(p:List bd) (ps:List Part) (u1 u2:Option XV),aS p/\ps.length=i/\(∀p∈ps,Prt p)/\ps.map (fun p=>(p.2.2-p.2.1+1).toNat)=(ws.take i).map Int.toNat/\S=[p,ps.map bF]/\δ=[some (.l 0),some (.d (.int m)),some (.d (.list (ns.map lg))),some (.d (.list (ws.map bp))),some (.l 1),u1,u2]) ⟨p,[],_,_,hp,rfl,yv,rfl,rfl,rfl⟩ ?_ ?_
  ·rintro i d _ _ N hi ⟨p,ps,u1,u2,hp,hl,ha,hs,rfl,rfl⟩ hN;obtain⟨ah,rfl⟩:=r9 hi;have iw:i<ws.length:=by simpa using ah
   have i8:i<ns.length:=yw
   have e:=kG (f:=lg) (bq i8);have ew:=kG (f:=bp) (bq iw);have w1:=aa.pos _ (getElem_mem iw);have an:=aa.le _ (getElem_mem iw);have e0:(0:Int)+(i:Int)=(i:Int):=yw
   walk_at "d"
   walk_at "n"
   refine hnumber hp fun lo p3 h1 h2 ac=>?_;walk_at "d";rw[e0];refine⟨_,e,?_⟩;walk_at "d";refine⟨_,ew,?_⟩;walk_at "d";refine⟨yw,hN _ _ ⟨p3,ps++[(ns[i],lo,lo+ws[i]-1)],_,_,ac,by simp[hl],fun x hx=>?_,?_,by simp[bF],rfl⟩⟩
   ·rcases mem_append.mp hx with hx|hx
    ·exact ha x hx
    ·rw[mem_singleton.mp hx];exact⟨hz _ (getElem_mem i8),by simp only;omega,h1,by simp only;omega⟩
   ·rw[jc,hs,zI (bq iw),jc];congr 1;simp only[dq,map_nil,List.cons.injEq,and_true];omega
  ·rintro _ _ ⟨p,ps,u1,u2,hp,hl,ha,hs,rfl,rfl⟩;rw[kF]at hl hs;have ak:(ws.length:Int).toNat=ws.length:=by simp
   rw[ak]at hl hs;rw[ie]at hs;walk_at "d";have ao:=aa.l1;exact q ps p ⟨yw,yw,ha⟩ (by unfold zC;rw[hs];exact aa.prod) hp
theorem JE{p:List bd}{m:Int}(hp:aS p)(m1:0<m)(m4:m<=4)(q:∀(ps:List Part) p',Drw ps->zC ps<=300->aS p'->R (.d (aG ps)) [p']):uB [.l 0,.d (.int m)] [p] R:=
 Iy (names:=mY) (number:=mU) rfl Gw HD hp m1 m4 q
theorem By:∀(a b:List Int),PyData.eqvAll (a.map bp) (b.map bp)=decide (a=b)
 | [],[]=>rfl
 | [],_::_=>rfl
 |_::_,[]=>rfl
 |x::a,y::b=>by
  show (gx (.int x) (.int y)&&PyData.eqvAll (a.map bp) (b.map bp))=_;rw[g7,By a b];by_cases h1:x=y<;>by_cases h2:a=b<;>simp[h1,h2]
theorem Dy(a b:List Int):gx (aB a) (aB b)=decide (a=b):=By a b
theorem F2{n:Nat}(a:List Int):Shp (n+1) (aB a):=DV (tD fun _ _=>vP)
theorem qJ(a:List Int):cu (aB a)=true:=(F2 (n:=0) a).ok
theorem An{a b:List Int}{d:bd}(hd:eO (.d d)=some (b.map bp))(hl:a.length<=100)(q:R (.d (.bool (decide (a=b)))) []):lV [.d (aB a),.d d] [] R:=by
 have z:∀S,jC S (.d d)=some b.length/\asQ S (.d d)=some (b.map bp):=by
  intro S;unfold eO at hd;split at hd
  ·cases hd;rename_i e;cases e;exact⟨by simp[jC],rfl⟩
  ·cases hd;rename_i e;cases e;exact⟨by simp[jC],rfl⟩
  ·cases hd
 unfold lV;walk_at "d";refine seq1 ?_;rw[aB];walk_at "d";refine⟨_,(z _).1,?_⟩;by_cases he:a.length=b.length
 ·rw[bv yw];refine cmp1 (S0:=[]) (fun n:Int=>.bool true) rfl a yw ?_ ?_
  ·intro n mn u acc R' hk;walk_at "d";refine vN ?_;simp only[CI];walk_at "d";exact hk _
  ·walk_at "d";refine⟨a.map fun _=>true,by rw[kj];rfl,?_⟩;have ea:(a.map fun _=>true).all id=true:=by simp
   rw[ea];walk_at "d";refine⟨_,(z _).2,?_⟩;walk_at "d";rw[<- aB,<- aB];refine⟨qJ a,qJ b,?_⟩;rw[Dy];exact q
 ·rw[cy yw];have e2:decide (a=b)=false:=by simp;exact fun h=>he (by rw[h])
  rw[e2]at q;exact q
end
section
variable {R:RX}{S:Sto}
abbrev Off:=Int×Int×Int
def offer(os:List (List Off))(ks:List Nat)(i:Nat):Off:=(os.getD i []).getD (ks.getD i 0) (0,0,0)
end
section
variable {R:RX}
theorem wZ{ps:List Part}{i:Nat}{p:Part}(e:ps[i]?=some p):zC (ps.take (i+1))=zC (ps.take i)*(p.2.2-p.2.1+1).toNat:=by
 unfold zC;rw[zI e,jc,lM];simp[cB]
theorem FX{ps:List Part}(ho:Ord ps)(hs:zC ps<=300)(q:R (.d (.int (zC ps))) []):jL [.d (aG ps)] [] R:=by
 unfold jL;rw[aG];walk_at "d"
 walk_at "n"
 walk_at "n";refine fD (fun i δ S=>∃(u:Option XV),S=[]/\δ=[some (.d (.tuple (ps.map bF))),some (.d (.int (zC (ps.take i)))),u]) ⟨_,rfl,rfl⟩ ?_ ?_
 ·rintro i d _ _ N hi ⟨u,rfl,rfl⟩ hN;obtain⟨p,e,rfl⟩:=eE hi;have op:=ho p (cj e);have l1:=jF ho i;walk_at "d";refine Cz ?_;walk_at "d";refine BV ?_;walk_at "d";refine⟨dS yw yw,hN _ _ ⟨some (.d (bF p)),rfl,?_⟩⟩;rw[wZ e,Int.natCast_mul,Int.toNat_of_nonneg yw]
 ·rintro _ _ ⟨u,rfl,rfl⟩;rw[cg,ie];walk_at "d";exact q
theorem Kr{ps:List Part}(ho:Ord ps)(hs:zC ps<=300)(q:R (.d .none) []):rA [.d (aG ps)] [] R:=by
 unfold rA;walk_at "d"
 walk_at "n"
 refine FX ho hs ?_;walk_at "d";have:¬(300:Int)<(zC ps:Int):=yw
 simp only[this,decide_false];walk_at "d";exact q
theorem Ga(p:Part):fU p.2.1 (p.2.2+1-p.2.1).toNat=(cR p).map bp:=by
 unfold fU cR rng;rw[kj,show p.2.2+1-p.2.1=p.2.2-p.2.1+1 by omega];rfl
theorem Er{z:List (List Int)}{p:Part}(hl:(ext z p).length<=1000)(fl:∀a∈z,a.length<=100)(h1:1<=z.length)(q:R (.d (.list ((ext z p).map aB))) []):n8 [.d (.list (z.map aB)),.d (.list ((cR p).map bp))] [] R:=by
 unfold n8;walk_at "d"
 walk_at "n"
 walk_at "n";refine fD (fun j δ S=>∃(u:Option XV),S=[(ext (z.take j) p).map aB]/\δ=[some (.d (.list (z.map aB))),some (.d (.list ((cR p).map bp))),some (.l 0),u]) ⟨_,rfl,rfl⟩ ?_ ?_
 ·rintro j d _ _ N hj ⟨u,rfl,rfl⟩ hN;obtain⟨a,ha,rfl⟩:=eE hj;have al:=fl a (cj ha);have ej:ext (z.take (j+1)) p=ext (z.take j) p++(cR p).map fun x=>a++[x]:=by
   rw[zI ha];unfold ext;rw[List.flatMap_append];simp
  have lj:(ext (z.take (j+1)) p).length<=(ext z p).length:=by
   rw[oP,oP,iy];exact Nat.mul_le_mul_right _ yw
  have sm:(ext (z.take j) p).length+(cR p).length<=1000:=by
   rw[ej,bx,cg]at lj;omega
  rw[aB];walk_at "d";refine cmp1 (S0:=[(ext (z.take j) p).map aB]) (fun x:Int=>aB (a++[x])) rfl (cR p) yw ?_ ?_
  ·intro x mx u acc R' hk;walk_at "d";refine⟨yw,?_⟩;rw[CG];exact hk _
  ·walk_at "d";refine⟨sm,hN _ _ ⟨_,?_,rfl⟩⟩;rw[ej,jc,kj];rfl
 ·rintro _ _ ⟨u,rfl,rfl⟩;rw[cg,ie];walk_at "d";exact .inl q
theorem LD{ps:List Part}(ho:Ord ps)(z:ps.length<=100)(hs:zC ps<=300)(q:R (.d (.list ((aN ps).map aB))) []):rM [.d (aG ps)] [] R:=by
 unfold rM;walk_at "d"
 walk_at "n"
 refine Kr ho hs ?_;rw[aG];walk_at "d"
 walk_at "n"
 walk_at "n";refine fD (fun i δ S=>∃(u:Option XV),S=[]/\δ=[some (.d (.tuple (ps.map bF))),some (.d (.list (((ps.take i).foldl ext [[]]).map aB))),u]) ⟨_,rfl,rfl⟩ ?_ ?_
 ·rintro i d _ _ N hi ⟨u,rfl,rfl⟩ hN;obtain⟨p,e,rfl⟩:=eE hi;have op:=ho p (cj e);have l1:=jF ho i;have l2:=jF ho (i+1);have il:i<ps.length:=(List.getElem?_eq_some_iff.mp e).1;have f1:((ps.take i).foldl ext [[]]).length=zC (ps.take i):=by rw[oV];simp
  have nx:(ps.take (i+1)).foldl ext [[]]=ext ((ps.take i).foldl ext [[]]) p:=by rw[zI e,foldl_append];rfl
  have f2:(ext ((ps.take i).foldl ext [[]]) p).length=zC (ps.take (i+1)):=by
   rw[<- nx,oV];simp
  have fl:∀a∈(ps.take i).foldl ext [[]],a.length<=100:=by
   rw[tL];intro a m;have:=(gH.mp m).len;rw[this,iy];omega
  have pos:1<=zC (ps.take i):=wC fun p m=>ho p (List.mem_of_mem_take m);have pl:(p.2.2+1-p.2.1).toNat<=1000:=by
   have e1:=wZ e;have e2:(p.2.2-p.2.1+1).toNat<=zC (ps.take i)*(p.2.2-p.2.1+1).toNat:=Nat.le_mul_of_pos_left _ pos;omega
  rw[CP];walk_at "d";refine⟨pl,?_⟩;rw[Ga];refine Er yw fl yw ?_;walk_at "d";exact hN _ _ ⟨_,rfl,by rw[nx]⟩
 ·rintro _ _ ⟨u,rfl,rfl⟩;rw[cg,ie,tL];walk_at "d";exact q
def cD(c:List Nat):bd:=.tuple (c.map fun k:Nat=>.int k)
end
section
variable {R:RX}{S:Sto}
theorem Ib{g:Gap}{ns:List Int}(h3:Tm3 ns.length g.ts)(q:R (.d (.bool (fM g ns))) []):sI [.d (bE g),.d (aB ns)] [] R:=by
 unfold sI aB;rw[qU,rS];walk_at "d"
 walk_at "n"
 refine cmp2 (S0:=[]) (fun t:Term=>.int (t.2*ns.getD t.1 0)) rfl g.ts (by have:=h3.len;omega) ?_ ?_
 ·intro t mt u v acc R' hk;obtain⟨t1,t2,t3⟩:=h3.ok t mt;have e:=kG (f:=bp) (vL t1);rw[Bq];walk_at "d";refine⟨_,e,?_⟩;walk_at "d";exact⟨dS yw yw,hk _ _⟩
 ·walk_at "d";refine⟨g.ts.map fun t:Term=>t.2*ns.getD t.1 0,by rw[kj];rfl,?_⟩;have e0:fM g ns=decide (g.lo<=worth g.ts ns/\worth g.ts ns<=g.hi):=rfl;have e1:(g.ts.map fun t:Term=>t.2*ns.getD t.1 0).sum=worth g.ts ns:=rfl;rw[e1];rw[e0]at q;split
  ·rename_i h1;simpa[h1]using q
  ·rename_i h1;simpa[h1]using q
def atC(ns:List Int)(c:List Nat):List Int:=c.map fun k=>ns.getD k 0
theorem AS{ns:List Int}{c:List Nat}(hc:∀k∈c,k<ns.length)(hl:c.length<=100)(q:R (.d (aB (atC ns c))) []):rW [.d (aB ns),.d (cD c)] [] R:=by
 unfold rW aB cD;walk_at "d";refine cmp1 (S0:=[]) (fun k:Nat=>.int (ns.getD k 0)) rfl c yw ?_ ?_
 ·intro k mk u acc R' hk;walk_at "d";exact⟨_,kG (f:=bp) (vL (hc k mk)),hk _⟩
 ·walk_at "d";have e:(c.map fun k:Nat=>bp (ns.getD k 0))=(atC ns c).map bp:=by unfold atC;rw[kj];rfl
  rw[e];exact q
theorem nW{ns:List Int}{c:List Nat}(hc:∀k∈c,k<ns.length)(hl:c.length<=100)(q:R (.d (aB (atC ns c))) []):mF [.d (aB ns),.d (cD c)] [] R:=AS hc hl q
def unI:bd->Int
 | .int k=>k
 |_=>0
end
section
variable {R:RX}
abbrev KB:KSg:=.two (.many .int) .bool
abbrev Fs:=List ((List Int×Bool)×List Int)
abbrev Lks:=List (List Int×Bool)
def j7(p:List Int×Bool):bd:=.tuple [aB p.1,.bool p.2]
theorem Im(p:List Int×Bool):j7 p=.tuple [aB p.1,.bool p.2]:=rfl
def aX(ps:List Part)(g:Gap):Lks:=(aN ps).map fun s=>(s,fM g s)
def eG(c:List Nat)(m:Fs)(p:List Int×Bool):Fs:=if (lkA m (atC p.1 c,p.2)).isSome=true then m else m++[((atC p.1 c,p.2),p.1)]
def frs(c:List Nat)(z:Lks):Fs:=z.foldl (eG c) []
theorem jJ(c:List Nat)(l:Lks)(p:List Int×Bool):frs c (l++[p])=eG c (frs c l) p:=by
 unfold frs;rw[foldl_append];rfl
def mD(m:Fs):List (KG KB×bd):=m.map fun q=>(q.1,aB q.2)
theorem Dl(r:List Int)(b:Bool):kdat KB (r,b)=.tuple [aB r,.bool b]:=by
 show PyData.tuple [.tuple (List.map (kdat .int) r),.bool b]=_;rfl
theorem sP{κ α:Type}[DecidableEq κ]{p:κ×α}{r:List (κ×α)}{k:κ}(h:p.1=k):lkA (p::r) k=some p.2:=by simp[lkA,h]
theorem mL{κ α:Type}[DecidableEq κ]{p:κ×α}{r:List (κ×α)}{k:κ}(h:p.1≠k):lkA (p::r) k=lkA r k:=by simp[lkA,h]
theorem wR(k:List Int×Bool):∀m:Fs,lkA (κ:=KG KB) (mD m) k=(lkA m k).map aB
 | []=>rfl
 |q::r=>by
  by_cases e:q.1=k
  ·exact(sP (κ:=KG KB) (p:=(q.1,aB q.2)) (r:=mD r) e).trans (by rw[sP e];rfl)
  ·exact(mL (κ:=KG KB) (p:=(q.1,aB q.2)) (r:=mD r) e).trans (by rw[mL e];exact wR k r)
def onF(m:Fs)(q:(List Int×Bool)×List Int):Option (List Int×List Int):=if q.1.2=true then (lkA m (q.1.1,false)).map fun y=>(q.2,y)else none
def twF(c:List Nat)(z:Lks):Option (List Int×List Int):=(frs c z).findSome? (onF (frs c z))
def twD:Option (List Int×List Int)->bd
 |none=>.none
 |some p=>.tuple [aB p.1,aB p.2]
theorem yO{m:Fs}{k:List Int×Bool}{x:List Int}(h:lkA m k=some x):(k,x)∈m:=by
 unfold lkA at h;obtain⟨q,e,e2⟩:=map_eq_some_iff.mp h;have h1:=List.find?_some e;have h2:=List.mem_of_find?_eq_some e;have h3:=of_decide_eq_true h1;obtain⟨q1,q2⟩:=q;cases h3;cases e2;exact h2
theorem CQ{m r:Fs}{k:List Int×Bool}(h:(lkA m k).isSome=true):lkA (m++r) k=lkA m k:=by
 unfold lkA at h ⊢;rw[List.find?_append];cases e:m.find? fun p=>decide (p.1=k)with
 |none=>rw[e]at h;cases h
 |some q=>rfl
structure Fi(c:List Nat)(l:Lks)(m:Fs):Prop where
 of:∀q∈m,∃p∈l,q=((atC p.1 c,p.2),p.1)
 has:∀p∈l,(lkA m (atC p.1 c,p.2)).isSome=true
theorem Fi.step{c:List Nat}{l:Lks}{m:Fs}{p:List Int×Bool}(h:Fi c l m):Fi c (l++[p]) (eG c m p):=by
 unfold eG;split
 ·rename_i e;refine⟨fun q mq=>?_,fun x mx=>?_⟩
  ·obtain⟨y,my,rfl⟩:=h.of q mq;exact⟨y,cq _ my,rfl⟩
  ·rcases mem_append.mp mx with mx|mx
   ·exact h.has x mx
   ·rw[mem_singleton.mp mx];exact e
 ·rename_i e;refine⟨fun q mq=>?_,fun x mx=>?_⟩
  ·rcases mem_append.mp mq with mq|mq
   ·obtain⟨y,my,rfl⟩:=h.of q mq;exact⟨y,cq _ my,rfl⟩
   ·exact⟨p,yv,mem_singleton.mp mq⟩
  ·rcases mem_append.mp mx with mx|mx
   ·rw[CQ (h.has x mx)];exact h.has x mx
   ·rw[mem_singleton.mp mx];unfold lkA;rw[List.find?_append];cases m.find? fun q=>decide (q.1=(atC p.1 c,p.2))with
    |none=>simp
    |some q=>rfl
theorem Ci(c:List Nat)(l:Lks):∀n,n<=l.length->Fi c (l.take n) (frs c (l.take n))
 | 0,_=>by
  rw[take_zero];exact⟨fun q m=>(by cases m),fun p m=>(by cases m)⟩
 |n+1,h=>by
  rw[zI (bq (show n<l.length by omega)),jJ];exact(Ci c l n yw).step
theorem wY(c:List Nat)(l:Lks):Fi c l (frs c l):=by
 have:=Ci c l l.length (cw _)
 rwa [ie]at this
theorem tw_some{c:List Nat}{l:Lks}{x y:List Int}(h:twF c l=some (x,y)):(x,true)∈l/\(y,false)∈l/\atC x c=atC y c:=by
 unfold twF at h;obtain⟨q,mq,hq⟩:=List.exists_of_findSome?_eq_some h;unfold onF at hq;split at hq
 ·rename_i e;obtain⟨z,ez,e2⟩:=map_eq_some_iff.mp hq;obtain⟨p,mp,rfl⟩:=(wY c l).of q mq;obtain⟨p',aa,e3⟩:=(wY c l).of _ (yO ez);cases e2;rw[Prod.mk.injEq,Prod.mk.injEq]at e3;obtain⟨⟨e4,e5⟩,e6⟩:=e3;obtain⟨p1,p2⟩:=p;obtain⟨ae,ac⟩:=p';simp only at e e4 e5 e6 ⊢;subst e e6;rw[<- e5]at aa;exact⟨mp,aa,e4⟩
 ·cases hq
theorem wH{ps:List Part}{g:Gap}{x:List Int}{b:Bool}:(x,b)∈aX ps g↔InBox ps x/\fM g x=b:=by
 unfold aX;rw[mem_map];constructor
 ·rintro⟨s,ms,e⟩;cases e;exact⟨gH.mp ms,rfl⟩
 ·rintro⟨h,rfl⟩;exact⟨x,gH.mpr h,rfl⟩
theorem rH{g:DG}{b:DSm}{E:DEndsM}:∀{ds:List bd}{δ:XE}{S:Sto}{M:DM} (I:Nat->XE->Sto->DM->Prop),I 0 δ S M ->
  (∀i d δ S M (N:XE->Sto->DM->Prop),ds[i]?=some d->I i δ S M->(∀ δ' S' M',I (i+1) δ' S' M'->N δ' S' M')->g (.d d) δ S fun δ1 S1=>b { nx:=N,ct:=N,bk:=E.nx,rt:=E.rt } δ1 S1 M) ->
  (∀ δ S M,I ds.length δ S M->E.nx δ S M)->hV g b ds E δ S M
 | [],δ,S,M,I,h0,_,fin=>fin δ S M h0
 |d::ds,δ,S,M,I,h0,step,fin=>by
  show g (.d d) δ S fun δ1 S1=>b _ δ1 S1 M;refine step 0 d δ S M _ rfl h0 fun δ' S' M' h1=>?_;exact rH (ds:=ds) (fun i=>I (i+1)) h1 (fun i e δ S M N hi=>step (i+1) e δ S M N (by simpa using hi)) fin
theorem AJ{a:Addr}{D0:L2.DD}{g:DG}{b:DSm}{E:DEndsM}:∀{ds:List bd}{δ:XE}{S:Sto}{M:DM} (I:Nat->XE->Sto->DM->Prop),I 0 δ S M->(∀i δ S M,I i δ S M->(a,D0)∈M) ->
  (∀i d δ S M (N:XE->Sto->DM->Prop),ds[i]?=some d->I i δ S M->(∀ δ' S' M',I (i+1) δ' S' M'->N δ' S' M')->g (.d d) δ S fun δ1 S1=>b { nx:=N,ct:=N,bk:=E.nx,rt:=E.rt } δ1 S1 M) ->
  (∀ δ S M,I ds.length δ S M->E.nx δ S M)->dmLoopG a D0 g b ds E δ S M
 | [],δ,S,M,I,h0,hm,_,fin=>⟨hm _ _ _ _ h0,fin δ S M h0⟩
 |d::ds,δ,S,M,I,h0,hm,step,fin=>by
  refine⟨hm _ _ _ _ h0,?_⟩;show g (.d d) δ S fun δ1 S1=>b _ δ1 S1 M;refine step 0 d δ S M _ rfl h0 fun δ' S' M' h1=>?_;exact AJ (ds:=ds) (fun i=>I (i+1)) h1 (fun i=>hm (i+1)) (fun i e δ S M N hi=>step (i+1) e δ S M N (by simpa using hi)) fin
theorem B5(c:List Nat)(l:Lks):(frs c l).length<=l.length:=by
 have:∀n,n<=l.length->(frs c (l.take n)).length<=n:=by
  intro n;induction n with
  |zero=>intro _;rw[take_zero];exact cw _
  |succ n ih=>
   intro h;rw[zI (bq (show n<l.length by omega)),jJ];have:=ih yw;unfold eG;split
   ·omega
   ·rw[bx,fb];omega
 have:=this l.length (cw _)
 rwa [ie]at this
def itF(q:(List Int×Bool)×List Int):bd:=.tuple [.tuple [aB q.1.1,.bool q.1.2],aB q.2]
theorem IM(q:(List Int×Bool)×List Int):itF q=.tuple [.tuple [aB q.1.1,.bool q.1.2],aB q.2]:=rfl
theorem Jr(F:Fs):i7 KB (mD F)=F.map itF:=by
 unfold i7 mD;rw[kj];rfl
theorem Az{α β:Type}(f:α->Option β){l:List α}{i:Nat}{p:α}(ep:l[i]?=some p)(hn:(l.take i).findSome? f=none):l.findSome? f=(f p).or ((l.drop (i+1)).findSome? f):=by
 conv=>lhs;rw[<- jr (i+1) l]
 rw[ja,zI ep,ja,hn];simp
theorem K6{aa:Lks}{c:List Nat}(hl:aa.length<=300)(hc:∀p∈aa,∀k∈c,k<p.1.length)(ag:c.length<=100)(q:R (.d (twD (twF c aa))) []):kH [.d (.list (aa.map j7)),.d (cD c)] [] R:=by
 unfold kH;walk_at "n";intro a _;walk_at "d";refine seqm ?_;walk_at "d";refine rH (fun i δ S M=>∃(u3 u4:Option XV) (ob:Obj),S=[]/\M=[(a,L2.DD.g KB ob (mD (frs c (aa.take i))))]/\δ=[some (.d (.list (aa.map j7))),some (.d (cD c)),some (.o (.ref a)),u3,u4,none,none]) ⟨_,_,ob0,rfl,rfl,rfl⟩ ?_ ?_
 ·rintro i d _ _ _ N hi ⟨u3,u4,ob,rfl,rfl,rfl⟩ hN;obtain⟨p,ep,rfl⟩:=eE hi;have mp:=cj ep;have ae:i<aa.length:=(List.getElem?_eq_some_iff.mp ep).1;rw[Im];walk_at "d";refine⟨a,ob,mD (frs c (aa.take i)),rfl,yv,?_⟩;walk_at "d";refine AS (hc p mp) ag ?_;walk_at "d";obtain⟨kp,ek⟩:∃kp:List Int×Bool,kp=(atC p.1 c,p.2):=⟨_,rfl⟩;refine⟨kp,by rw[ek];exact(Dl _ _).symm,?_,?_⟩
  ·have:=B5 c (aa.take i);rw[iy]at this;show (List.map _ _).length<1000;rw[cg];omega
  ·have ef:frs c (aa.take (i+1))=eG c (frs c (aa.take i)) p:=by rw[zI ep,jJ]
   unfold eG at ef;rw[<- ek]at ef;rw[wR kp,nz];split
   ·rename_i hs;rw[cy hs]at ef;exact hN _ _ _ ⟨_,_,ob,rfl,by rw[ef],rfl⟩
   ·rename_i hs;rw[bv hs]at ef;intro af;refine hN _ _ _ ⟨_,_,af,rfl,?_,rfl⟩;rw[ef];simp only[eV,dq,map_nil,if_true];rw[show mD (frs c (aa.take i)++[(kp,p.1)])=mD (frs c (aa.take i))++[Prod.mk (α:=KG KB) kp (aB p.1)]from jc]
 ·rintro _ _ _ ⟨u3,u4,ob,rfl,rfl,rfl⟩;rw[cg,ie];unfold twF at q;generalize frs c aa=F at q ⊢;walk_at "d";refine⟨a,ob,mD F,rfl,yv,?_⟩;rw[Jr];refine AJ (fun i δ S M=>∃(u3 u4 u5 u6:Option XV),(F.take i).findSome? (onF F)=none/\S=[]/\M=[(a,L2.DD.g KB ob (mD F))]/\δ=[some (.d (.list (aa.map j7))),some (.d (cD c)),some (.o (.ref a)),u3,u4,u5,u6]) ⟨_,_,_,_,rfl,rfl,rfl,rfl⟩ (by rintro i _ _ _ ⟨_,_,_,_,_,_,rfl,_⟩;simp) ?_ ?_
  ·rintro i d _ _ _ N hi ⟨u3,u4,u5,u6,hn,rfl,rfl,rfl⟩ hN;obtain⟨p,ep,rfl⟩:=eE hi;have ae:i<F.length:=(List.getElem?_eq_some_iff.mp ep).1;have et:=Az (onF F) ep hn;rw[IM];walk_at "d";refine seqm ?_;walk_at "d";refine⟨a,ob,mD F,rfl,yv,?_⟩;walk_at "d";obtain⟨kp,ek⟩:∃kp:List Int×Bool,kp=(p.1.1,false):=⟨_,rfl⟩;refine⟨kp,by rw[ek];exact(Dl _ _).symm,?_⟩;rw[wR kp];have ac:onF F p=none->∀u6,N [some (.d (.list (aa.map j7))),some (.d (cD c)),some (.o (.ref a)),some (.d (aB p.2)),u4,some (.d (.tuple [aB p.1.1,.bool p.1.2])),u6] [] [(a,L2.DD.g KB ob (mD F))]:=fun z u6=>hN _ _ _ ⟨_,_,_,u6,by rw[zI ep,ja,hn];simp[z],rfl,rfl,rfl⟩;obtain⟨⟨p1,p2⟩,p3⟩:=p;cases p2 with
   |false=>
    have z:onF F ((p1,false),p3)=none:=rfl;walk_at "d";exact ac z _
   |true=>
    have z:onF F ((p1,true),p3)=(lkA F (p1,false)).map fun y=>(p3,y):=rfl;cases hk:lkA F (p1,false)with
    |none=>
     rw[hk]at z;rw[ek,hk,Option.map_none,Option.getD_none];walk_at "d";exact ac z _
    |some y=>
     rw[hk]at z;rw[z]at et;rw[et]at q;rw[ek,hk,map_some,Option.getD_some];have hq:R (.d (.tuple [aB p3,aB y])) []:=q;unfold aB at hq ⊢;walk_at "d";exact⟨[],_,rfl,hq⟩
  ·rintro _ _ _ ⟨u3,u4,u5,u6,hn,rfl,rfl,rfl⟩;rw[cg,ie]at hn;rw[hn]at q;exact⟨[],_,rfl,q⟩
theorem Gr{ps:List Part}{g:Gap}(ho:Ord ps)(z:ps.length<=100)(hs:zC ps<=300)(h3:Tm3 ps.length g.ts)(q:R (.d (.list ((aX ps g).map j7))) []):sJ [.d (aG ps),.d (bE g)] [] R:=by
 unfold sJ;walk_at "d";refine LD ho z hs ?_;walk_at "d";refine cmp1 (S0:=[]) (h:=aB) (fun s=>j7 (s,fM g s)) rfl (aN ps) (by rw[oJ];omega) ?_ ?_
 ·intro s ms u acc R' hk;have hb:=gH.mp ms;walk_at "d";refine K1 (by rw[hb.len];exact h3) ?_;walk_at "d";exact hk _
 ·walk_at "d";refine .inl ?_;unfold aX at q;rw[kj]at q;exact q
end
section
variable {R:RX}{S:Sto}
def room(ps:List Part)(ts:List Term)(k:Nat):Int:=(ts.map fun t=>if t.2.natAbs=k then (part ps t.1).2.2-(part ps t.1).2.1 else 0).sum
def few0(s1 s2 r:Int):Int:=if (r-(s1+2*s2)+2)/3>0 then (r-(s1+2*s2)+2)/3 else 0
def few(s1 s2 r:Int):Int:=if s1=0/\(r-few0 s1 s2 r) % 2=1 then few0 s1 s2 r+1 else few0 s1 s2 r
end
section
variable {R:RX}
theorem len2{ds:List bd}(h:ds.length=2):∃x y,ds=[x,y]:=by
 match ds,h with
 | [x,y],_=>exact⟨x,y,rfl⟩
end
section
variable {R:RX}{S:Sto}
inductive Hs:bd->Prop
 |tup {ds:List bd}:(∀x r,ds=x::r->cu x=true)->(∀y∈ds,Hs y)->Hs (.tuple ds)
 |oth {d:bd}:(∀ds,d≠.tuple ds)->Hs d
theorem Hs.hd{x:bd}{r:List bd}(h:Hs (.tuple (x::r))):cu x=true:=by
 cases h with
 |tup h1 h2=>exact h1 x r rfl
 |oth h=>exact absurd rfl (h _)
theorem Hs.item{ds:List bd}(h:Hs (.tuple ds)):∀y∈ds,Hs y:=by
 cases h with
 |tup h1 h2=>exact h2
 |oth h=>exact absurd rfl (h _)
end
section
variable {R:RX}{S:Sto}
def Eo(C:Addr):Str:=if C=37 then "span" else if C=49 then "part" else if C=61 then "set" else if C=161 then "text" else if C=73 then "row" else if C=85 then "unlike" else if C=104 then "drawing" else if C=123 then "gap" else if C=142 then "offer" else "great"
theorem fR{C D:Addr}{fs:List (Str×bd)}(hC:C∈excs)(hD:D∈excs)(q:R (.d (.bool (decide (C=D)))) S):cZ [.x C fs,.o (.ref D)] S R:=⟨C,fs,_,rfl,rfl,hC,.inl ⟨D,rfl,hD,q⟩⟩
theorem FB{C:Addr}{fs:List (Str×bd)}(hC:C∈excs)(q:R (.d (.bool true)) S):cZ [.x C fs,.o (.ty "ValueError")] S R:=⟨C,fs,_,rfl,rfl,hC,.inr ⟨rfl,q⟩⟩
theorem FL{C:Addr}{fs:List (Str×bd)}(hC:C∈excs)(q:R (.d (.str (Eo C))) []):sC [.x C fs] [] R:=by
 unfold sC;walk_at "d"
 walk_at "n"
 refine fR hC dz ?_;walk_at "d";refine fR hC dz ?_;walk_at "d";refine fR hC dz ?_;walk_at "d";refine fR hC dz ?_;walk_at "d"
 walk_at "n"
 refine fR hC dz ?_;walk_at "d";refine fR hC dz ?_;walk_at "d";refine fR hC dz ?_;walk_at "d";refine fR hC dz ?_;walk_at "d"
 walk_at "n"
 refine fR hC dz ?_;walk_at "d";refine fR hC dz ?_;walk_at "d"
 walk_at "n"
 refine FB hC ?_;walk_at "d";refine⟨[decide (C=37),decide (C=49),decide (C=61),decide (C=161),decide (C=73),decide (C=85),decide (C=104),decide (C=123),decide (C=142),decide (C=180)],rfl,?_⟩;have sh:∀bs:List Bool,cu (.list (bs.map ke))=true:=fun bs=>(wO (tD fun _ _=>(CC:Shp 0 _))).ok;simp only[excs,gj,fj,or_false]at hC;rcases hC with rfl|rfl|rfl|rfl|rfl|rfl|rfl|rfl|rfl|rfl
 ·rw[bv dz]
  walk_at "n"
  exact⟨sh [true,false,false,false,false,false,false,false,false,false],0,⟨_,rfl,rfl⟩,(fun m e hm he=>by rcases m with _|_|_|_|_|_|_|_|_|m<;>first|(exfalso;omega)|(cases he;rfl)),_,rfl,q⟩
 ·rw[bv dz]
  walk_at "n"
  exact⟨sh [false,true,false,false,false,false,false,false,false,false],1,⟨_,rfl,rfl⟩,(fun m e hm he=>by rcases m with _|_|_|_|_|_|_|_|_|m<;>first|(exfalso;omega)|(cases he;rfl)),_,rfl,q⟩
 ·rw[bv dz]
  walk_at "n"
  exact⟨sh [false,false,true,false,false,false,false,false,false,false],2,⟨_,rfl,rfl⟩,(fun m e hm he=>by rcases m with _|_|_|_|_|_|_|_|_|m<;>first|(exfalso;omega)|(cases he;rfl)),_,rfl,q⟩
 ·rw[bv dz]
  walk_at "n"
  exact⟨sh [false,false,false,false,true,false,false,false,false,false],4,⟨_,rfl,rfl⟩,(fun m e hm he=>by rcases m with _|_|_|_|_|_|_|_|_|m<;>first|(exfalso;omega)|(cases he;rfl)),_,rfl,q⟩
 ·rw[bv dz]
  walk_at "n"
  exact⟨sh [false,false,false,false,false,true,false,false,false,false],5,⟨_,rfl,rfl⟩,(fun m e hm he=>by rcases m with _|_|_|_|_|_|_|_|_|m<;>first|(exfalso;omega)|(cases he;rfl)),_,rfl,q⟩
 ·rw[bv dz]
  walk_at "n"
  exact⟨sh [false,false,false,false,false,false,true,false,false,false],6,⟨_,rfl,rfl⟩,(fun m e hm he=>by rcases m with _|_|_|_|_|_|_|_|_|m<;>first|(exfalso;omega)|(cases he;rfl)),_,rfl,q⟩
 ·rw[bv dz]
  walk_at "n"
  exact⟨sh [false,false,false,false,false,false,false,true,false,false],7,⟨_,rfl,rfl⟩,(fun m e hm he=>by rcases m with _|_|_|_|_|_|_|_|_|m<;>first|(exfalso;omega)|(cases he;rfl)),_,rfl,q⟩
 ·rw[bv dz]
  walk_at "n"
  exact⟨sh [false,false,false,false,false,false,false,false,true,false],8,⟨_,rfl,rfl⟩,(fun m e hm he=>by rcases m with _|_|_|_|_|_|_|_|_|m<;>first|(exfalso;omega)|(cases he;rfl)),_,rfl,q⟩
 ·rw[bv dz]
  walk_at "n"
  exact⟨sh [false,false,false,true,false,false,false,false,false,false],3,⟨_,rfl,rfl⟩,(fun m e hm he=>by rcases m with _|_|_|_|_|_|_|_|_|m<;>first|(exfalso;omega)|(cases he;rfl)),_,rfl,q⟩
 ·rw[bv dz]
  walk_at "n"
  exact⟨sh [false,false,false,false,false,false,false,false,false,true],9,⟨_,rfl,rfl⟩,(fun m e hm he=>by rcases m with _|_|_|_|_|_|_|_|_|m<;>first|(exfalso;omega)|(cases he;rfl)),_,rfl,q⟩
end
section
variable {R:RX}{S:Sto}{EX:EXD}
theorem Hy{ps:List Part}(ho:Ord ps)(hs:∀i,i<ps.length->zC (ps.take i)<2 ^ 64)(q:R (.d (.int (zC ps))) []):jL [.d (aG ps)] [] R:=by
 unfold jL;rw[aG];walk_at "d"
 walk_at "n"
 walk_at "n";refine fD (fun i δ S=>∃(u:Option XV),S=[]/\δ=[some (.d (.tuple (ps.map bF))),some (.d (.int (zC (ps.take i)))),u]) ⟨_,rfl,rfl⟩ ?_ ?_
 ·rintro i d _ _ N hi ⟨u,rfl,rfl⟩ hN;obtain⟨p,e,rfl⟩:=eE hi;have op:=ho p (cj e);have l1:=hs i (List.getElem?_eq_some_iff.mp e).1;walk_at "d";refine Cz ?_;walk_at "d";refine BV ?_;walk_at "d";refine⟨dS yw yw,hN _ _ ⟨some (.d (bF p)),rfl,?_⟩⟩;rw[wZ e,Int.natCast_mul,Int.toNat_of_nonneg yw]
 ·rintro _ _ ⟨u,rfl,rfl⟩;rw[cg,ie];walk_at "d";exact q
def dL(n:Nat):List (Str×bd):=[("many",.int n),("most",.int 300)]
theorem Ax{ps:List Part}(ho:Ord ps)(h3:300<zC ps)(hs:∀i,i<ps.length->zC (ps.take i)<2 ^ 64)(q:EX 180 (dL (zC ps))):zX [.d (aG ps)] [] R EX:=by
 unfold zX;walk_at "d"
 walk_at "n"
 refine Hy ho hs ?_;walk_at "d";have:(300:Int)<(zC ps:Int):=yw
 simp only[this,decide_true];walk_at "d";exact q
theorem Dk{ps:List Part}(ho:Ord ps)(h3:300<zC ps)(hs:∀i,i<ps.length->zC (ps.take i)<2 ^ 64)(q:EX 180 (dL (zC ps))):m5 [.d (aG ps)] [] R EX:=by
 unfold m5;walk_at "d"
 walk_at "n"
 refine Ax ho h3 hs ?_;exact q
end
section
variable {R:RX}{S:Sto}{EX:EXD}
section
variable {ps:List Part}{g:Gap}
theorem uP(ho:Ord ps)(h3:300<zC ps)(hs:∀i,i<ps.length->zC (ps.take i)<2 ^ 64)(q:EX 180 (dL (zC ps))):kL [.d (aG ps),.d (bE g)] [] R EX:=by
 unfold kL;walk_at "d";exact Dk ho h3 hs q
theorem Cq{d:bd}(ho:Ord ps)(h3:300<zC ps)(hs:∀i,i<ps.length->zC (ps.take i)<2 ^ 64)(q:EX 180 (dL (zC ps))):oA [.d (aG ps),.d (bE g),.d d] [] R EX:=by
 unfold oA;walk_at "d";exact uP ho h3 hs q
theorem E6{d:bd}(ho:Ord ps)(h3:300<zC ps)(hs:∀i,i<ps.length->zC (ps.take i)<2 ^ 64)(q:EX 180 (dL (zC ps))):tM [.d (aG ps),.d (bE g),.d d] [] R EX:=by
 unfold tM;walk_at "d";exact Cq ho h3 hs q
theorem Fa(ho:Ord ps)(h3:300<zC ps)(hs:∀i,i<ps.length->zC (ps.take i)<2 ^ 64)(q:EX 180 (dL (zC ps))):qL [.d (aG ps),.d (bE g)] [] R EX:=by
 unfold qL;walk_at "d"
 walk_at "n"
 exact uP ho h3 hs q
theorem FE(ho:Ord ps)(h3:300<zC ps)(hs:∀i,i<ps.length->zC (ps.take i)<2 ^ 64)(q:EX 180 (dL (zC ps))):sD [.d (aG ps),.d (bE g)] [] R EX:=by
 unfold sD;walk_at "d"
 walk_at "n"
 exact uP ho h3 hs q
theorem Ez(ho:Ord ps)(h3:300<zC ps)(hs:∀i,i<ps.length->zC (ps.take i)<2 ^ 64)(q:EX 180 (dL (zC ps))):sE [.d (aG ps),.d (bE g)] [] R EX:=by
 unfold sE;walk_at "d"
 walk_at "n"
 exact Ax ho h3 hs q
theorem Kx{d:bd}(ho:Ord ps)(h3:300<zC ps)(hs:∀i,i<ps.length->zC (ps.take i)<2 ^ 64)(q:EX 180 (dL (zC ps))):tN [.d (aG ps),.d (bE g),.d d] [] R EX:=by
 unfold tN;walk_at "d"
 walk_at "n"
 exact Dk ho h3 hs q
theorem Eb{w:Int}(ho:Ord ps)(h3:300<zC ps)(hs:∀i,i<ps.length->zC (ps.take i)<2 ^ 64)(q:EX 180 (dL (zC ps))):qI [.d (.int w),.d (aG ps),.d (bE g)] [] R EX:=by
 unfold qI;walk_at "d";walk_at "n";split
 ·exact Cq (d:=.tuple []) ho h3 hs q
 walk_at "n";split
 ·exact E6 (d:=.tuple []) ho h3 hs q
 walk_at "n";split
 ·exact Fa ho h3 hs q
 walk_at "n";split
 ·exact FE ho h3 hs q
 walk_at "n";split
 ·exact Ez ho h3 hs q
 exact Kx (d:=.tuple [.str "keeps"]) ho h3 hs q
theorem IT{w:Int}(ho:Ord ps)(h3:300<zC ps)(hs:∀i,i<ps.length->zC (ps.take i)<2 ^ 64)(q:R (.d (.bool true)) []):qV [.d (.int w),.d (aG ps),.d (bE g),.d (.int (zC ps))] [] R:=by
 unfold qV;walk_at "d";walk_at "n";refine Eb ho h3 hs ?_;refine⟨by decide,?_⟩;have lm:kr ("many":Str) (dL (zC ps))=some (bp (zC ps)):=rfl;have lo:kr ("most":Str) (dL (zC ps))=some (bp 300):=rfl;generalize dL (zC ps)=fs at lm lo;walk_at "d";walk_at "n";refine⟨180,fs,rfl,FL dz ?_⟩;walk_at "d";refine⟨by decide +kernel,by decide +kernel,?_⟩;rw[bv (by decide +kernel)];refine⟨180,fs,_,rfl,by decide,lm,vN ?_⟩;walk_at "d";refine⟨180,fs,_,rfl,by decide,lo,vN ?_⟩;walk_at "d";rw[bv dz];refine⟨180,fs,_,rfl,by decide,lm,rfl,?_⟩;rw[cy (by rw[g7];simp)];exact⟨180,fs,_,rfl,by decide,lo,rfl,q⟩
end
def kT(r:List Int):List Key:=r.map Sum.inl
theorem EW{a b:List Int}(h:kT a=kT b):a=b:=(List.map_inj_right fun _ _ e=>Sum.inl.inj e).mp h
theorem AV(r:List Int):fG (aB r)=some (kT r):=by
 show iH (r.map bp)=_;induction r with
 |nil=>rfl
 |cons x r ih=>
  simp only[dq,iH,ih,kT];rfl
def gd(b:Bool)(F:Fs):List (List Key×bd):=(F.filter fun q=>q.1.2==b).map fun q=>(kT q.1.1,aB q.2)
theorem rQ(b:Bool)(r:List Int):∀F:Fs,lkA (gd b F) (kT r)=(lkA F (r,b)).map aB
 | []=>rfl
 |q::F=>by
  obtain⟨⟨r',b'⟩,x⟩:=q;by_cases e:b'=b
  ·subst e;have eg:gd b' (((r',b'),x)::F)=(kT r',aB x)::gd b' F:=by
    unfold gd;rw[List.filter_cons_of_pos yv];rfl
   rw[eg];by_cases e2:r'=r
   ·subst e2;rw[sP rfl,sP rfl];rfl
   ·rw[mL (fun z=>e2 (EW z)),mL (fun z=>e2 (by cases z;rfl)),rQ b' r F]
  ·have eg:gd b (((r',b'),x)::F)=gd b F:=by
    unfold gd;rw[List.filter_cons_of_neg (by simpa using e)]
   rw[eg,mL (fun z=>e (by cases z;rfl)),rQ b r F]
theorem qM(b:Bool)(F:Fs)(k:List Int)(b':Bool)(x:List Int):gd b (F++[((k,b'),x)])=if b'=b then gd b F++[(kT k,aB x)]else gd b F:=by
 unfold gd;rw[List.filter_append,jc];by_cases e:b'=b
 ·subst e;rw[cy rfl,List.filter_cons_of_pos yv];rfl
 ·rw[bv e,List.filter_cons_of_neg (by simpa using e)];simp
theorem AD(b:Bool)(F:Fs):(gd b F).length<=F.length:=by
 unfold gd;rw[cg];exact List.length_filter_le _ _
theorem Jw{κ α:Type}[DecidableEq κ]{m:List (κ×α)}{k:κ}{v:α}(h:lkA m k=none):ptA m k v=m++[(k,v)]:=by
 unfold ptA;rw[bv];intro z;rw[List.any_eq_true]at z;obtain⟨p,mp,hp⟩:=z;unfold lkA at h;rw[Option.map_eq_none_iff,List.find?_eq_none]at h;exact h p mp hp
def bX(c:List Nat)(Z:Fs)(s:List Int):Option (List Int×List Int):=
 match lkA Z (atC s c,true),lkA Z (atC s c,false)with
 |some x,some y=>if x=s then some (s,y)else none
 |_,_=>none
theorem yI{c:List Nat}{l:Lks}{r:List Int}{b:Bool}{x:List Int}(h:lkA (frs c l) (r,b)=some x):(x,b)∈l:=by
 obtain⟨p,mp,e⟩:=(wY c l).of _ (yO h);cases e;exact mp
theorem BM(c:List Nat):∀(l' l:Lks),∃r,frs c (l++l')=frs c l++r
 | [],l=>⟨[],yv⟩
 |p::l',l=>by
  obtain⟨r,e⟩:=BM c l' (l++[p]);rw[fz,List.singleton_append]at e;rw[e,jJ];unfold eG;split
  ·exact⟨r,rfl⟩
  ·exact⟨[((atC p.1 c,p.2),p.1)]++r,by rw[fz]⟩
theorem yP{c:List Nat}{l l':Lks}{k:List Int×Bool}{x:List Int}(h:lkA (frs c l) k=some x):lkA (frs c (l++l')) k=some x:=by
 obtain⟨r,e⟩:=BM c l' l;rw[e,CQ (by rw[h];rfl),h]
theorem A7{α β:Type}{f:α->β}:∀{l:List α},(l.map f).Nodup->∀{x y:α},x∈l->y∈l->f x=f y->x=y
 | [],_,_,_,m,_,_=>nomatch m
 |a::l,nd,x,y,mx,my,e=>by
  rw[dq,nodup_cons]at nd;rcases mem_cons.mp mx with z|z
  ·rcases mem_cons.mp my with w|w
   ·rw[z,w]
   ·rw[z]at e;exact absurd (by rw[e];exact List.mem_map_of_mem w) nd.1
  ·rcases mem_cons.mp my with w|w
   ·rw[w]at e;exact absurd (by rw[<- e];exact List.mem_map_of_mem z) nd.1
   ·exact A7 nd.2 z w e
theorem D7(c:List Nat)(L:Lks)(nd:(L.map (·.1)).Nodup):∀n,n<=L.length->(frs c (L.take n)).findSome? (onF (frs c L))=(L.take n).findSome? fun p=>bX c (frs c L) p.1
 | 0,_=>by rw[take_zero];rfl
 |n+1,h=>by
  have hn:n<L.length:=yw
  have ep:=bq hn;generalize L[n]=p at ep;obtain⟨s,b⟩:=p;have ih:=D7 c L nd n yw;have tk:=zI ep;have sp:L=L.take n++((s,b)::L.drop (n+1)):=by
   conv=>lhs;rw[<- jr (n+1) L,tk,fz]
   rfl
  have af:∀b',(s,b')∈L->b'=b:=fun b' m=>by
   have m2:(s,b)∈L:=cj ep;exact congrArg Prod.snd (A7 nd m m2 rfl)
  have ac:∀b',(s,b')∉L.take n:=fun b' m=>by
   rw[sp,jc,nodup_append]at nd;exact nd.2.2 s (mem_map.mpr ⟨_,m,rfl⟩) s yv rfl
  have ae:∀{k x},lkA (frs c (L.take (n+1))) k=some x->lkA (frs c L) k=some x:=fun {k x} z=>by
   have:=yP (l':=L.drop (n+1)) z
   rwa [jr]at this
  have aa:∀{k x},lkA (frs c (L.take n)) k=some x->lkA (frs c L) k=some x:=fun {k x} z=>by
   have:=yP (l':=L.drop n) z
   rwa [jr]at this
  have off:b=false->bX c (frs c L) s=none:=fun hb=>by
   unfold bX;split
   ·rename_i x y hx hy;rw[bv];intro z;subst z;have:=af true (yI hx);rw[hb]at this;cases this
   ·rfl
  rw[tk,jJ,ja];unfold eG;split
  ·rename_i hs;have:bX c (frs c L) s=none:=by
    cases b with
    |false=>exact off rfl
    |true=>
     obtain⟨x,hx⟩:=isSome_iff_exists.mp hs;have z:=aa hx;unfold bX;simp only at z;rw[z];cases lkA (frs c L) (atC s c,false)with
     |none=>rfl
     |some y=>
      show (if x=s then _ else _)=_;rw[bv];intro e;subst e;exact ac true (yI hx)
   rw[ih];simp[this]
  ·rename_i hs;rw[ja,ih];congr 1;simp only[List.findSome?_cons,List.findSome?_nil];have e:onF (frs c L) ((atC s c,b),s)=bX c (frs c L) s:=by
    cases b with
    |false=>rw[off rfl];rfl
    |true=>
     have z:lkA (frs c L) (atC s c,true)=some s:=ae (by
      rw[tk,jJ];unfold eG;rw[bv hs];unfold lkA at hs ⊢;rw[List.find?_append];cases hf:(frs c (L.take n)).find? fun q=>decide (q.1=(atC s c,true))with
      |none=>simp
      |some q=>rw[hf]at hs;exact absurd rfl hs)
     unfold onF bX;rw[z];cases lkA (frs c L) (atC s c,false)with
     |none=>rfl
     |some y=>simp
   rw[e]
theorem tw_law(c:List Nat)(L:Lks)(nd:(L.map (·.1)).Nodup):twF c L=L.findSome? fun p=>bX c (frs c L) p.1:=by
 have:=D7 c L nd L.length (cw _)
 rwa [ie]at this
theorem A8:∀a:List Int,HT.lexLt a a=false
 | []=>rfl
 |x::a=>by rw[HT.lexLt_cons,cy rfl];exact A8 a
theorem Ju(ps:List Part):(aN ps).Nodup:=(Bv ps).imp fun {a b} h e=>by
 subst e;rw[A8]at h;cases h
theorem Jo(ps:List Part)(g:Gap):((aX ps g).map (·.1)).Nodup:=by
 unfold aX;rw[kj];simpa[Function.comp_def]using Ju ps
theorem J8{ps:List Part}{g:Gap}{i:Nat}{s:List Int}(h:(aN ps)[i]?=some s):(aX ps g)[i]?=some (s,fM g s):=by
 unfold aX;rw[gi,h];rfl
theorem j9(b:Bool)(F:Fs)(r:List Int):(L2.DD.t (gd b F)).get (aB r)=some ((lkA F (r,b)).map aB):=by
 show (fG (aB r)).map (lkA (gd b F))=_;rw[AV];show some (lkA _ _)=_;rw[rQ]
theorem Br{b:Bool}{F:Fs}{r x:List Int}(h:lkA F (r,b)=none):(L2.DD.t (gd b F)).put (aB r) (aB x)=some (.t (gd b F++[(kT r,aB x)])):=by
 show (fG (aB r)).map (fun k=>L2.DD.t (ptA (gd b F) k (aB x)))=_;rw[AV];show some (L2.DD.t (ptA _ _ _))=_;rw[Jw (by rw[rQ,h];rfl)]
theorem Jb{ps:List Part}{g:Gap}{c:List Nat}(hs:zC ps<=300)(h3:Tm3 ps.length g.ts)(hc:∀k∈c,k<ps.length)(ac:c.length<=100)(q:R (.d (twD (twF c (aX ps g)))) []):qE [.d (.list ((aN ps).map aB)),.d (bE g),.d (cD c)] [] R:=by
 have bl:(aN ps).length<=300:=by rw[oJ];exact hs
 unfold qE;walk_at "n";intro a _;walk_at "d";intro b hb;walk_at "d";refine seqm ?_;walk_at "d";refine rH (fun i δ S M=>∃(u5 u6:Option XV),S=[]/\M=[(a,L2.DD.t (gd true (frs c ((aX ps g).take i)))),(b,L2.DD.t (gd false (frs c ((aX ps g).take i))))]/\δ=[some (.d (.list ((aN ps).map aB))),some (.d (bE g)),some (.d (cD c)),some (.o (.ref a)),some (.o (.ref b)),u5,u6,none]) ⟨_,_,rfl,rfl,rfl⟩ ?_ ?_
 ·rintro i d _ _ _ N hi ⟨u5,u6,rfl,rfl,rfl⟩ hN;obtain⟨s,es,rfl⟩:=eE hi;have ms:=gH.mp (cj es);have el:=J8 (g:=g) es;have il:i<(aN ps).length:=(List.getElem?_eq_some_iff.mp es).1;have ef:frs c ((aX ps g).take (i+1))=eG c (frs c ((aX ps g).take i)) (s,fM g s):=by rw[zI el,jJ]
  have fl:=B5 c ((aX ps g).take i);rw[iy]at fl;generalize frs c ((aX ps g).take i)=F at ef fl ⊢;walk_at "d";refine seqm ?_;walk_at "d";refine Ib (by rw[ms.len];exact h3) ?_;walk_at "d";have aa:∀k∈c,k<s.length:=fun k m=>by rw[ms.len];exact hc k m
  have ba:b≠a:=fun z=>hb (by rw[z];exact ck);unfold eG at ef;cases hk:fM g s with
  |true=>
   rw[hk]at ef;walk_at "d";refine nW aa ac ?_;walk_at "d";refine⟨_,_,.inl ⟨a,rfl,ck⟩,j9 true F _,?_⟩;rw[nz];cases hl:lkA F (atC s c,true)with
   |some x=>
    simp only[hl,Option.isSome_some,if_true]at ef;rw[bv yv];exact hN _ _ _ ⟨_,_,rfl,by rw[ef],rfl⟩
   |none=>
    simp only[hl,Option.isSome_none,gy,if_false]at ef;rw[cy yv];refine⟨a,rfl,nW aa ac ?_⟩;walk_at "d";refine⟨_,_,ck,Br hl,by show (gd true F).length<1000;have:=AD true F;omega,hN _ _ _ ⟨_,_,rfl,?_,rfl⟩⟩;rw[ef,qM,qM];simp[eV,ba]
  |false=>
   rw[hk]at ef;walk_at "d";refine nW aa ac ?_;walk_at "d";refine⟨_,_,.inl ⟨b,rfl,bw _ ck⟩,j9 false F _,?_⟩;rw[nz];cases hl:lkA F (atC s c,false)with
   |some x=>
    simp only[hl,Option.isSome_some,if_true]at ef;rw[bv yv];exact hN _ _ _ ⟨_,_,rfl,by rw[ef],rfl⟩
   |none=>
    simp only[hl,Option.isSome_none,gy,if_false]at ef;rw[cy yv];refine⟨b,rfl,nW aa ac ?_⟩;walk_at "d";refine⟨_,_,bw _ ck,Br hl,by show (gd false F).length<1000;have:=AD false F;omega,hN _ _ _ ⟨_,_,rfl,?_,rfl⟩⟩;rw[ef,qM,qM];simp[eV,ba.symm]
 ·rintro _ _ _ ⟨u5,u6,rfl,rfl,rfl⟩;have ll:((aN ps).map aB).length=(aX ps g).length:=by simp[aX]
  rw[ll,ie];rw[tw_law c _ (Jo ps g)]at q;generalize frs c (aX ps g)=F at q ⊢;have q':R (.d (twD ((aN ps).findSome? (bX c F)))) []:=by
   have e:(aX ps g).findSome? (fun p=>bX c F p.1)=(aN ps).findSome? (bX c F):=by
    unfold aX;rw[List.findSome?_map];rfl
   rw[e]at q;exact q
  walk_at "d";refine rH (fun i δ S M=>∃(u5 u6 u7:Option XV),((aN ps).take i).findSome? (bX c F)=none/\S=[]/\M=[(a,L2.DD.t (gd true F)),(b,L2.DD.t (gd false F))]/\δ=[some (.d (.list ((aN ps).map aB))),some (.d (bE g)),some (.d (cD c)),some (.o (.ref a)),some (.o (.ref b)),u5,u6,u7]) ⟨_,_,_,rfl,rfl,rfl,rfl⟩ ?_ ?_
  ·rintro i d _ _ _ N hi ⟨u5,u6,u7,hn,rfl,rfl,rfl⟩ hN;obtain⟨s,es,rfl⟩:=eE hi;have ms:=gH.mp (cj es);have et:=Az (bX c F) es hn;have aa:∀k∈c,k<s.length:=fun k m=>by rw[ms.len];exact hc k m
   have ae:bX c F s=none->∀u7,N [some (.d (.list ((aN ps).map aB))),some (.d (bE g)),some (.d (cD c)),some (.o (.ref a)),some (.o (.ref b)),some (.d (aB s)),u6,u7] [] [(a,L2.DD.t (gd true F)),(b,L2.DD.t (gd false F))]:=fun z u7=>hN _ _ _ ⟨_,_,_,by rw[zI es,ja,hn];simp[z],rfl,rfl,rfl⟩;walk_at "d";refine seqm ?_;walk_at "d";refine nW aa ac ?_;walk_at "d";refine⟨_,_,.inl ⟨a,rfl,ck⟩,j9 true F _,?_⟩;rw[nz];cases hx:lkA F (atC s c,true)with
   |none=>
    rw[bv yv];exact ae (by unfold bX;rw[hx]) _
   |some x=>
    rw[cy yv];refine⟨_,_,.inl ⟨b,rfl,bw _ ck⟩,j9 false F _,?_⟩;rw[nz];cases hy:lkA F (atC s c,false)with
    |none=>
     rw[bv yv];exact ae (by unfold bX;rw[hx,hy]) _
    |some y=>
     rw[cy yv];refine⟨_,aB x,.inl ⟨a,rfl,ck⟩,by rw[j9,hx];rfl,qJ x,qJ s,?_⟩;rw[Dy];by_cases e:x=s
     ·rw[cy (by rw[ju e])];refine⟨_,aB y,.inl ⟨b,rfl,bw _ ck⟩,by rw[j9,hy];rfl,[_],_,rfl,[],_,rfl,?_⟩;have el:bX c F s=some (s,y):=by unfold bX;rw[hx,hy];exact cy e
      rw[et,el]at q';exact q'
     ·rw[bv (by rw[fx e];decide)];exact ae (by unfold bX;rw[hx,hy];exact bv e) _
  ·rintro _ _ _ ⟨u5,u6,u7,hn,rfl,rfl,rfl⟩;rw[cg,ie]at hn;rw[hn]at q';walk_at "d";exact⟨[_],_,rfl,[],_,rfl,q'⟩
section
variable {ps:List Part}{g:Gap}{c:List Nat}
theorem yN(ho:Ord ps)(z:ps.length<=100)(hs:zC ps<=300)(h3:Tm3 ps.length g.ts)(hc:∀k∈c,k<ps.length)(aa:c.length<=100)(q:R (.d (twD (twF c (aX ps g)))) []):p8 [.d (aG ps),.d (bE g),.d (cD c)] [] R:=by
 unfold p8;walk_at "d";refine Gr ho z hs h3 ?_;walk_at "d";refine K6 (by unfold aX;rw[cg,oJ];exact hs) (fun p m k mk=>?_) aa ?_
 ·obtain⟨p1,p2⟩:=p;have:=(wH.mp m).1.len;have:=hc k mk;show k<p1.length;omega
 ·walk_at "d";exact q
theorem J4(ho:Ord ps)(z:ps.length<=100)(hs:zC ps<=300)(h3:Tm3 ps.length g.ts)(hc:∀k∈c,k<ps.length)(aa:c.length<=100)(q:R (.d (.bool (twF c (aX ps g)).isNone)) []):sB [.d (aG ps),.d (bE g),.d (cD c)] [] R:=by
 unfold sB;walk_at "d";refine yN ho z hs h3 hc aa ?_;cases h:twF c (aX ps g)with
 |none=>
  rw[h]at q;unfold twD;walk_at "d";exact q
 |some p=>
  rw[h]at q;unfold twD;walk_at "d";exact q
theorem G9(ho:Ord ps)(z:ps.length<=100)(hs:zC ps<=300)(h3:Tm3 ps.length g.ts)(hc:∀k∈c,k<ps.length)(aa:c.length<=100)(q:R (.d (.bool true)) []):qW [.d (aG ps),.d (bE g),.d (cD c),.d (.list ((aN ps).map aB))] [] R:=by
 unfold qW;walk_at "d"
 walk_at "n"
 refine Jb hs h3 hc aa ?_;walk_at "d"
 walk_at "n"
 refine yN ho z hs h3 hc aa ?_;walk_at "d"
 walk_at "n"
 refine J4 ho z hs h3 hc aa ?_;walk_at "d";walk_at "n";cases h:twF c (aX ps g)with
 |none=>
  unfold twD;walk_at "d";rw[bv yv];walk_at "n";exact q
 |some p=>
  obtain⟨x,y⟩:=p;obtain⟨m1,m2,_⟩:=tw_some h;have lx:=(wH.mp m1).1.len;have ly:=(wH.mp m2).1.len;unfold twD;walk_at "d";rw[bv yv];walk_at "n";walk_at "n";refine An (b:=x) rfl yw ?_;walk_at "d";refine An (b:=y) rfl yw ?_;walk_at "d";exact q
end
theorem uA{fin:Sto->Prop}:∀(ds acc:List Nat) (p:List bd) (u:Option XV),aS p->acc.length+ds.length<=100->(∀(c:List Nat) p',aS p'->(∀k∈c,k∈acc\/k∈ds)->c.length<=acc.length+ds.length->fin [p',c.map fun k:Nat=>bp k]) ->
  bM 1 (zm 0) (dB (dOp aT (aL 0 2 zy (zc (zj 1) (zc (dC (.int 2)) zo))) (dC (.int 1)))) (zj 0) fin (ds.map fun k:Nat=>bp (0+k)) [u,some (.l 0)] [p,acc.map fun k:Nat=>bp k]
 | [],acc,p,u,hp,_,q=>q acc p hp (fun k m=>.inl m) yv
 |d::ds,acc,p,u,hp,hl,q=>by
  rw[dq,bM];walk_at "d";refine zF hp dz (by decide +kernel) fun r p1 r0 r1 ac=>?_;walk_at "d";rw[cn]at hl;rw[Int.zero_add];split
  ·refine⟨yw,?_⟩;have e:(acc.map fun k:Nat=>bp k)++[bp (d:Nat)]=(acc++[d]).map fun k:Nat=>bp k:=by simp
   rw[e];refine uA ds (acc++[d]) p1 _ ac (by rw[bx,fb];omega) fun c p' aa hm hc=>q c p' aa (fun k m=>?_) (by rw[bx,fb]at hc;rw[cn];omega);rcases hm k m with z|z
   ·rcases mem_append.mp z with z|z
    ·exact .inl z
    ·exact .inr (by rw[mem_singleton.mp z];exact ck)
   ·exact .inr (bw _ z)
  ·refine uA ds acc p1 _ ac yw fun c p' aa hm hc=>q c p' aa (fun k m=>?_) (by rw[cn];omega);rcases hm k m with z|z
   ·exact .inl z
   ·exact .inr (bw _ z)
theorem HI(a:Addr)(n:Int):tX (Jk a 13) ((some (.o (.ref a))::bg 13 none).set 1 (some (.d (.int n)))) []:=by
 unfold tX;walk_at "d"
 walk_at "n"
 refine KO fun p hp=>?_;walk_at "d"
 walk_at "n"
 refine JE hp dz dz fun ps p1 hd hs al=>?_;walk_at "d"
 walk_at "n"
 refine Ia al hd fun g p2 hg am=>?_;walk_at "d";have l8:=hd.l8;have l1:=hd.l1;have ho:=hd.ord;have h3:Tm3 ps.length g.ts:=hg.ts.tm3 l8
 walk_at "n"
 refine IS ho yw hs ?_;walk_at "d"
 walk_at "n"
 refine⟨ps.length,by unfold aG;walk_at "d",?_⟩;refine uA (dj ps.length) [] p2 none am (by simp;omega) fun dr p3 an hm hl=>?_;have ae:∀k∈dr,k<ps.length:=fun k m=>by
  rcases hm k m with z|z
  ·cases z
  ·exact mem_range.mp z
 have ag:dr.length<=100:=by simp at hl;omega
 refine⟨[p3],_,rfl,rfl,?_⟩;walk_at "d";walk_at "n";refine⟨ps.length,by unfold aG;walk_at "d",⟨yw,yw⟩,?_⟩;have e4:[PyData.tuple [],.tuple (dr.map fun k:Nat=>bp k),.tuple ((dj ((ps.length:Nat):Int).toNat).map fun k:Nat=>bp (0+k)),.tuple (dr.map fun k:Nat=>bp k)]=[[],dr,dj ps.length,dr].map cD:=by
  simp[cD]
 rw[e4];refine fD (fun i δ S=>∃(u7:Option XV),S=[p3]/\δ=[some (.o (.ref a)),some (.d (.int n)),some (.l 0),some (.d (aG ps)),some (.d (bE g)),some (.d (.list ((aN ps).map aB))),some (.d (cD dr)),u7,none,none,none,none,none,none]) ⟨_,rfl,rfl⟩ ?_ ?_
 ·rintro i d _ _ N hi ⟨u7,rfl,rfl⟩ hN;obtain⟨c,ec,rfl⟩:=eE hi;have mc:=cj ec;have hc:(∀k∈c,k<ps.length)/\c.length<=100:=by
   simp only[gj,fj,or_false]at mc;rcases mc with rfl|rfl|rfl|rfl
   ·exact⟨fun k m=>(nomatch m),yv⟩
   ·exact⟨ae,ag⟩
   ·exact⟨fun k m=>mem_range.mp m,by rw[length_range];omega⟩
   ·exact⟨ae,ag⟩
  walk_at "d";refine G9 ho yw hs h3 hc.1 hc.2 ?_;walk_at "d";exact hN _ _ ⟨_,rfl,rfl⟩
 ·rintro _ _ ⟨u7,rfl,rfl⟩;obtain⟨aa,ac,rfl⟩:∃aa ac,ps=aa++[ac]:=⟨ps.dropLast,ps.getLast (fun z=>by simp[z]at l1),(List.dropLast_concat_getLast _).symm⟩;have s0:∀n:Nat,HT.sIx n 0 none=0:=fun _=>rfl;have s1:∀n:Nat,HT.sIx (n+1) (n+1) (some (-1))=n:=fun n=>by
   unfold HT.sIx;simp
   try omega
  have ec:aV ((aa++[ac]).map bF) none (some (-1))=aa.map bF:=by
   unfold aV;rw[cg,bx,fb,s0,s1];simp
  have oi:Ord aa:=fun p m=>hd.ord p (cq _ m);have ol:ac.2.1<=ac.2.2:=hd.ord ac (cv _ ck);have si:zC aa<=300:=by have:=jF hd.ord aa.length;rw[List.take_left]at this;omega
  have pos:=wC oi;rw[aG];walk_at "d"
  walk_at "n"
  refine⟨bF ac,?_,?_⟩
  ·rw[jc];exact Gj _ _
  rw[bF];walk_at "d"
  walk_at "n"
  obtain⟨wl,af⟩:∃wl:Nat,ac.2.2-ac.2.1+1=wl:=⟨(ac.2.2-ac.2.1+1).toNat,yw⟩;have ak:zC (aa++[ac])=zC aa*wl:=by
   unfold zC;rw[jc,lM];simp[cB,af]
  have w1:1<=wl:=yw
  have w3:wl<=zC aa*wl:=Nat.le_mul_of_pos_left _ pos;have ah:((aN (aa++[ac])).length:Int)/(ac.2.2-ac.2.1+1)=zC aa:=by
   rw[oJ,ak,af,Int.natCast_mul];exact Int.mul_ediv_cancel _ yw
  refine .inl ⟨⟨yw,rG yw yw⟩,?_⟩;rw[ah];walk_at "d"
  walk_at "n"
  refine .inl ⟨⟨yw,rG yw yw⟩,?_⟩;walk_at "d";refine⟨by first|decide|exact⟨by decide,by decide⟩,zF an dz (by decide +kernel) fun r1 p4 ao ai aj=>?_⟩;walk_at "d";obtain⟨d,ed,m,rfl,m0,m1⟩:=lJ (P:=fun d=>∃n:Int,d=.int n/\0<n/\n.natAbs.log2<9000) (ds:=[bp 1,bp 100000000000000000000]) ao ai (by
   intro d m;simp only[gj,fj,or_false]at m;rcases m with rfl|rfl
   ·exact⟨_,rfl,by decide,by decide +kernel⟩
   ·exact⟨_,rfl,by decide,by decide +kernel⟩)
  refine⟨_,ed,?_⟩;walk_at "d";refine zF aj m0 m1 fun k p5 k0 k1 as=>?_;walk_at "d"
  walk_at "n"
  rw[ec];have w0:0<(300:Int)/(zC aa:Int)+1+k:=by have:=Int.ediv_nonneg (show (0:Int)<=300 by decide) (show (0:Int)<=(zC aa:Int) by omega);omega
  have ap:(300:Int)<zC aa*((300:Int)/(zC aa:Int)+1+k):=by
   have h1:=Int.lt_ediv_add_one_mul_self (300:Int) (show (0:Int)<zC aa by omega);have h2:(0:Int)<=zC aa*k:=Int.mul_nonneg yw k0;rw[Int.mul_add,Int.mul_comm _ ((300:Int)/(zC aa:Int)+1)];omega
  have ar:aa.length<=8:=by simp at l8;omega
  refine⟨by rw[s0,s1];omega,by rw[cg];omega,?_⟩;generalize (300:Int)/(zC aa:Int)+1+k=wd at w0 ap;have es:((zC (aa++[(ac.1,ac.2.1,ac.2.1+wd-1)]):Nat):Int)=zC aa*wd:=by
   unfold zC;rw[jc,lM];simp only[dq,map_nil,cB,Nat.mul_one];rw[Int.natCast_mul,Int.toNat_of_nonneg yw];congr 1;omega
  have aq:PyData.tuple (aa.map bF++[.tuple [.str ac.1,.int ac.2.1,.int (ac.2.1+wd-1)]])=aG (aa++[(ac.1,ac.2.1,ac.2.1+wd-1)]):=by
   rw[aG,jc];rfl
  rw[aq];have o':Ord (aa++[(ac.1,ac.2.1,ac.2.1+wd-1)]):=fun pt m=>by
   rcases mem_append.mp m with m|m
   ·exact oi pt m
   ·rw[mem_singleton.mp m];show ac.2.1<=ac.2.1+wd-1;omega
  have s':∀i,i<(aa++[(ac.1,ac.2.1,ac.2.1+wd-1)]).length->zC ((aa++[(ac.1,ac.2.1,ac.2.1+wd-1)]).take i)<2 ^ 64:=fun i hi=>by
   have l1:=jF oi i;rw[bx,fb]at hi;rw[List.take_append_of_le_length yw];omega
  have g':300<zC (aa++[(ac.1,ac.2.1,ac.2.1+wd-1)]):=yw
  generalize aa++[(ac.1,ac.2.1,ac.2.1+wd-1)]=ps' at es o' s' g';refine cmp1 (S0:=[p5]) (h:=fun k:Nat=>bp (0+k)) (fun _=>.bool true) rfl (dj 6) dz ?_ ?_
  ·intro k mk u acc R' hk;walk_at "d";refine⟨dS yw yw,?_⟩;rw[<- es];refine IT o' g' s' ?_;walk_at "d";exact hk _
  ·walk_at "d";exact⟨[true,true,true,true,true,true],rfl,yv⟩
end
end My
namespace My
open PySem L2
def top (i : Nat) : Stmt := PySem.Challenge.pw_gaugewright_k53_twins.main.body.getD i (.Pass ⟨0, 0, 0, 0⟩)
abbrev BZ:Stmt:=top 48
theorem Gd:FnScope ["script","k"] ["script","k"] (zh BZ):=fsd
abbrev y0:Stmt:=top 50
theorem Dh:FnScope ["cell","left"] ["cell"] (zh y0):=fsd
abbrev AC:Stmt:=top 49
theorem Ca:FnScope ["seed"] ["seed"] (zh AC):=fsd
abbrev Cv:Stmt:=top 51
theorem Dp:FnScope ["pen","many","found"] ["pen","many"] (zh Cv):=fsd
abbrev oU:Stmt:=top 55
theorem zQ:FnScope ["pen","letters","way","first","names","word","at"] ["pen"] (zh oU):=fsd
abbrev Cm:Stmt:=top 53
theorem B4:FnScope ["pen","way"] ["pen"] (zh Cm):=fsd
abbrev vS:Stmt:=top 56
theorem jY:FnScope ["pen","most","names","wides","drawing","k","low"] ["pen","most"] (zh vS):=fsd
abbrev B3:Stmt:=top 57
theorem iG:FnScope ["drawing","terms","least","most","part","times","ends"] ["drawing","terms"] (zh B3):=fsd
abbrev CK:Stmt:=top 58
theorem zZ:FnScope ["pen","drawing","terms","part","times","least","most","wide","low","high"] ["pen","drawing"] (zh CK):=fsd
abbrev uG:Stmt:=top 60
theorem g8:FnScope ["drawing","found","name","low","high","longer","ahead"] ["drawing"] (zh uG):=fsd
abbrev uU:Stmt:=top 62
theorem EM:FnScope ["one","parts"] ["one","parts"] (zh uU):=fsd
abbrev wJ:Stmt:=top 61
theorem Ds:FnScope ["gap","one","worth"] ["gap","one"] (zh wJ):=fsd
abbrev xW:Stmt:=top 63
theorem jB:FnScope ["some","gap","parts","good","bad","one","side","row"] ["some","gap","parts"] (zh xW):=fsd
abbrev uV:Stmt:=top 34
theorem JF:FnScope ["one","parts"] ["one","parts"] (zh uV):=fsd
abbrev BC:Stmt:=top 33
theorem jZ:FnScope ["looks","parts","firsts","one","kept","seen","breaking"] ["looks","parts"] (zh BC):=fsd
abbrev xJ:Stmt:=top 24
theorem HW:FnScope ["gap","one"] ["gap","one"] (zh xJ):=fsd
abbrev DL:Stmt:=top 25
theorem GN:FnScope ["gap","one"] ["gap","one"] (zh DL):=fsd
abbrev Bb:Stmt:=top 15
theorem EN:FnScope ["one"] ["one"] (zh Bb):=fsd
abbrev x4:Stmt:=top 18
theorem HU:FnScope ["part"] ["part"] (zh x4):=fsd
abbrev Aj:Stmt:=top 19
theorem qR:FnScope ["drawing","many","part"] ["drawing"] (zh Aj):=fsd
abbrev BJ:Stmt:=top 20
theorem sO:FnScope ["drawing","many"] ["drawing"] (zh BJ):=fsd
abbrev xH:Stmt:=top 22
theorem v0:FnScope ["beginnings","numbers","longer","beginning"] ["beginnings","numbers"] (zh xH):=fsd
abbrev Ba:Stmt:=top 21
theorem iI:FnScope ["drawing","beginnings","part"] ["drawing"] (zh Ba):=fsd
abbrev qF:Stmt:=top 32
theorem DJ:FnScope ["drawing","gap"] ["drawing","gap"] (zh qF):=fsd
abbrev Ay:Stmt:=top 31
theorem CN:FnScope ["drawing","gap","parts"] ["drawing","gap","parts"] (zh Ay):=fsd
abbrev Ai:Stmt:=top 30
theorem DC:FnScope ["drawing","gap","parts"] ["drawing","gap","parts"] (zh Ai):=fsd
abbrev Ae:Stmt:=top 52
theorem BW:FnScope ["found"] ["found"] (zh Ae):=fsd
abbrev vA:Stmt:=top 65
theorem Jx:FnScope ["found","due"] ["found","due"] (zh vA):=fsd
abbrev DU:Stmt:=top 69
theorem qK:FnScope ["drawing","gap","parts","some","due","found","told"] ["drawing","gap","parts","some"] (zh DU):=fsd
abbrev BX:Stmt:=top 13
theorem IZ:FnScope ["thing"] ["thing"] (zh BX):=fsd
abbrev yQ:Stmt:=top 44
theorem Em:FnScope ["drawing","thing"] ["drawing","thing"] (zh yQ):=fsd
abbrev tV:Stmt:=top 43
theorem nR:FnScope ["drawing","thing","left","asked","plan","measured"] ["drawing","thing"] (zh tV):=fsd
abbrev C6:Stmt:=top 41
theorem lK:FnScope ["plan","drawing","one","parts","at","part"] ["plan","drawing","one"] (zh C6):=fsd
abbrev wA:Stmt:=top 42
theorem Ce:FnScope ["drawing","gap","thing","sets"] ["drawing","gap","thing"] (zh wA):=fsd
abbrev x0:Stmt:=top 28
theorem lZ:FnScope ["choices","size","longer","choice","first","number"] ["choices","size"] (zh x0):=fsd
abbrev BS:Stmt:=top 27
theorem qT:FnScope ["size","many","choices","step"] ["size","many"] (zh BS):=fsd
abbrev Di:Stmt:=top 35
theorem sL:FnScope ["drawing","gap","looks","many","parts"] ["drawing","gap"] (zh Di):=fsd
abbrev BN:Stmt:=top 36
theorem CL:FnScope ["drawing","gap","looks"] ["drawing","gap"] (zh BN):=fsd
abbrev DY:Stmt:=top 45
theorem Es:FnScope ["drawing","gap"] ["drawing","gap"] (zh DY):=fsd
abbrev C0:Stmt:=top 67
theorem EI:FnScope ["way","drawing","gap"] ["way","drawing","gap"] (zh C0):=fsd
abbrev xT:Stmt:=top 66
theorem oG:FnScope ["e","marks","words"] ["e"] (zh xT):=fsd
abbrev Ck:Stmt:=top 68
theorem Cb:FnScope ["way","drawing","gap","many","e"] ["way","drawing","gap","many"] (zh Ck):=fsd
abbrev s_law:Stmt:=top 70
theorem dE:FnScope ["script","cell","pen","drawing","gap","some","drawn","parts","name","low","high","rest","wide","great"] ["script"] (zh s_law):=fsd
abbrev s_I_TooGreat:Stmt:=J5 (top 11) 0
theorem Kk:FnScope ["self","many","most"] ["self","many","most"] (zh s_I_TooGreat):=fsc (by decide +kernel)
structure Txt(mg:Str->Option bb):Prop where
 n_tuple:mg "tuple" = none
 n_range:mg "range" = none
 n_len:mg "len" = none
 n_all:mg "all" = none
 n_max:mg "max" = none
 n_int:mg "int" = none
 n_min:mg "min" = none
 n_sum:mg "sum" = none
 n_list:mg "list" = none
 n_isinstance:mg "isinstance" = none
 n_bool:mg "bool" = none
 n_ValueError:mg "ValueError" = none
 g_MOST_SETS:∃t,mg "MOST_SETS" = some (.int 300 t)
structure Dds(K:bj)(mg:Str->Option bb):Prop where
 a0:Dd K mg "_law_cell_at" BZ ["script","k"]
 a1:Dd K mg "_law_pen_of" y0 ["cell"]
 a2:Dd K mg "_law_next" AC ["seed"]
 a3:Dd K mg "_law_draw" Cv ["pen","many"]
 a4:Dd K mg "_law_names_of" oU ["pen"]
 a5:Dd K mg "_law_number_of" Cm ["pen"]
 a6:Dd K mg "_law_few" vS ["pen","most"]
 a7:Dd K mg "_law_ends_of" B3 ["drawing","terms"]
 a8:Dd K mg "_law_gap_of" CK ["pen","drawing"]
 a9:Dd K mg "_law_all_of" uG ["drawing"]
 a10:Dd K mg "_law_at_of" uU ["one","parts"]
 a11:Dd K mg "_law_kept" wJ ["gap","one"]
 a12:Dd K mg "_law_twins_of" xW ["some","gap","parts"]
 a13:Dd K mg "numbers_at" uV ["one","parts"]
 a14:Dd K mg "twins_among" BC ["looks","parts"]
 a15:Dd K mg "worth_of" xJ ["gap","one"]
 a16:Dd K mg "keeps" DL ["gap","one"]
 a17:Dd K mg "size_of" Bb ["one"]
 a18:Dd K mg "span_of" x4 ["part"]
 a19:Dd K mg "how_many" Aj ["drawing"]
 a20:Dd K mg "refuse_too_many_sets" BJ ["drawing"]
 a21:Dd K mg "each_longer" xH ["beginnings","numbers"]
 a22:Dd K mg "all_sets" Ba ["drawing"]
 a23:Dd K mg "looked_at" qF ["drawing","gap"]
 a24:Dd K mg "twins" Ay ["drawing","gap","parts"]
 a25:Dd K mg "decides" Ai ["drawing","gap","parts"]
 a26:Dd K mg "_law_whole" Ae ["found"]
 a27:Dd K mg "_law_tuple_of" vA ["found","due"]
 a28:Dd K mg "_law_right" DU ["drawing","gap","parts","some"]
 a29:Dd K mg "is_whole" BX ["thing"]
 a30:Dd K mg "is_measure" yQ ["drawing","thing"]
 a31:Dd K mg "is_plan" tV ["drawing","thing"]
 a32:Dd K mg "led" C6 ["plan","drawing","one"]
 a33:Dd K mg "plan_holds" wA ["drawing","gap","thing"]
 a34:Dd K mg "each_with_one_more" x0 ["choices","size"]
 a35:Dd K mg "choices_of" BS ["size","many"]
 a36:Dd K mg "fewest" Di ["drawing","gap"]
 a37:Dd K mg "witness_of" BN ["drawing","gap"]
 a38:Dd K mg "plan_of" DY ["drawing","gap"]
 a39:Dd K mg "_law_asked" C0 ["way","drawing","gap"]
 a40:Dd K mg "_law_kind" xT ["e"]
 a41:Dd K mg "_law_refused" Ck ["way","drawing","gap","many"]
 t_BREAKS:∃a,L2.TupG K mg "BREAKS" "breaks" a
 t_KEEPS:∃a,L2.TupG K mg "KEEPS" "keeps" a
structure Exx(K:bj)(mg:Str->Option bb):Prop where
 ex:Exs K
 m_GaugeError:mg "GaugeError" = some (.ref 24)
 m_NoSpan:mg "NoSpan" = some (.ref 37)
 m_NoPart:mg "NoPart" = some (.ref 49)
 m_NoSet:mg "NoSet" = some (.ref 61)
 m_NoRow:mg "NoRow" = some (.ref 73)
 m_Unlike:mg "Unlike" = some (.ref 85)
 m_NoDrawing:mg "NoDrawing" = some (.ref 104)
 m_NoGap:mg "NoGap" = some (.ref 123)
 m_NoOffer:mg "NoOffer" = some (.ref 142)
 m_NoText:mg "NoText" = some (.ref 161)
 m_TooGreat:mg "TooGreat" = some (.ref 180)
 c_GaugeError:ExCls K 24 none
 c_NoSpan:ExCls K 37 none
 c_NoPart:ExCls K 49 none
 c_NoSet:ExCls K 61 none
 c_NoRow:ExCls K 73 none
 c_Unlike:ExCls K 85 none
 r_TooGreat:XI K 180 ["many","most"] "TooGreat.__init__" s_I_TooGreat
 a_many:ExsI K [180] "many"
 a_most:ExsI K [180] "most"
section
variable {P:bz}{w:dh}{K:bj}{mg:Str->Option bb}{base:Heap}
theorem JU{f:Addr}{fd:jm}(F:Fun K "__init__" "TooGreat.__init__" s_I_TooGreat f fd):FnOk P w K mg base CX0 1 f fd ["self","many","most"] (spI K ["many","most"]):=F.ok Kk FN fun z A outer s H vs Q E hr h=>⟨_,(ze (BD (pv 0) (pv 1) rfl) (zi (BD (pv 0) (pv 2) rfl))),init2 dz h⟩
local macro_rules|`(tactic|walk_at "r")=>do
 let ts<-("zl 0,zk 2,zw 0,zY 0,zu 0,bL 2,zO 2,cV 0,bO 1,zO 0,dG 2,dA 0,bR 0,kO 0,fK 1,zk 0,gP 2,gO 3,FY 0,jW 1,jN 0,iP 2,gS 0,rT 0,b9 1,k8 3,iS 1,lO 0,Fx 0,eJ 0,Ec 1,iC 0,gR 0,bL 0,JL 0,jK 1,v4 0,wQ 2,u8 0,bO 0,JI 1,pK 2,lS 1,sF 0,sK 1,rV 0,vC 0,qN 2,gO 0,gY 1,mJ 3,G0 0,wB 4,vM 0,vU 1,tS 0,k8 0,lS 0,mJ 0,rZ 0,Iu 5,tI 0,Fm 2,vG 0,sX 0,jW 0,Jc 2,JP 2,Hj 0,wU 0,uL 0,IP 3,tO 0,Ek 1,Ij 1,LA 1,jK 0,iS 0,tP 0,IU 0,IH 0,De 0,He 0,G3 0,Ht 0,Eg 0,JZ 2,BF 0,xO 0,CW 0,DX 0,KQ 1,qN 0,t0 0,HF 0,t0 2,Kg 1,pK 0,Ah 1,zV 3,nK 1,bC 2,bC 0,zV 0,nK 0".splitOn ",").toArray.mapM fun x=>do
  let i:=x.splitOn " "
  let h<-`(term|?_)
  let hs:=Array.replicate ((i.getD 1 "").toNat!) h
  `(Lean.Parser.Tactic.tacticSeq|refine $(Lean.mkIdent (i.getD 0 "").toName) $hs*)
 `(tactic|repeat' (first|with_reducible (first $[|$ts:tacticSeq]*)|rfl))
theorem Ke(T:Txt mg:=by assumption)(dd:Dds K mg:=by assumption):Df P w K mg base "_law_cell_at" ["script","k"] 1 (sp2 (vB K)):=by
 refine Df.of2 dd.a0 Gd (fun v u=>[some v,some u]) (fun _ _=>rfl) fun f z A outer s H v u Q E hr h=>?_;obtain⟨a,ns,i,rfl,rfl,hS,h0,q⟩:=h;refine⟨_,(ze (aM (zH sA (pv 1) (zq IR (by rfl) T.n_len cS (za (pv 0) zd)) (nomark _)) (zi (zt (zN DZ (pv 0) (pv 1) (fun _ _=>rfl)))) zM) (zi (zt zg))),?_⟩;simp only[aR,nN,oH,tOp,Gn,tCB,jH,kP,mT,tC,t9,C7,kz,lc];refine⟨a,_,rfl,.inl hS,?_⟩;simp only[C7,Jl,decide_eq_true_eq];refine ite2 (fun hi=>?_) (fun _=>q 0);obtain⟨n,e⟩:=Ed h0 hi;exact⟨a,_,i,_,rfl,rfl,hS,e,q n⟩
variable (T:Txt mg:=by assumption) (dd:Dds K mg:=by assumption) (xx:Exx K mg:=by assumption)
include T dd xx
theorem G5:Df P w K mg base "_law_pen_of" ["cell"] 1 (spN ["cell"] rR):=by
 exact Df.dN dd.a1 Dh 1 rfl fun f z A outer s H E hr=>⟨_,_,(ze (zr (i:=1) Dh.nd rfl lo (zq (Ji rfl) (by rfl) T.n_max DB (za (pv 0) (za (zD eA zg (pv 0)) zd)))) (zi (zt (aU (za (pv 1) (za (i4 F9 (by rfl) T.n_int tK (za (eF Ky (pv 1) (zD mB zg zg) (nomark _)) zd)) (za (zD gV (pv 1) zg) zd))))))),(by walk_at "r"),fun xs S R q=>q⟩
theorem xK:Df P w K mg base "_law_next" ["seed"] 1 (spN ["seed"] p7):=by
 exact Df.dN dd.a2 Ca 0 rfl fun f z A outer s H E hr=>⟨_,_,(ze (zr (i:=0) Ca.nd rfl lo (zD gV (zD zJ (pv 0) zg) zg)) (zi (zt (zD gV (zD zJ (zD zJ (zD cI (pv 0) (pv 0)) (zD cI zg (pv 0))) zg) zg)))),(by walk_at "r"),fun xs S R q=>q⟩
theorem zK:Df P w K mg base "_law_draw" ["pen","many"] 2 (spN ["pen","many"] zy):=by
 exact Df.dN dd.a3 Dp 1 rfl fun f z A outer s H E hr=>⟨_,_,(ze (aM (zH (bP hr.units) (zN zA (pv 0) zg (fun _ _=>rfl)) zg (nomark _)) (ze (zr (i:=2) Dp.nd rfl lo (zD gV (zN zA (pv 0) zg (fun _ _=>rfl)) (pv 1))) (ze (sS (zD jS (zN zA (pv 0) zg (fun _ _=>rfl)) (pv 1)) (CB (pv 0) zg BP)) (zi (zt (pv 2))))) zM) (ze (sS (zx xK hr dz (za (zD zJ (zx xK hr dz (za (zN zA (pv 0) zg (fun _ _=>rfl)) zd)) zg) zd)) (CB (pv 0) zg BP)) (zi (zt (zD gV (zD jS (zN zA (pv 0) zg (fun _ _=>rfl)) zg) (pv 1)))))),(by walk_at "r"),fun xs S R q=>q⟩
theorem JN:Df P w K mg base "_law_names_of" ["pen"] 3 (spN ["pen"] mY):=by
 exact Df.dN dd.a4 zQ 6 rfl fun f z A outer s H E hr=>⟨_,_,(ze (zr (i:=1) zQ.nd rfl (ng rfl) aW) (ze (zr (i:=2) zQ.nd rfl lo (zx zK hr dz (za (pv 0) (za zg zd)))) (ze (zr (i:=3) zQ.nd rfl (ng rfl) (zx zK hr dz (za (pv 0) (za zg zd)))) (ze (vR (i:=4) (fun _ _ h=>h) rfl (cA rfl rfl rfl rfl (N:=["k","letters","first"]) (caps:=[none,some 1,some 3]) (by show bZ ["pen","letters","way","first","names","word","at"] (zh oU).names _ _ _=true;decide +kernel)) zQ.nd rfl rfl (fC rfl T.n_range (za zg zd)) (fun _ _ _ _=>(zB (i:=0) (by show gr (["k","letters","first"]:List Str);decide) rfl (fq rfl))) (fun _ _ _ _=>cQ) (fun _ _ _ _=>(zD cI (zN zA (pv 1) (zD gV (zD zJ (pv 2) (zD cI zg (pv 0))) zg) (fun _ _=>rfl)) (zD zJ zg (zD gV (zD zJ (pv 2) (zD cI zg (pv 0))) zg))))) (ze (aM (zH (bP hr.units) (pv 2) zg (nomark _)) (ze (zr (i:=5) zQ.nd rfl (ng rfl) (fP PySem.F.plainAttrs_str PySem.F.slot_str_join PySem.F.type_str_join Iv aW (za (dJ (fun _ _ h=>h) rfl (cA rfl rfl rfl rfl (N:=["k","letters","first"]) (caps:=[none,some 1,some 3]) (by show bZ ["pen","letters","way","first","names","word","at"] (zh oU).names _ _ _=true;decide +kernel)) (fC rfl T.n_range (za zg zd)) (fun _ _ _ _=>(zB (i:=0) (by show gr (["k","letters","first"]:List Str);decide) rfl (fq rfl))) (fun _ _ _ _=>cQ) (fun _ _ _ _=>(zN zA (pv 1) (zD gV (zD zJ (pv 2) (zD cI zg (pv 0))) zg) (fun _ _=>rfl)))) zd))) (zi (vR (i:=4) (fun _ _ h=>h) rfl (cA rfl rfl rfl rfl (N:=["k","word"]) (caps:=[none,some 5]) (by show bZ ["pen","letters","way","first","names","word","at"] (zh oU).names _ _ _=true;decide +kernel)) zQ.nd rfl rfl (fC rfl T.n_range (za zg zd)) (fun _ _ _ _=>(zB (i:=0) (by show gr (["k","word"]:List Str);decide) rfl (fq rfl))) (fun _ _ _ _=>cQ) (fun _ _ _ _=>(oC qP (pv 1) tF (kJ (zD zJ (pv 0) zg))))))) zM) (ze (aM (zH (bP hr.units) (pv 2) zg (nomark _)) (zi (zr (i:=4) zQ.nd rfl lo (aU (za aW (za aW (za aW (za aW (za aW (za aW (za aW (za aW zd))))))))))) zM) (ze (zr (i:=6) zQ.nd rfl lo (zx zK hr dz (za (pv 0) (za zg zd)))) (ze (zr (i:=4) zQ.nd rfl lo (zD v7 (oC qP (pv 4) (kJ (pv 6)) tF) (oC qP (pv 4) tF (kJ (pv 6))))) (ze (aM (zH (bP hr.units) (zx zK hr dz (za (pv 0) (za zg zd))) zg (nomark _)) (zi (d8 (Bn PySem.F.plainAttrs_list PySem.F.slot_list_reverse PySem.F.type_list_reverse JK (pv 4)))) zM) (zi (zt (pv 4)))))))))))),(zO (bL kO zu) (zO (by walk_at "r") (zO (by walk_at "r") (zO (bL (uQ (gY (zk zY zw)) zu cH (zV gR (zV cV zl (zV iC (zV bR zl (zV gR zY zl)) zY)) (zV bR zY (zV iC (zV bR zl (zV gR zY zl)) zY)))) zu) (zO (gO (by walk_at "r") (zO (bL (De J7 kO (zk (dM (gY (zk zY zw)) zu cH (zV cV zl (zV iC (zV bR zl (zV gR zY zl)) zY))) zw)) zu) (bL (uQ (gY (zk zY zw)) zu cH (wB vM zl tS (vU (zV bR zl zY)))) zu)) dA) (by walk_at "r")))))),fun xs S R q=>q⟩
theorem G6:Df P w K mg base "_law_number_of" ["pen"] 3 (spN ["pen"] mU):=by
 exact Df.dN dd.a5 B4 1 rfl fun f z A outer s H E hr=>⟨_,_,(ze (zr (i:=1) B4.nd rfl lo (zx zK hr dz (za (pv 0) (za zg zd)))) (ze (aM (zH sA (pv 1) zg (nomark _)) (zi (zt (zD eA (zx zK hr dz (za (pv 0) (za zg zd))) zg))) zM) (ze (aM (zH sA (pv 1) zg (nomark _)) (zi (zt (zD eA (zx zK hr dz (za (pv 0) (za zg zd))) zg))) zM) (zi (zt (zD cI (zD eA (zx zK hr dz (za (pv 0) (za (zD cI zg (zD mB zg zg)) zd))) (zD mB zg zg)) (zD mB zg zg))))))),(by walk_at "r"),fun xs S R q=>q⟩
theorem Fl:Df P w K mg base "_law_few" ["pen","most"] 4 (spN ["pen","most"] uB):=by
 exact Df.dN dd.a6 jY 5 rfl fun f z A outer s H E hr=>⟨_,_,(ze (zr (i:=2) jY.nd rfl lo (zx JN hr dz (za (pv 0) zd))) (ze (vR (i:=3) (fun _ _ h=>h) rfl (cA rfl rfl rfl rfl (N:=["k","pen"]) (caps:=[none,some 0]) (by show bZ ["pen","most","names","wides","drawing","k","low"] (zh vS).names _ _ _=true;decide +kernel)) jY.nd rfl rfl (fC rfl T.n_range (za (zD zJ zg (zx zK hr dz (za (pv 0) (za (pv 1) zd)))) zd)) (fun _ _ _ _=>(zB (i:=0) (by show gr (["k","pen"]:List Str);decide) rfl (fq rfl))) (fun _ _ _ _=>cQ) (fun _ _ _ _=>(zD zJ zg (zx zK hr dz (za (pv 1) (za zg zd)))))) (ze (aM (zH (bP hr.units) (zx zK hr dz (za (pv 0) (za zg zd))) zg (nomark _)) (zi (zr (i:=3) jY.nd rfl lo (zN zA (aU (za (zD cI (aU (za zg zd)) zg) (za (aU (za zg (za zg zd))) (za (aU (za zg zd)) (za (zD cI (aU (za zg zd)) zg) zd))))) (zx zK hr dz (za (pv 0) (za zg zd))) (fun _ _=>rfl)))) zM) (ze (zr (i:=4) jY.nd rfl lo (aU zd)) (ze (bT df rfl (fC rfl T.n_range (za (zq cY (by rfl) T.n_len cS (za (pv 3) zd)) zd)) (zB (i:=5) jY.nd rfl (fq rfl)) (ze (zr (i:=6) jY.nd rfl lo (zx G6 hr dz (za (pv 0) zd))) (zi (d8 (fP PySem.F.plainAttrs_list PySem.F.slot_list_append PySem.F.type_list_append pG (pv 4) (za (aP (za (zN zA (pv 2) (pv 5) (fun _ _=>rfl)) (za (pv 6) (za (zD eA (zD zJ (pv 6) (zN zA (pv 3) (pv 5) (fun _ _=>rfl))) zg) zd)))) zd)))))) (zi (zt (i4 kU (by rfl) T.n_tuple fL (za (pv 4) zd))))))))),(zO (by walk_at "r") (zO (bL (dM (gY (zk (zV bR zY (gP (i:=0) (zk zl (zk zl zw)))) zw)) zu cH (zV bR zY (gP (i:=0) (zk zl (zk zY zw))))) zu) (by walk_at "r"))),fun xs S R q=>q⟩
theorem Iq:Df P w K mg base "_law_ends_of" ["drawing","terms"] 1 (spN ["drawing","terms"] rJ):=by
 exact Df.dN dd.a7 iG 5 rfl fun f z A outer s H E hr=>⟨_,_,(ze (zr (i:=2) iG.nd rfl lo zg) (ze (zr (i:=3) iG.nd rfl lo zg) (ze (bT df rfl (bD (pv 1)) (iO (n:=2) rfl (b8 (zB (i:=4) iG.nd rfl (fq rfl)) (b8 (zB (i:=5) iG.nd rfl (fq rfl)) g9))) (ze (zr (i:=6) iG.nd rfl lo (aU (za (zD cI (pv 5) (zN zA (zN zA (pv 0) (pv 4) (fun _ _=>rfl)) zg (fun _ _=>rfl))) (za (zD cI (pv 5) (zN zA (zN zA (pv 0) (pv 4) (fun _ _=>rfl)) zg (fun _ _=>rfl))) zd)))) (ze (zr (i:=2) iG.nd rfl lo (zD zJ (pv 2) (zq (GP rfl hr.units) (by rfl) T.n_min FA (za (pv 6) zd)))) (zi (zr (i:=3) iG.nd rfl lo (zD zJ (pv 3) (zq (Go rfl) (by rfl) T.n_max DB (za (pv 6) zd)))))))) (zi (zt (aP (za (pv 2) (za (pv 3) zd)))))))),(by walk_at "r"),fun xs S R q=>q⟩
theorem HZ:Df P w K mg base "_law_gap_of" ["pen","drawing"] 3 (spN ["pen","drawing"] tH):=by
 exact Df.dN dd.a8 zZ 8 rfl fun f z A outer s H E hr=>⟨_,_,(ze (zr (i:=2) zZ.nd rfl lo (aU zd)) (ze (bT df rfl (fC rfl T.n_range (za (zq cY (by rfl) T.n_len cS (za (pv 1) zd)) zd)) (zB (i:=3) zZ.nd rfl (fq rfl)) (ze (zr (i:=4) zZ.nd rfl lo (zD eA (zx zK hr dz (za (pv 0) (za zg zd))) zg)) (zi (aM (zH (Cl hr.units) (pv 4) (aP (za (i5 jR zg) (za zg (za zg zd)))) (by rfl)) (zi (d8 (fP PySem.F.plainAttrs_list PySem.F.slot_list_append PySem.F.type_list_append pG (pv 2) (za (aP (za (pv 3) (za (pv 4) zd))) zd)))) zM)))) (ze (aM (zH (bP hr.units) (pv 2) (aU zd) (nomark _)) (zi (zr (i:=2) zZ.nd rfl lo (aU (za (aP (za (zx zK hr dz (za (pv 0) (za (zq cY (by rfl) T.n_len cS (za (pv 1) zd)) zd))) (za (zN zA (aU (za zg (za (i5 jR zg) (za zg (za (i5 jR zg) zd))))) (zx zK hr dz (za (pv 0) (za zg zd))) (fun _ _=>rfl)) zd))) zd)))) zM) (ze (sS (zx Iq hr dz (za (pv 1) (za (pv 2) zd))) (iO (n:=2) rfl (b8 (zB (i:=5) zZ.nd rfl (fq rfl)) (b8 (zB (i:=6) zZ.nd rfl (fq rfl)) g9)))) (ze (zr (i:=7) zZ.nd rfl lo (zD eA (pv 6) (pv 5))) (ze (zr (i:=8) zZ.nd rfl lo (zD zJ (pv 5) (zN zA (n9 (zR zg (zR zg (zR (i5 jR zg) (zR (zD jS (pv 7) zg) (zR (zD jS (pv 7) zg) (zR (zD zJ (pv 7) zg) pH))))))) (zx zK hr dz (za (pv 0) (za zg zd))) (fun _ _=>rfl)))) (ze (zr (i:=9) zZ.nd rfl lo (zD zJ (pv 8) (zN zA (n9 (zR zg (zR zg (zR zg (zR (zD jS (pv 7) zg) (zR (pv 7) (zR (zD zJ (pv 7) zg) pH))))))) (zx zK hr dz (za (pv 0) (za zg zd))) (fun _ _=>rfl)))) (zi (zt (aP (za (i4 kU (by rfl) T.n_tuple fL (za (pv 2) zd)) (za (pv 8) (za (pv 9) zd))))))))))))),(by walk_at "r"),fun xs S R q=>q⟩
theorem EG:Df P w K mg base "_law_all_of" ["drawing"] 1 (spN ["drawing"] sT):=by
 exact Df.dN dd.a9 g8 6 rfl fun f z A outer s H E hr=>⟨_,_,(ze (zr (i:=1) g8.nd rfl lo (aU (za (aP zd) zd))) (ze (bT df rfl (bD (pv 0)) (iO (n:=3) rfl (b8 (zB (i:=2) g8.nd rfl (fq rfl)) (b8 (zB (i:=3) g8.nd rfl (ng rfl)) (b8 (zB (i:=4) g8.nd rfl (fq rfl)) g9)))) (ze (zr (i:=5) g8.nd rfl lo (aU zd)) (ze (bT df rfl (bD (pv 1)) (zB (i:=6) g8.nd rfl (ng rfl)) (zi (d8 (fP PySem.F.plainAttrs_list PySem.F.slot_list_extend PySem.F.type_list_extend vY (pv 5) (za (dJ (fun _ _ h=>h) rfl (cA rfl rfl rfl rfl (N:=["k","ahead","low"]) (caps:=[none,some 6,some 3]) (by show bZ ["drawing","found","name","low","high","longer","ahead"] (zh uG).names _ _ _=true;decide +kernel)) (fC rfl T.n_range (za (zD zJ (zD eA (pv 4) (pv 3)) zg) zd)) (fun _ _ _ _=>(zB (i:=0) (by show gr (["k","ahead","low"]:List Str);decide) rfl (fq rfl))) (fun _ _ _ _=>cQ) (fun _ _ _ _=>(zD zJ (pv 1) (aP (za (zD zJ (pv 2) (pv 0)) zd))))) zd))))) (zi (zr (i:=1) g8.nd rfl lo (pv 5)))))) (zi (zt (pv 1))))),(zO (by walk_at "r") (zO (k8 (b9 zl) (by walk_at "r") (IJ (zO (A2 (zO (by walk_at "r") (k8 (b9 zl) zu (lS (mJ rZ zl (zk (dM (gY (zk (zV bR (zV lO zl zl) zY) zw)) zu cH (zV bR zl (fK (zk (zV bR zl zl) zw)))) zw)))))) (bL zl zu)))) (bO zl))),fun xs S R q=>q⟩
theorem uZ:Df P w K mg base "_law_at_of" ["one","parts"] 1 (spN ["one","parts"] mF):=by
 exact Df.dN dd.a10 EM 0 rfl fun f z A outer s H E hr=>⟨_,_,(zi (zt (i4 kU (by rfl) T.n_tuple fL (za (dJ (fun _ _ h=>h) rfl (cA rfl rfl rfl rfl (N:=["part","one"]) (caps:=[none,some 0]) (by show bZ ["one","parts"] (zh uU).names _ _ _=true;decide +kernel)) (bD (pv 1)) (fun _ _ _ _=>(zB (i:=0) (by show gr (["part","one"]:List Str);decide) rfl (fq rfl))) (fun _ _ _ _=>cQ) (fun _ _ _ _=>(zN zA (pv 1) (pv 0) (fun _ _=>rfl)))) zd)))),(bO (bC sF (zk (dM (b9 zl) zu cH (zV cV zl zl)) zw))),fun xs S R q=>q⟩
theorem Fq:Df P w K mg base "_law_kept" ["gap","one"] 1 (spN ["gap","one"] sI):=by
 exact Df.dN dd.a11 Ds 1 rfl fun f z A outer s H E hr=>⟨_,_,(ze (zr (i:=2) Ds.nd rfl lo (zq (Dx rfl) (by rfl) T.n_sum Al (za (dJ (fun _ _ h=>h) rfl (cA rfl rfl rfl rfl (N:=["part","times","one"]) (caps:=[none,none,some 1]) (by show bZ ["gap","one","worth"] (zh wJ).names _ _ _=true;decide +kernel)) (bD (zN zA (pv 0) zg (fun _ _=>rfl))) (fun _ _ _ _=>(iO (n:=2) rfl (b8 (zB (i:=0) (by show gr (["part","times","one"]:List Str);decide) rfl (fq rfl)) (b8 (zB (i:=1) (by show gr (["part","times","one"]:List Str);decide) rfl (fq rfl)) g9)))) (fun _ _ _ _=>cQ) (fun _ _ _ _=>(zD cI (pv 1) (zN zA (pv 2) (pv 0) (fun _ _=>rfl))))) zd))) (zi (zt (Dq mX mX (zN zA (pv 0) zg (fun _ _=>rfl)) (pv 2) (zN zA (pv 0) zg (fun _ _=>rfl)))))),(zO (bL (bC wU (zk (dM (b9 (zV cV zl zY)) (sK (iP zu (iP zu rV))) cH (zV gR zl (zV cV zl zl))) zw)) zu) (by walk_at "r")),fun xs S R q=>q⟩
theorem Km:Df P w K mg base "_law_twins_of" ["some","gap","parts"] 2 (spN ["some","gap","parts"] qE):=by
 exact Df.dN dd.a12 jB 5 rfl fun f z A outer s H E hr=>⟨_,_,(ze (zr (i:=3) jB.nd rfl lo Bw) (ze (zr (i:=4) jB.nd rfl lo Bw) (ze (bT df rfl (bD (pv 0)) (zB (i:=5) jB.nd rfl (fq rfl)) (ze (zr (i:=6) jB.nd rfl lo (BG (cG (zx Fq hr dz (za (pv 1) (za (pv 5) zd))) (fun _=>rfl)) (pv 3) (pv 4))) (zi (aM (zH (FI hr.units) (zx uZ hr dz (za (pv 5) (za (pv 2) zd))) (pv 6) (by rfl)) (zi (FZ (vH hr) (pv 6) (zx uZ hr dz (za (pv 5) (za (pv 2) zd))) (pv 5) rfl)) zM)))) (ze (bT df rfl (bD (pv 0)) (zB (i:=5) jB.nd rfl (fq rfl)) (ze (zr (i:=7) jB.nd rfl lo (zx uZ hr dz (za (pv 5) (za (pv 2) zd)))) (zi (aM (PW.pt (mO (zH (C4 hr.units) (pv 7) (pv 3) (by rfl)) (mO (zH (C4 hr.units) (pv 7) (pv 4) (by rfl)) (rP (zH (bP hr.units) (C8 (vH hr) (pv 3) (pv 7) (fun _ _=>rfl)) (pv 5) (nomark _)))))) (zi (zt (aP (za (pv 5) (za (C8 (vH hr) (pv 4) (pv 7) (fun _ _=>rfl)) zd))))) zM)))) (zi (zt eW)))))),(Ef (Cg (yT (yT (mW (vX (fun M=>uE (b9 zl)) zu (mW (uL (fun M=>(bU (by walk_at "r"))) zu) (CT (fun M=>(rL (wP tI (bU (by walk_at "r")) (bU zl)))) (Hl (fun M=>(bU (by walk_at "r"))) (fun M=>(bU zl))) (rD dA)))) (vX (fun M=>uE (b9 zl)) zu (mW (rD (by walk_at "r")) (CT (fun M=>(Ag (rL (wP tI (bU zl) (bU zl))) (Ag (rL (wP tI (bU zl) (bU zl))) (rL (E7 jN (Dn (bU zl) (bU zl)) (bU zl)))))) (BF (fun M=>(Ih (rB (bU zl) (rB (Dn (bU zl) (bU zl)) (cN zw)))))) (rD dA)))))))) (bO tO)),fun xs S R q=>q⟩
theorem IE:Df P w K mg base "numbers_at" ["one","parts"] 1 (spN ["one","parts"] rW):=by
 exact Df.dN dd.a13 JF 0 rfl fun f z A outer s H E hr=>⟨_,_,(zi (zt (i4 kU (by rfl) T.n_tuple fL (za (dJ (fun _ _ h=>h) rfl (cA rfl rfl rfl rfl (N:=["part","one"]) (caps:=[none,some 0]) (by show bZ ["one","parts"] (zh uV).names _ _ _=true;decide +kernel)) (bD (pv 1)) (fun _ _ _ _=>(zB (i:=0) (by show gr (["part","one"]:List Str);decide) rfl (fq rfl))) (fun _ _ _ _=>cQ) (fun _ _ _ _=>(zN zA (pv 1) (pv 0) (fun _ _=>rfl)))) zd)))),(bO (bC sF (zk (dM (b9 zl) zu cH (zV cV zl zl)) zw))),fun xs S R q=>q⟩
theorem wL:Df P w K mg base "twins_among" ["looks","parts"] 2 (spN ["looks","parts"] kH):=by
 exact Df.dN dd.a14 jZ 5 rfl fun f z A outer s H E hr=>⟨_,_,(ze (zr (i:=2) jZ.nd rfl lo Ka) (ze (bT df rfl (bD (pv 0)) (iO (n:=2) rfl (b8 (zB (i:=3) jZ.nd rfl (fq rfl)) (b8 (zB (i:=4) jZ.nd rfl (fq rfl)) g9))) (zi (d8 (LI (g:=(.two (.many .int) .bool)) dz rfl hr.units (pv 2) (aP (za (zx IE hr dz (za (pv 3) (za (pv 1) zd))) (za (pv 4) zd))) (pv 3) ⟨rfl,rfl,rfl,rfl⟩)))) (ze (bT df rfl (FR (pv 2) rfl rfl) (iO (n:=2) rfl (b8 (zB (i:=5) jZ.nd rfl (fq rfl)) (b8 (zB (i:=3) jZ.nd rfl (fq rfl)) g9))) (ze (zr (i:=6) jZ.nd rfl lo (Jf (g:=(.two (.many .int) .bool)) dz rfl hr.units (pv 2) (aP (za (zN zA (pv 5) zg (fun _ _=>rfl)) (za cK zd))) ⟨rfl,rfl,rfl,rfl⟩)) (zi (aM (PW.pt (mO (cG (zN zA (pv 5) zg (fun _ _=>rfl)) (fun _=>rfl)) (rP (zH FW (pv 6) eW (nomark _))))) (zi (zt (aP (za (pv 3) (za (pv 6) zd))))) zM)))) (zi (zt eW))))),(Kz (Cg (xO (mW (vX (fun M=>uE (b9 zl)) (by walk_at "r") (CW rfl (fun M=>(bU (by walk_at "r"))) (fun M=>(bU zl)))) (DX (by walk_at "r") (mW (uL (fun M=>(Hv (bU zl) (bU (by walk_at "r")))) zu) (rD (by walk_at "r"))))))) (bO tO)),fun xs S R q=>q⟩
theorem Hk:Df P w K mg base "worth_of" ["gap","one"] 1 (spN ["gap","one"] sV):=by
 exact Df.dN dd.a15 HW 0 rfl fun f z A outer s H E hr=>⟨_,_,(zi (zt (zq (Dx rfl) (by rfl) T.n_sum Al (za (dJ (fun _ _ h=>h) rfl (cA rfl rfl rfl rfl (N:=["part","times","one"]) (caps:=[none,none,some 1]) (by show bZ ["gap","one"] (zh xJ).names _ _ _=true;decide +kernel)) (bD (zN zA (pv 0) zg (fun _ _=>rfl))) (fun _ _ _ _=>(iO (n:=2) rfl (b8 (zB (i:=0) (by show gr (["part","times","one"]:List Str);decide) rfl (fq rfl)) (b8 (zB (i:=1) (by show gr (["part","times","one"]:List Str);decide) rfl (fq rfl)) g9)))) (fun _ _ _ _=>cQ) (fun _ _ _ _=>(zD cI (pv 1) (zN zA (pv 2) (pv 0) (fun _ _=>rfl))))) zd)))),(bO (bC wU (zk (dM (b9 (zV cV zl zY)) (sK (iP zu (iP zu rV))) cH (zV gR zl (zV cV zl zl))) zw))),fun xs S R q=>q⟩
theorem vE:Df P w K mg base "keeps" ["gap","one"] 2 (spN ["gap","one"] kY):=by
 exact Df.dN dd.a16 GN 0 rfl fun f z A outer s H E hr=>⟨_,_,(zi (zt (Dq mX mX (zN zA (pv 0) zg (fun _ _=>rfl)) (zx Hk hr dz (za (pv 0) (za (pv 1) zd))) (zN zA (pv 0) zg (fun _ _=>rfl))))),(by walk_at "r"),fun xs S R q=>q⟩
theorem Dm:Df P w K mg base "size_of" ["one"] 1 (spN ["one"] oW):=by
 exact Df.dN dd.a17 EN 0 rfl fun f z A outer s H E hr=>⟨_,_,(zi (zt (zD zJ (zD eA (zN zA (pv 0) zg (fun _ _=>rfl)) (zN zA (pv 0) zg (fun _ _=>rfl))) zg))),(by walk_at "r"),fun xs S R q=>q⟩
theorem C2:Df P w K mg base "span_of" ["part"] 1 (spN ["part"] oK):=by
 exact Df.dN dd.a18 HU 0 rfl fun f z A outer s H E hr=>⟨_,_,(zi (zt (aP (za (zN zA (pv 0) zg (fun _ _=>rfl)) (za (zN zA (pv 0) zg (fun _ _=>rfl)) zd))))),(by walk_at "r"),fun xs S R q=>q⟩
theorem Bd:Df P w K mg base "how_many" ["drawing"] 2 (spN ["drawing"] jL):=by
 exact Df.dN dd.a19 qR 2 rfl fun f z A outer s H E hr=>⟨_,_,(ze (zr (i:=1) qR.nd rfl lo zg) (ze (bT df rfl (bD (pv 0)) (zB (i:=2) qR.nd rfl (fq rfl)) (zi (zr (i:=1) qR.nd rfl lo (zD cI (pv 1) (zx Dm hr dz (za (zx C2 hr dz (za (pv 2) zd)) zd)))))) (zi (zt (pv 1))))),(by walk_at "r"),fun xs S R q=>q⟩
theorem Cy:DfX P w K mg base "refuse_too_many_sets" ["drawing"] 3 (spX ["drawing"] zX):=by
 exact DfX.dN dd.a20 sO 1 rfl fun f z A outer s H E EX hr=>⟨_,_,(ze (DW (zr (i:=1) sO.nd rfl lo (zx Bd hr dz (za (pv 0) zd)))) (zi (aM (PT.nox (zH C3 (pv 1) (wF rfl T.g_MOST_SETS) (nomark _))) (zi (F4 xx.r_TooGreat (fun _ _ F=>JU F) Et hr dz xx.m_TooGreat dz (za (pv 1) (za (wF rfl T.g_MOST_SETS) zd)))) zM))),(eX (dU (by walk_at "r")) (kX (kQ (by walk_at "r")) (JR xx.r_TooGreat.i xx.r_TooGreat.na (by walk_at "r")) (dU dA))),fun xs S R q=>q⟩
theorem HE:Df P w K mg base "refuse_too_many_sets" ["drawing"] 3 (spN ["drawing"] rA):=by
 exact Df.dN dd.a20 sO 1 rfl fun f z A outer s H E hr=>⟨_,_,(ze (zr (i:=1) sO.nd rfl lo (zx Bd hr dz (za (pv 0) zd))) (zi (aM (zH C3 (pv 1) (wF rfl T.g_MOST_SETS) (nomark _)) (zi uD) zM))),(by walk_at "r"),fun xs S R q=>q⟩
theorem Bu:Df P w K mg base "each_longer" ["beginnings","numbers"] 1 (spN ["beginnings","numbers"] n8):=by
 exact Df.dN dd.a21 v0 2 rfl fun f z A outer s H E hr=>⟨_,_,(ze (zr (i:=2) v0.nd rfl lo (aU zd)) (ze (bT df rfl (bD (pv 0)) (zB (i:=3) v0.nd rfl (ng rfl)) (zi (d8 (fP PySem.F.plainAttrs_list PySem.F.slot_list_extend PySem.F.type_list_extend vY (pv 2) (za (dJ (fun _ _ h=>h) rfl (cA rfl rfl rfl rfl (N:=["number","beginning"]) (caps:=[none,some 3]) (by show bZ ["beginnings","numbers","longer","beginning"] (zh xH).names _ _ _=true;decide +kernel)) (bD (pv 1)) (fun _ _ _ _=>(zB (i:=0) (by show gr (["number","beginning"]:List Str);decide) rfl (fq rfl))) (fun _ _ _ _=>cQ) (fun _ _ _ _=>(zD zJ (pv 1) (aP (za (pv 0) zd))))) zd))))) (zi (zt (pv 2))))),(zO (by walk_at "r") (zO (k8 (b9 zl) zu (lS (mJ rZ zl (zk (dM (b9 zl) zu cH (zV bR zl (fK (zk zl zw)))) zw)))) (bO zl))),fun xs S R q=>q⟩
theorem CA:DfX P w K mg base "all_sets" ["drawing"] 4 (spX ["drawing"] m5):=by
 exact DfX.dN dd.a22 iI 2 rfl fun f z A outer s H E EX hr=>⟨_,_,(ze (d8 (dD Cy pass1 hr dz (za (PE.nox (pv 0)) zd))) (PSs.nox (ze (zr (i:=1) iI.nd rfl lo (aU (za (aP zd) zd))) (ze (bT df rfl (bD (pv 0)) (zB (i:=2) iI.nd rfl (fq rfl)) (zi (zr (i:=1) iI.nd rfl lo (zx Bu hr dz (za (pv 1) (za (xX rfl rfl T.n_list rfl T.n_range (za (zN zA (pv 2) zg (fun _ _=>rfl)) (za (zD zJ (zN zA (pv 2) zg (fun _ _=>rfl)) zg) zd))) zd)))))) (zi (zt (pv 1))))))),(eX (CM (c8 (cN (zk zl zw)))) (dU (by walk_at "r"))),fun xs S R q=>q⟩
theorem Hu:Df P w K mg base "all_sets" ["drawing"] 4 (spN ["drawing"] rM):=by
 exact Df.dN dd.a22 iI 2 rfl fun f z A outer s H E hr=>⟨_,_,(ze (d8 (zx HE hr dz (za (pv 0) zd))) (ze (zr (i:=1) iI.nd rfl lo (aU (za (aP zd) zd))) (ze (bT df rfl (bD (pv 0)) (zB (i:=2) iI.nd rfl (fq rfl)) (zi (zr (i:=1) iI.nd rfl lo (zx Bu hr dz (za (pv 1) (za (xX rfl rfl T.n_list rfl T.n_range (za (zN zA (pv 2) zg (fun _ _=>rfl)) (za (zD zJ (zN zA (pv 2) zg (fun _ _=>rfl)) zg) zd))) zd)))))) (zi (zt (pv 1)))))),(by walk_at "r"),fun xs S R q=>q⟩
theorem w6:DfX P w K mg base "looked_at" ["drawing","gap"] 5 (spX ["drawing","gap"] kL):=by
 exact DfX.dN dd.a23 DJ 0 rfl fun f z A outer s H E EX hr=>⟨_,_,(zi (zt (Fw rfl (cA rfl rfl rfl rfl (N:=["one","gap"]) (caps:=[none,some 1]) (by show bZ ["drawing","gap"] (zh qF).names _ _ _=true;decide +kernel)) (bD (dD CA pass1 hr dz (za (PE.nox (pv 0)) zd))) (fun _ _ _ _=>(zB (i:=0) (by show gr (["one","gap"]:List Str);decide) rfl (fq rfl))) (fun _ _ _ _=>cQ) (fun _ _ _ _=>(aP (za (pv 0) (za (zx vE hr dz (za (pv 1) (za (pv 0) zd))) zd))))))),(fY (LG (IC (c8 (cN (zk zl zw)))) zu cH (fK (zk zl (zk (dG (zk zl (zk zl zw))) zw))))),fun xs S R q=>q⟩
theorem Jt:Df P w K mg base "looked_at" ["drawing","gap"] 5 (spN ["drawing","gap"] sJ):=by
 exact Df.dN dd.a23 DJ 0 rfl fun f z A outer s H E hr=>⟨_,_,(zi (zt (dJ (fun _ _ h=>h) rfl (cA rfl rfl rfl rfl (N:=["one","gap"]) (caps:=[none,some 1]) (by show bZ ["drawing","gap"] (zh qF).names _ _ _=true;decide +kernel)) (bD (zx Hu hr dz (za (pv 0) zd))) (fun _ _ _ _=>(zB (i:=0) (by show gr (["one","gap"]:List Str);decide) rfl (fq rfl))) (fun _ _ _ _=>cQ) (fun _ _ _ _=>(aP (za (pv 0) (za (zx vE hr dz (za (pv 1) (za (pv 0) zd))) zd))))))),(bO (uQ (b9 (dG (zk zl zw))) zu cH (fK (zk zl (zk (dG (zk zl (zk zl zw))) zw))))),fun xs S R q=>q⟩
theorem Cc:DfX P w K mg base "twins" ["drawing","gap","parts"] 6 (spX ["drawing","gap","parts"] oA):=by
 exact DfX.dN dd.a24 CN 0 rfl fun f z A outer s H E EX hr=>⟨_,_,(zi (zt (zx wL hr dz (za (dD w6 pass1 hr dz (za (PE.nox (pv 0)) (za (PE.nox (pv 1)) zd))) (za (PE.nox (pv 2)) zd))))),(fY (Ic (rB (c8 (cN (by walk_at "r"))) (rB (bU zl) (cN zw))))),fun xs S R q=>q⟩
theorem yU:Df P w K mg base "twins" ["drawing","gap","parts"] 6 (spN ["drawing","gap","parts"] p8):=by
 exact Df.dN dd.a24 CN 0 rfl fun f z A outer s H E hr=>⟨_,_,(zi (zt (zx wL hr dz (za (zx Jt hr dz (za (pv 0) (za (pv 1) zd))) (za (pv 2) zd))))),(by walk_at "r"),fun xs S R q=>q⟩
theorem Gx:DfX P w K mg base "decides" ["drawing","gap","parts"] 7 (spX ["drawing","gap","parts"] tM):=by
 exact DfX.dN dd.a25 DC 0 rfl fun f z A outer s H E EX hr=>⟨_,_,(zi (zt (eF iF (dD Cc pass1 hr dz (za (PE.nox (pv 0)) (za (PE.nox (pv 1)) (za (PE.nox (pv 2)) zd)))) eW (nomark _)))),(fY (Kq (c8 (cN (by walk_at "r"))))),fun xs S R q=>q⟩
theorem II:Df P w K mg base "decides" ["drawing","gap","parts"] 7 (spN ["drawing","gap","parts"] sB):=by
 exact Df.dN dd.a25 DC 0 rfl fun f z A outer s H E hr=>⟨_,_,(zi (zt (eF iF (zx yU hr dz (za (pv 0) (za (pv 1) (za (pv 2) zd)))) eW (nomark _)))),(by walk_at "r"),fun xs S R q=>q⟩
theorem B6:DfN P w K mg base "_law_whole" ["found"] 1 (spN ["found"] jM):=by
 exact DfN.dN dd.a26 BW 0 rfl fun f z A outer s H hr=>⟨_,_,(zi (zt (iM (zq fB (by rfl) T.n_isinstance zp (za (pv 0) (za (eP rfl T.n_int tK (v:=.ty "int") rfl) zd))) (hJ (xE (zq fB (by rfl) T.n_isinstance zp (za (pv 0) (za (eP rfl T.n_bool tE (v:=.ty "bool") rfl) zd)))))))),(by walk_at "r"),fun xs S R q=>q⟩
theorem Ei:Df P w K mg base "_law_whole" ["found"] 1 (spN ["found"] jM):=by
 exact Df.dN dd.a26 BW 0 rfl fun f z A outer s H E hr=>⟨_,_,(zi (zt (iM (zq fB (by rfl) T.n_isinstance zp (za (pv 0) (za (eP rfl T.n_int tK (v:=.ty "int") rfl) zd))) (hJ (xE (zq fB (by rfl) T.n_isinstance zp (za (pv 0) (za (eP rfl T.n_bool tE (v:=.ty "bool") rfl) zd)))))))),(by walk_at "r"),fun xs S R q=>q⟩
theorem Ak:Df P w K mg base "_law_tuple_of" ["found","due"] 2 (spN ["found","due"] lV):=by
 exact Df.dN dd.a27 Jx 0 rfl fun f z A outer s H E hr=>⟨_,_,(ze (aM (PW.pt (fJ (eQ (cG (zq fB (by rfl) T.n_isinstance zp (za (pv 0) (za (eP rfl T.n_tuple fL (v:=.ty "tuple") rfl) zd))) (fun _=>rfl))) (gW (zH (iW hr.units) (zq cY (by rfl) T.n_len cS (za (pv 0) zd)) (zq cY (by rfl) T.n_len cS (za (pv 1) zd)) (nomark _))))) (zi (zt cK)) zM) (zi (zt (iM (zq (wE rfl) (by rfl) T.n_all vQ (za (dJ (fun _ _ h=>h) rfl (cA (L:=0) rfl rfl rfl rfl (N:=["number"]) (caps:=[none]) (by show bZ ["found","due"] (zh vA).names _ _ _=true;decide +kernel)) (bD (pv 0)) (fun _ _ _ _=>(zB (i:=0) (by show gr (["number"]:List Str);decide) rfl (fq rfl))) (fun _ _ _ _=>cQ) (fun _ _ _ _=>(zx Ei hr dz (za (pv 0) zd)))) zd)) (hJ (eF (bP hr.units) (pv 0) (i4 kU (by rfl) T.n_tuple fL (za (pv 1) zd)) (nomark _))))))),(zO (by walk_at "r") (bO (qN (bC sX (zk (dM (b9 zl) zu cH (dG (zk zl zw))) zw)) (by walk_at "r")))),fun xs S R q=>q⟩
theorem Iw:Df P w K mg base "_law_right" ["drawing","gap","parts","some"] 8 (spN ["drawing","gap","parts","some"] qW):=by
 exact Df.dN dd.a28 qK 3 rfl fun f z A outer s H E hr=>⟨_,_,(ze (zr (i:=4) qK.nd rfl lo (zx Km hr dz (za (pv 3) (za (pv 1) (za (pv 2) zd))))) (ze (zr (i:=5) qK.nd rfl lo (zx yU hr dz (za (pv 0) (za (pv 1) (za (pv 2) zd))))) (ze (zr (i:=6) qK.nd rfl lo (zx II hr dz (za (pv 0) (za (pv 1) (za (pv 2) zd))))) (ze (aM (PW.pt (fJ (eQ (cG (zq fB (by rfl) T.n_isinstance zp (za (pv 6) (za (eP rfl T.n_bool tE (v:=.ty "bool") rfl) zd))) (fun _=>rfl))) (gW (zH (iW hr.units) (pv 6) (eF iF (pv 4) eW (nomark _)) (nomark _))))) (zi (zt cK)) zM) (ze (aM (PW.pt (fJ (zH iF (pv 4) eW (nomark _)) (gW (zH iF (pv 5) eW (nomark _))))) (zi (zt (iM (eF iF (pv 4) eW (nomark _)) (hJ (eF iF (pv 5) eW (nomark _)))))) zM) (ze (aM (PW.pt (fJ (eQ (cG (zq fB (by rfl) T.n_isinstance zp (za (pv 5) (za (eP rfl T.n_tuple fL (v:=.ty "tuple") rfl) zd))) (fun _=>rfl))) (gW (zH (iW hr.units) (zq cY (by rfl) T.n_len cS (za (pv 5) zd)) zg (nomark _))))) (zi (zt cK)) zM) (zi (zt (iM (zx Ak hr dz (za (zN zA (pv 5) zg (fun _ _=>rfl)) (za (zN zA (pv 4) zg (fun _ _=>rfl)) zd))) (hJ (zx Ak hr dz (za (zN zA (pv 5) zg (fun _ _=>rfl)) (za (zN zA (pv 4) zg (fun _ _=>rfl)) zd))))))))))))),(by walk_at "r"),fun xs S R q=>q⟩
theorem FU:Df P w K mg base "is_whole" ["thing"] 1 (spN ["thing"] Bo):=by
 exact Df.dN dd.a29 IZ 0 rfl fun f z A outer s H E hr=>⟨_,_,(zi (zt (iM (zq fB (by rfl) T.n_isinstance zp (za (pv 0) (za (eP rfl T.n_int tK (v:=.ty "int") rfl) zd))) (hJ (xE (zq fB (by rfl) T.n_isinstance zp (za (pv 0) (za (eP rfl T.n_bool tE (v:=.ty "bool") rfl) zd)))))))),(by walk_at "r"),fun xs S R q=>q⟩
theorem IL:Df P w K mg base "is_measure" ["drawing","thing"] 2 (spN ["drawing","thing"] AE):=by
 exact Df.dN dd.a30 Em 0 rfl fun f z A outer s H E hr=>⟨_,_,(ze (aM (PW.pt (fJ (eQ (cG (zq fB (by rfl) T.n_isinstance zp (za (pv 1) (za (eP rfl T.n_tuple fL (v:=.ty "tuple") rfl) zd))) (fun _=>rfl))) (fJ (zH (iW hr.units) (zq cY (by rfl) T.n_len cS (za (pv 1) zd)) zg (nomark _)) (gW (zH (iW hr.units) (zN zA (pv 1) zg (fun _ _=>rfl)) aW (nomark _)))))) (zi (zt cK)) zM) (ze (aM (PW.pt (fJ (eQ (cG (zx FU hr dz (za (zN zA (pv 1) zg (fun _ _=>rfl)) zd)) (fun _=>rfl))) (gW (eQ (EJ mX sA zg (zN zA (pv 1) zg (fun _ _=>rfl)) (zq cY (by rfl) T.n_len cS (za (pv 0) zd))))))) (zi (zt cK)) zM) (zi (zt (iM (zq fB (by rfl) T.n_isinstance zp (za (zN zA (pv 1) zg (fun _ _=>rfl)) (za (eP rfl T.n_tuple fL (v:=.ty "tuple") rfl) zd))) (hJ (eF (bP hr.units) (zq cY (by rfl) T.n_len cS (za (zN zA (pv 1) zg (fun _ _=>rfl)) zd)) (zx Dm hr dz (za (zx C2 hr dz (za (zN zA (pv 0) (zN zA (pv 1) zg (fun _ _=>rfl)) (fun _ _=>rfl)) zd)) zd)) (nomark _)))))))),(by walk_at "r"),fun xs S R q=>q⟩
theorem Hn:Df P w K mg base "is_plan" ["drawing","thing"] 3 (spN ["drawing","thing"] BT):=by
 obtain⟨z,t_BREAKS⟩:=dd.t_BREAKS;obtain⟨aa,t_KEEPS⟩:=dd.t_KEEPS;exact Df.dN dd.a31 nR 4 rfl fun f ac A outer s H E hr=>⟨_,_,(ze (zr (i:=2) nR.nd rfl lo (aU (za (aP (za (pv 1) (za (aP zd) zd))) zd))) (ze (yB df (cG (pv 2) (fun _=>rfl)) (ze (zr (i:=3) nR.nd rfl lo (Bn PySem.F.plainAttrs_list PySem.F.slot_list_pop PySem.F.type_list_pop KK (pv 2))) (ze (zr (i:=4) nR.nd rfl (ng rfl) (zN zA (pv 3) zg (fun _ _=>rfl))) (ze (zr (i:=5) nR.nd rfl (ng rfl) (zN zA (pv 3) zg (fun _ _=>rfl))) (zi (aM (PW.pt (mO (cG (zx IL hr dz (za (pv 0) (za (pv 4) zd))) (fun _=>rfl)) (rP (zH (Cl hr.units) (zN zA (pv 4) zg (fun _ _=>rfl)) (pv 5) (by rfl))))) (zi (d8 (fP PySem.F.plainAttrs_list PySem.F.slot_list_extend PySem.F.type_list_extend vY (pv 2) (za (dJ (fun _ _ h=>h) rfl (cA rfl rfl rfl rfl (N:=["further","measured","plan"]) (caps:=[none,some 5,some 4]) (by show bZ ["drawing","thing","left","asked","plan","measured"] (zh tV).names _ _ _=true;decide +kernel)) (bD (zN zA (pv 4) zg (fun _ _=>rfl))) (fun _ _ _ _=>(zB (i:=0) (by show gr (["further","measured","plan"]:List Str);decide) rfl (fq rfl))) (fun _ _ _ _=>cQ) (fun _ _ _ _=>(aP (za (pv 0) (za (zD zJ (pv 1) (aP (za (zN zA (pv 2) zg (fun _ _=>rfl)) zd))) zd))))) zd)))) (zi (aM (PW.pt (mO (zH (Ab t_KEEPS (by decide +kernel) hr.units) (pv 4) (dR (v:=.ref aa) rfl t_KEEPS.1 rfl) (nomark _)) (rP (zH (Ab t_BREAKS (by decide +kernel) hr.units) (pv 4) (dR (v:=.ref z) rfl t_BREAKS.1 rfl) (nomark _))))) (zi (zt cK)) zM)))))))) (zi (zt cK)))),(zO (by walk_at "r") (zO (t0 (iS zl) (zO (by walk_at "r") (zO (by walk_at "r") (zO (by walk_at "r") (gO (by walk_at "r") (lS (mJ rZ zl (zk (dM (b9 (zV cV zl zY)) zu cH (fK (zk zl (zk (zV bR zl (fK (zk (zV cV zl zY) zw))) zw)))) zw))) (by walk_at "r")))))) (bO gS))),fun xs S R q=>q⟩
theorem GT:Df P w K mg base "led" ["plan","drawing","one"] 1 (spN ["plan","drawing","one"] yH):=by
 exact Df.dN dd.a32 lK 3 rfl fun f z A outer s H E hr=>⟨_,_,(ze (zr (i:=3) lK.nd rfl lo (aU zd)) (ze (zr (i:=4) lK.nd rfl lo (pv 0)) (ze (yB df (zH (bP hr.units) (zN zA (pv 4) zg (fun _ _=>rfl)) aW (nomark _)) (ze (zr (i:=5) lK.nd rfl lo (zN zA (pv 4) zg (fun _ _=>rfl))) (ze (d8 (fP PySem.F.plainAttrs_list PySem.F.slot_list_append PySem.F.type_list_append pG (pv 3) (za (pv 5) zd))) (zi (zr (i:=4) lK.nd rfl lo (zN zA (zN zA (pv 4) zg (fun _ _=>rfl)) (zD eA (zN zA (pv 2) (pv 5) (fun _ _=>rfl)) (zN zA (zN zA (pv 1) (pv 5) (fun _ _=>rfl)) zg (fun _ _=>rfl))) (fun _ _=>rfl))))))) (zi (zt (aP (za (pv 3) (za (zN zA (pv 4) zg (fun _ _=>rfl)) zd)))))))),(Gv (zO (A2 (by walk_at "r")) (by walk_at "r"))),fun xs S R q=>q⟩
theorem HR:DfX P w K mg base "plan_holds" ["drawing","gap","thing"] 5 (spX ["drawing","gap","thing"] tN):=by
 exact DfX.dN dd.a33 Ce 1 rfl fun f z A outer s H E EX hr=>⟨_,_,(ze (zr (i:=3) Ce.nd rfl lo (dD CA pass1 hr dz (za (PE.nox (pv 0)) zd))) (PSs.nox (ze (aM (eQ (cG (zx Hn hr dz (za (pv 0) (za (pv 2) zd))) (fun _=>rfl))) (zi (zt cK)) zM) (zi (zt (zq (wE rfl) (by rfl) T.n_all vQ (za (dJ (fun _ _ h=>h) rfl (cA rfl rfl rfl rfl (N:=["one","gap","thing","drawing"]) (caps:=[none,some 1,some 2,some 0]) (by show bZ ["drawing","gap","thing","sets"] (zh wA).names _ _ _=true;decide +kernel)) (bD (pv 3)) (fun _ _ _ _=>(zB (i:=0) (by show gr (["one","gap","thing","drawing"]:List Str);decide) rfl (fq rfl))) (fun _ _ _ _=>cQ) (fun _ _ _ _=>(eF (bP hr.units) (eF (bP hr.units) (zN zA (zx GT hr dz (za (pv 2) (za (pv 3) (za (pv 0) zd)))) zg (fun _ _=>rfl)) aW (nomark _)) (zx vE hr dz (za (pv 1) (za (pv 0) zd))) (nomark _)))) zd))))))),(eX (uN (c8 (cN (zk zl zw))) zu) (dU (zO (by walk_at "r") (bO (bC sX (zk (dM (b9 zl) zu cH (zV jN (zV jN (zV cV (dG (zk zl (zk zl (zk zl zw)))) zY) kO) (dG (zk zl (zk zl zw))))) zw)))))),fun xs S R q=>q⟩
theorem FF:Df P w K mg base "each_with_one_more" ["choices","size"] 1 (spN ["choices","size"] yW):=by
 exact Df.dN dd.a34 lZ 4 rfl fun f z A outer s H E hr=>⟨_,_,(ze (zr (i:=2) lZ.nd rfl lo (aU zd)) (ze (bT df rfl (bD (pv 0)) (zB (i:=3) lZ.nd rfl (fq rfl)) (ze (zr (i:=4) lZ.nd rfl lo (BG (cG (pv 3) (fun _=>rfl)) (zD zJ (zN zA (pv 3) (i5 jR zg) (fun _ _=>rfl)) zg) zg)) (zi (bT df rfl (F3 rfl T.n_range (za (pv 4) (za (pv 1) zd))) (zB (i:=5) lZ.nd rfl (fq rfl)) (zi (d8 (fP PySem.F.plainAttrs_list PySem.F.slot_list_append PySem.F.type_list_append pG (pv 2) (za (zD zJ (pv 3) (aP (za (pv 5) zd))) zd)))))))) (zi (zt (pv 2))))),(by walk_at "r"),fun xs S R q=>q⟩
theorem IY:Df P w K mg base "choices_of" ["size","many"] 2 (spN ["size","many"] Bx):=by
 exact Df.dN dd.a35 qT 2 rfl fun f z A outer s H E hr=>⟨_,_,(ze (zr (i:=2) qT.nd rfl lo (aU (za (aP zd) zd))) (ze (bT df rfl (fC rfl T.n_range (za (pv 1) zd)) (zB (i:=3) qT.nd rfl (fq rfl)) (zi (zr (i:=2) qT.nd rfl lo (zx FF hr dz (za (pv 2) (za (pv 0) zd)))))) (zi (zt (pv 2))))),(by walk_at "r"),fun xs S R q=>q⟩
theorem JB:DfX P w K mg base "fewest" ["drawing","gap"] 6 (spX ["drawing","gap"] qL):=by
 exact DfX.dN dd.a36 sL 3 rfl fun f z A outer s H E EX hr=>⟨_,_,(ze (zr (i:=2) sL.nd rfl lo (dD w6 pass1 hr dz (za (PE.nox (pv 0)) (za (PE.nox (pv 1)) zd)))) (PSs.nox (zi (bT df rfl (fC rfl T.n_range (za (zD zJ (zq cY (by rfl) T.n_len cS (za (pv 0) zd)) zg) zd)) (zB (i:=3) sL.nd rfl (fq rfl)) (zi (bT df rfl (bD (zx IY hr dz (za (zq cY (by rfl) T.n_len cS (za (pv 0) zd)) (za (pv 3) zd)))) (zB (i:=4) sL.nd rfl (fq rfl)) (zi (aM (zH iF (zx wL hr dz (za (pv 2) (za (pv 4) zd))) eW (nomark _)) (zi (zt (pv 4))) zM)))))))),(eX (uN (c8 (cN (by walk_at "r"))) zu) (dU (by walk_at "r"))),fun xs S R q=>q⟩
theorem E2:DfX P w K mg base "witness_of" ["drawing","gap"] 7 (spX ["drawing","gap"] sD):=by
 exact DfX.dN dd.a37 CL 1 rfl fun f z A outer s H E EX hr=>⟨_,_,(ze (zr (i:=2) CL.nd rfl (ng rfl) (dD w6 pass1 hr dz (za (PE.nox (pv 0)) (za (PE.nox (pv 1)) zd)))) (zi (DW uD))),(eX (uN (c8 (cN (by walk_at "r"))) zu) (dU vG)),fun xs S R q=>q⟩
theorem K0:DfX P w K mg base "plan_of" ["drawing","gap"] 4 (spX ["drawing","gap"] sE):=by
 exact DfX.dN dd.a38 Es 0 rfl fun f z A outer s H E EX hr=>⟨_,_,(ze (d8 (dD Cy pass1 hr dz (za (PE.nox (pv 0)) zd))) (PSs.nox (zi uD))),(eX (CM (c8 (cN (zk zl zw)))) (dU vG)),fun xs S R q=>q⟩
theorem Ig:DfX P w K mg base "_law_asked" ["way","drawing","gap"] 8 (spX ["way","drawing","gap"] qI):=by
 exact DfX.dN dd.a39 EI 0 rfl fun f z A outer s H E EX hr=>⟨_,_,(ze (aM (PT.nox (zH (bP hr.units) (pv 0) zg (nomark _))) (zi (zt (dD Cc pass1 hr dz (za (PE.nox (pv 1)) (za (PE.nox (pv 2)) (za (PE.nox (aP zd)) zd)))))) zM) (ze (aM (PT.nox (zH (bP hr.units) (pv 0) zg (nomark _))) (zi (zt (dD Gx pass1 hr dz (za (PE.nox (pv 1)) (za (PE.nox (pv 2)) (za (PE.nox (aP zd)) zd)))))) zM) (ze (aM (PT.nox (zH (bP hr.units) (pv 0) zg (nomark _))) (zi (zt (dD JB pass1 hr dz (za (PE.nox (pv 1)) (za (PE.nox (pv 2)) zd))))) zM) (ze (aM (PT.nox (zH (bP hr.units) (pv 0) zg (nomark _))) (zi (zt (dD E2 pass1 hr dz (za (PE.nox (pv 1)) (za (PE.nox (pv 2)) zd))))) zM) (ze (aM (PT.nox (zH (bP hr.units) (pv 0) zg (nomark _))) (zi (zt (dD K0 pass1 hr dz (za (PE.nox (pv 1)) (za (PE.nox (pv 2)) zd))))) zM) (zi (zt (dD HR pass1 hr dz (za (PE.nox (pv 1)) (za (PE.nox (pv 2)) (za (PE.nox (aP (za aW zd))) zd))))))))))),(eX (kX (kQ (by walk_at "r")) (fY (c8 (cN (by walk_at "r")))) (dU dA)) (eX (kX (kQ (by walk_at "r")) (fY (c8 (cN (by walk_at "r")))) (dU dA)) (eX (kX (kQ (by walk_at "r")) (fY (c8 (cN (by walk_at "r")))) (dU dA)) (eX (kX (kQ (by walk_at "r")) (fY (c8 (cN (by walk_at "r")))) (dU dA)) (eX (kX (kQ (by walk_at "r")) (fY (c8 (cN (by walk_at "r")))) (dU dA)) (fY (c8 (cN (by walk_at "r"))))))))),fun xs S R q=>q⟩
theorem Gs:DfN P w K mg base "_law_kind" ["e"] 1 (spN ["e"] sC):=by
 exact DfN.dN dd.a40 oG 2 rfl fun f z A outer s H hr=>⟨_,_,(ze (zr (i:=1) oG.nd rfl lo (n9 (zR (zq e8 (by rfl) T.n_isinstance zp (za (pv 0) (za (dR (v:=.ref 37) rfl xx.m_NoSpan rfl) zd))) (zR (zq e8 (by rfl) T.n_isinstance zp (za (pv 0) (za (dR (v:=.ref 49) rfl xx.m_NoPart rfl) zd))) (zR (zq e8 (by rfl) T.n_isinstance zp (za (pv 0) (za (dR (v:=.ref 61) rfl xx.m_NoSet rfl) zd))) (zR (zq e8 (by rfl) T.n_isinstance zp (za (pv 0) (za (dR (v:=.ref 161) rfl xx.m_NoText rfl) zd))) pH)))))) (ze (zr (i:=1) oG.nd rfl lo (zD zJ (pv 1) (n9 (zR (zq e8 (by rfl) T.n_isinstance zp (za (pv 0) (za (dR (v:=.ref 73) rfl xx.m_NoRow rfl) zd))) (zR (zq e8 (by rfl) T.n_isinstance zp (za (pv 0) (za (dR (v:=.ref 85) rfl xx.m_Unlike rfl) zd))) (zR (zq e8 (by rfl) T.n_isinstance zp (za (pv 0) (za (dR (v:=.ref 104) rfl xx.m_NoDrawing rfl) zd))) (zR (zq e8 (by rfl) T.n_isinstance zp (za (pv 0) (za (dR (v:=.ref 123) rfl xx.m_NoGap rfl) zd))) pH))))))) (ze (zr (i:=1) oG.nd rfl lo (zD zJ (pv 1) (aU (za (zq e8 (by rfl) T.n_isinstance zp (za (pv 0) (za (dR (v:=.ref 142) rfl xx.m_NoOffer rfl) zd))) (za (zq e8 (by rfl) T.n_isinstance zp (za (pv 0) (za (dR (v:=.ref 180) rfl xx.m_TooGreat rfl) zd))) zd))))) (ze (aM (PW.pt (fJ (eQ (cG (zq e8 (by rfl) T.n_isinstance zp (za (pv 0) (za (eP rfl T.n_ValueError ID (v:=.ty "ValueError") rfl) zd))) (fun _=>rfl))) (gW (zH (iW hr.units) (fP PySem.F.plainAttrs_list PySem.F.slot_list_count PySem.F.type_list_count HS (pv 1) (za cK zd)) zg (nomark _))))) (zi (zt aW)) zM) (ze (zr (i:=2) oG.nd rfl lo (n9 (zR aW (zR aW (zR aW (zR aW (zR aW (zR aW (zR aW (zR aW (zR aW (zR aW pH)))))))))))) (zi (zt (zN zA (pv 2) (fP PySem.F.plainAttrs_list PySem.F.slot_list_index PySem.F.type_list_index (FM hr.units) (pv 1) (za cK zd)) (fun _ _=>rfl))))))))),(zO (bL (jW (zk (bC (eJ xx.ex) (by walk_at "r")) (zk (bC (eJ xx.ex) (by walk_at "r")) (zk (bC (eJ xx.ex) (by walk_at "r")) (zk (bC (eJ xx.ex) (by walk_at "r")) zw))))) zu) (zO (bL (zV bR zl (jW (zk (bC (eJ xx.ex) (by walk_at "r")) (zk (bC (eJ xx.ex) (by walk_at "r")) (zk (bC (eJ xx.ex) (by walk_at "r")) (zk (bC (eJ xx.ex) (by walk_at "r")) zw)))))) zu) (zO (bL (zV bR zl (jW (zk (bC (eJ xx.ex) (by walk_at "r")) (zk (bC (eJ xx.ex) (by walk_at "r")) zw)))) zu) (zO (gO (pK (jK (iS (bC (eJ xx.ex) (by walk_at "r")))) (nK (zV vC (tP Fc zl (zk gS zw)) zY))) (bO kO) dA) (zO (by walk_at "r") (bO (zV cV zl (tP K4 zl (zk gS zw))))))))),fun xs S R q=>q⟩
theorem Jp:Df P w K mg base "_law_refused" ["way","drawing","gap","many"] 9 (spN ["way","drawing","gap","many"] qV):=by
 exact Df.dN dd.a41 Cb 1 rfl fun f aa A outer s H E hr=>⟨_,_,(ze (Hi (i:=4) (fun _ _ z=>z) rfl rfl Cb.nd rfl rfl rfl xx.m_GaugeError xx.c_GaugeError (IK (GI Ig hr dz (fun _ _ z=>z) (za (pv 0) (za (pv 1) (za (pv 2) zd))))) (fun _=>(ze (aM (PW.pt (fJ (zH (iW hr.units) (vW Gs (hr.suite _) dz (za (pv 4) zd)) aW (nomark _)) (fJ (eQ (cG (vW B6 (hr.suite _) dz (za (qX (pv 4) rfl) zd)) (fun _=>rfl))) (gW (eQ (cG (vW B6 (hr.suite _) dz (za (qX (pv 4) rfl) zd)) (fun _=>rfl))))))) (zi (zt cK)) zM) (zi (zt (iM (eF (bP hr.units) (qX (pv 4) rfl) (pv 3) (nomark _)) (hJ (eF (bP hr.units) (qX (pv 4) rfl) zg (nomark _))))))))) (zi (zt cK))),(zO (KZ xx.ex rfl KL (fun _ _ _ _=>rfl) (zk zl (zk zl (zk zl zw))) (zO (gO (pK (nK (zV vC (FD rfl (zk zl zw)) kO)) (pK (jK (iS (dG (zk (qZ xx.a_many zl) zw)))) (jK (iS (dG (zk (qZ xx.a_most zl) zw)))))) (bO gS) dA) (bO (qN (zV jN (qZ xx.a_many zl) zl) (zV jN (qZ xx.a_most zl) zY))))) (bO gS)),fun xs S R q=>q⟩
theorem ok_law{f:Addr}{fd:jm}(F:Fun K "law" "law" s_law f fd):FnOk P w K mg base CX0 10 f fd ["script"] (sp1 (wI K)):=by
 refine F.ok1 dE (fun v=>[some v,none,none,none,none,none,none,none,none,none,none,none,none,none]) (fun _=>rfl) fun aa A outer s H v Q E hr h=>?_;obtain⟨a,ns,rfl,hS,z,q⟩:=h;refine⟨_,(ze (bT df rfl (Il (zD v7 (aU (za (J1 Ke hr dz (pv 0) zg) zd)) (oC AA (pv 0) (kJ zg) (kJ zg)))) (zB (i:=1) dE.nd rfl (fq rfl)) (ze (zr (i:=2) dE.nd rfl (ng rfl) (zx G5 hr dz (za (pv 1) zd))) (ze (zr (i:=3) dE.nd rfl lo (zx Fl hr dz (za (pv 2) (za zg zd)))) (ze (zr (i:=4) dE.nd rfl (ng rfl) (zx HZ hr dz (za (pv 2) (za (pv 3) zd)))) (ze (zr (i:=5) dE.nd rfl lo (zx EG hr dz (za (pv 3) zd))) (ze (zr (i:=6) dE.nd rfl lo (i4 kU (by rfl) T.n_tuple fL (za (dJ (fun _ _ h=>h) rfl (cA rfl rfl rfl rfl (N:=["part","pen"]) (caps:=[none,some 2]) (by show bZ ["script","cell","pen","drawing","gap","some","drawn","parts","name","low","high","rest","wide","great"] (zh s_law).names _ _ _=true;decide +kernel)) (fC rfl T.n_range (za (zq cY (by rfl) T.n_len cS (za (pv 3) zd)) zd)) (fun _ _ _ _=>(zB (i:=0) (by show gr (["part","pen"]:List Str);decide) rfl (fq rfl))) (fun _ _ _ _=>(KH (zH (bP hr.units) (zx zK hr dz (za (pv 1) (za zg zd))) zg (nomark _)))) (fun _ _ _ _=>(pv 0))) zd))) (ze (bT df rfl (bD (aU (za (aP zd) (za (pv 6) (za (HJ rfl rfl T.n_tuple rfl T.n_range (za (zq cY (by rfl) T.n_len cS (za (pv 3) zd)) zd)) (za (pv 6) zd)))))) (zB (i:=7) dE.nd rfl (fq rfl)) (zi (aM (eQ (cG (zx Iw hr dz (za (pv 3) (za (pv 4) (za (pv 7) (za (pv 5) zd))))) (fun _=>rfl))) (zi (zt cK)) zM))) (ze (sS (zN zA (pv 3) (i5 jR zg) (fun _ _=>rfl)) (iO (n:=3) rfl (b8 (zB (i:=8) dE.nd rfl (fq rfl)) (b8 (zB (i:=9) dE.nd rfl (fq rfl)) (b8 (zB (i:=10) dE.nd rfl (fq rfl)) g9))))) (ze (zr (i:=11) dE.nd rfl (ng rfl) (zD jS (zq cY (by rfl) T.n_len cS (za (pv 5) zd)) (zD zJ (zD eA (pv 10) (pv 9)) zg))) (ze (zr (i:=12) dE.nd rfl (ng rfl) (zD zJ (zD zJ (zD jS zg (pv 11)) zg) (zx zK hr dz (za (pv 2) (za (zN zA (aU (za zg (za (zD mB zg zg) zd))) (zx zK hr dz (za (pv 2) (za zg zd))) (fun _ _=>rfl)) zd))))) (ze (zr (i:=13) dE.nd rfl (ng rfl) (zD zJ (oC qP (pv 3) tF (kJ (i5 jR zg))) (aP (za (aP (za (pv 8) (za (pv 9) (za (zD eA (zD zJ (pv 9) (pv 12)) zg) zd)))) zd)))) (zi (aM (eQ (cG (zq (wE rfl) (by rfl) T.n_all vQ (za (dJ (fun _ _ h=>h) rfl (cA rfl rfl rfl rfl (N:=["way","great","gap","rest","wide"]) (caps:=[none,some 13,some 4,some 11,some 12]) (by show bZ ["script","cell","pen","drawing","gap","some","drawn","parts","name","low","high","rest","wide","great"] (zh s_law).names _ _ _=true;decide +kernel)) (fC rfl T.n_range (za zg zd)) (fun _ _ _ _=>(zB (i:=0) (by show gr (["way","great","gap","rest","wide"]:List Str);decide) rfl (fq rfl))) (fun _ _ _ _=>cQ) (fun _ _ _ _=>(zx Jp hr dz (za (pv 0) (za (pv 1) (za (pv 2) (za (zD cI (pv 3) (pv 4)) zd))))))) zd)) (fun _=>rfl))) (zi (zt cK)) zM))))))))))))) (zi (zt cK))),?_⟩;exact Kl (m:=13) (db:=tX) (zO (bL (dG (zk zl zw)) zu) (zO (bL (gP (i:=0) (zk zl (zk zY zw))) zu) (zO (bL (gP (i:=0) (zk zl (zk zl zw))) zu) (zO (bL (dG (zk zl zw)) zu) (zO (bL (bC sF (zk (dM (gY (zk (bC rT (zk zl zw)) zw)) zu (nK (zV jN (gP (i:=0) (zk zl (zk zY zw))) zY)) zl) zw)) zu) (zO (k8 (b9 (jW (zk (fK zw) (zk zl (zk (Ah (zk (bC rT (zk zl zw)) zw)) (zk zl zw)))))) zu (gO (jK (iS (dG (zk zl (zk zl (zk zl (zk zl zw))))))) (bO gS) dA)) (zO (bL (zV cV zl (wQ u8 zY)) (sK (iP zu (iP zu (iP zu rV))))) (zO (bL (zV v4 (bC rT (zk zl zw)) (zV bR (zV lO zl zl) zY)) zu) (zO (bL (zV bR (zV bR (zV v4 zY zl) zY) (gP (i:=0) (zk zl (zk (zV cV (jW (zk zY (zk (zV iC zY zY) zw))) (gP (i:=0) (zk zl (zk zY zw)))) zw)))) zu) (zO (bL (zV bR (wB vM zl tS (vU (wQ u8 zY))) (fK (zk (fK (zk zl (zk zl (zk (zV lO (zV bR zl zl) zY) zw)))) zw))) zu) (gO (jK (iS (bC sX (zk (dM (gY (zk zY zw)) zu cH (dG (zk zl (zk zl (zk zl (zk (zV gR zl zl) zw)))))) zw)))) (bO gS) dA))))))))))) rfl rfl hS z (fun n=>HI a n) dz fun _ H2 _=>q H2
end
end My
theorem Kv:L2.tabsG=[]:=rfl
namespace PySem.W.Fast
def tw6969393238560612013:Unit:=()
def tw9149091019318062934:Unit:=()
def tw146539866286929758:Unit:=()
def tw18173921916787831669:Unit:=()
def tw9323799181874681640:Unit:=()
def tw12119330817554575198:Unit:=()
def tw7513992395836276731:Unit:=()
def tw10592117302945717303:Unit:=()
def tw5174863271872799753:Unit:=()
def tw202893066750703685:Unit:=()
def tw7597685461469284569:Unit:=()
def tw12578188738852535683:Unit:=()
def tw17997896917701500371:Unit:=()
def tw2785883901340356570:Unit:=()
def tw13497852928889373419:Unit:=()
def tw526543996012098464:Unit:=()
def tw17480779610646690011:Unit:=()
def tw16478972106511061319:Unit:=()
def tw17280528125062605104:Unit:=()
def tw6411838651662588625:Unit:=()
def tw3658511252759099199:Unit:=()
def tw12799723718817109928:Unit:=()
def tw7757050136882067243:Unit:=()
def tw9580278728405076018:Unit:=()
def tw7175467808761569996:Unit:=()
def tw8159899888331347228:Unit:=()
def tw679133012398973418:Unit:=()
def tw4596426202895584607:Unit:=()
def tw1179873153943035945:Unit:=()
def tw13172506401712145122:Unit:=()
def tw5706494738864958942:Unit:=()
def tw15627266874422954859:Unit:=()
def tw9125353962118925857:Unit:=()
def tw2386642448659496808:Unit:=()
def tw1443748251960169850:Unit:=()
def tw9837913128943072324:Unit:=()
def tw16026984465753261524:Unit:=()
def tw1467058874509348809:Unit:=()
def tw747842325525331528:Unit:=()
def tw9190349362796866045:Unit:=()
def tw7408308257804786594:Unit:=()
def tw2196948905348550003:Unit:=()
def tw11838646328484841102:Unit:=()
def tw3607100852557281457:Unit:=()
def tw15690906176712578795:Unit:=()
def tw14692958288794631074:Unit:=()
def tw4205089196848166192:Unit:=()
def tw10727883206302823375:Unit:=()
def tw2795134590468348259:Unit:=()
def tw6772261710345802441:Unit:=()
def tw4498646692180826643:Unit:=()
def tw29323446027156610:Unit:=()
def tw17249071592667919310:Unit:=()
def tw13064103399202808152:Unit:=()
def tw17702278980961439045:Unit:=()
def tw17542229770433722351:Unit:=()
def tw17712639035935909591:Unit:=()
def tw5446036769098291240:Unit:=()
def tw12475063649670327648:Unit:=()
def tw3522181051314592268:Unit:=()
def tw17043382235600188287:Unit:=()
def tw10086904847512420252:Unit:=()
def tw3295633040275360468:Unit:=()
def tw18422036041688278864:Unit:=()
def tw2885381790104109304:Unit:=()
def tw9224594780110787415:Unit:=()
def tw15812544572937220896:Unit:=()
def tw9718583899944729842:Unit:=()
def tw13751379822421086324:Unit:=()
def tw859476025900047527:Unit:=()
def tw9471271457394852119:Unit:=()
def tw15647989433958577528:Unit:=()
def tw12825112551420421202:Unit:=()
def tw11906684638290149993:Unit:=()
def tw4792706032369701026:Unit:=()
def tw13824577755938456218:Unit:=()
def tw376234538677691245:Unit:=()
def tw8008745634551735533:Unit:=()
def tw13959986717244792775:Unit:=()
def tw9912824345101830578:Unit:=()
def tw7618376947390658468:Unit:=()
def tw5540447269903590818:Unit:=()
def tw1467631254552874483:Unit:=()
def tw16587990682460515710:Unit:=()
def tw16836820627425482642:Unit:=()
def tw3460216394534414389:Unit:=()
def tw11354227918564449154:Unit:=()
def tw17559712631977285571:Unit:=()
def tw11232607220074302785:Unit:=()
def tw10077081828530216595:Unit:=()
def tw4422848053379732469:Unit:=()
def tw3172768186396213918:Unit:=()
def tw15834257766611886813:Unit:=()
def tw3317041589271821161:Unit:=()
def tw17344258874536247144:Unit:=()
def tw6169982564583989670:Unit:=()
def tw17111986446076008985:Unit:=()
def tw2572995761560127581:Unit:=()
def tw2008572917995959769:Unit:=()
def tw11885173571716837975:Unit:=()
def tw1413894005012492363:Unit:=()
def tw14297473240891015835:Unit:=()
def tw1349763587142000252:Unit:=()
def tw13371313343094412082:Unit:=()
def tw367858865754069989:Unit:=()
def tw4302381127347954374:Unit:=()
def tw7525654428174630395:Unit:=()
def tw14216849166594353921:Unit:=()
def tw11959780898699952907:Unit:=()
def tw9726669612802285491:Unit:=()
def tw6066480496261878359:Unit:=()
def tw5555894763799207679:Unit:=()
def tw5878435370760175386:Unit:=()
def tw17681392023169439523:Unit:=()
def tw11248572585864672270:Unit:=()
def tw8517527764600416407:Unit:=()
def tw17519733594581108797:Unit:=()
def tw6234821161851036385:Unit:=()
def tw17722342039276275931:Unit:=()
def tw11893398343203640128:Unit:=()
def tw14158005918672436919:Unit:=()
def tw9689508974741368403:Unit:=()
def tw17376793569206683329:Unit:=()
def tw9010735036859008420:Unit:=()
def tw17243349930664233554:Unit:=()
def tw3002515374453233133:Unit:=()
def tw12488209124141156921:Unit:=()
def tw4059101651739874589:Unit:=()
def tw14750174549520311750:Unit:=()
def tw17329625453801581547:Unit:=()
def tw8746470786076702027:Unit:=()
def tw13214097174716503283:Unit:=()
def tw2542603358052802268:Unit:=()
def tw18140210719755443097:Unit:=()
def tw6711555647990135526:Unit:=()
def tw12123148306884223775:Unit:=()
def tw10981688359076800902:Unit:=()
def tw6678581273334868248:Unit:=()
def tw11654523817468377241:Unit:=()
def tw12022356477329126755:Unit:=()
def tw14568141400952264038:Unit:=()
def tw4935474412120171910:Unit:=()
def tw5579974196227601130:Unit:=()
def tw10030400983896063107:Unit:=()
def tw15175495013798428177:Unit:=()
def tw13138699264826514266:Unit:=()
def tw2311544157972055907:Unit:=()
def tw18067932534540602556:Unit:=()
def tw11833362031965877047:Unit:=()
def tw4961514706710501417:Unit:=()
def tw5565539161156575160:Unit:=()
def tw13320130563404287210:Unit:=()
def tw12393410490155269191:Unit:=()
def tw8146227873198878140:Unit:=()
def tw1868793494183673955:Unit:=()
def tw17105646177109540184:Unit:=()
def tw17751662463764688870:Unit:=()
def tw14049969475216233934:Unit:=()
def tw16725163027165231593:Unit:=()
def tw15432003820169710723:Unit:=()
def tw7401926766342162684:Unit:=()
def tw12597926180768330123:Unit:=()
def tw16796878639567565117:Unit:=()
def tw4837902375452151883:Unit:=()
def tw7383038226301986312:Unit:=()
def tw3374992912226983097:Unit:=()
def tw15232061385087162939:Unit:=()
def tw4160310203151823154:Unit:=()
def tw9443858057204563898:Unit:=()
def tw3604023771716682954:Unit:=()
def tw1872992402040581538:Unit:=()
def tw16508347872699975691:Unit:=()
def tw3423651116237237972:Unit:=()
def tw16344444448442228730:Unit:=()
def tw6218497435281908634:Unit:=()
def tw7516398616016114926:Unit:=()
def tw11616224930548124454:Unit:=()
def tw10994574845539422428:Unit:=()
def tw11009756037449674685:Unit:=()
def tw13149766872166512862:Unit:=()
def tw12168421055495250157:Unit:=()
def tw9990514587737449376:Unit:=()
def tw2543889475204129560:Unit:=()
def tw6990801388523966711:Unit:=()
def tw11036624781479756527:Unit:=()
def tw6074568839507067666:Unit:=()
def tw15080041739314482931:Unit:=()
def tw893561929699965311:Unit:=()
def tw9628721593870672234:Unit:=()
def tw11579789313360251094:Unit:=()
def tw987950640885796482:Unit:=()
def tw17861987763444754118:Unit:=()
def tw175788432348586889:Unit:=()
def tw17004707001373221560:Unit:=()
def tw14753450024725826786:Unit:=()
def tw7042575384078047648:Unit:=()
def tw9413232315933552497:Unit:=()
def tw2177633513662577885:Unit:=()
def tw16844498442017498719:Unit:=()
def tw9965826995802861467:Unit:=()
def tw7569101814780443759:Unit:=()
def tw16563162372616902856:Unit:=()
def tw14243033768829952883:Unit:=()
def tw13091662341405478189:Unit:=()
def tw11395337219636630122:Unit:=()
def tw539729048419984602:Unit:=()
def tw13741170687988169181:Unit:=()
def tw6816073547112666522:Unit:=()
def tw10521500013203785830:Unit:=()
def tw16916275820949924765:Unit:=()
def tw11002711057205207518:Unit:=()
def tw15399996035643619049:Unit:=()
def tw3876081068876174348:Unit:=()
def tw7959551202527906057:Unit:=()
end PySem.W.Fast
open PySem PySem.W PyProof.Rows L2
set_option maxRecDepth 100000 in
set_option maxHeartbeats 0 in
theorem PySem.Challenge.cw_gaugewright_k53_twins_holds : PySem.Challenge.rw_gaugewright_k53_twins.Holds := by
 w_on;o_law;k_head;(case hw=>w_witness2)
 k_fill
 refine L2.walk_law (l := PySem.Challenge.rw_gaugewright_k53_twins) (k := 10) rfl rfl ⟨rfl, by decide, by decide⟩ (fun w h Y => W.km_in_of Y) (fun w h Y => L2.TabsOk.none Kv) ?F
 case F=>
  intro w mg fa h KX G hmg;have d_law:Dd (L2.KOf KX) mg "law" My.s_law ["script"]:=by
   dsimp only[L2.KOf];refine' Dd.mk' KX G ?a ?l ?c ?k ?b
   (case a=>k_is);(case l=>k_is);(case c=>k_is);(case k=>k_is);(case b=>intro _ _ _ _ _ _ us hl;obtain⟨_,rfl⟩:=L2.len1 hl;rfl)
  have g12:∃t,mg "MOST_SETS" = some (.int 300 t):=by
   apply oh;apply mz KX G
   k_is
  have T:My.Txt mg:=by
   refine' ⟨ir KX G ?z0,ir KX G ?z1,ir KX G ?z2,ir KX G ?z3,ir KX G ?z4,ir KX G ?z5,ir KX G ?z6,ir KX G ?z7,ir KX G ?z8,ir KX G ?z9,ir KX G ?z10,ir KX G ?z11,g12⟩
   (case z0=>k_is);(case z1=>k_is);(case z2=>k_is);(case z3=>k_is);(case z4=>k_is);(case z5=>k_is);(case z6=>k_is);(case z7=>k_is);(case z8=>k_is);(case z9=>k_is);(case z10=>k_is);(case z11=>k_is)
  have m24:mg "GaugeError" = some (.ref 24):=by
   apply mz KX G
   k_is
  have c24:L2.ExCls (L2.KOf KX) 24 none:=by
   apply L2.exc_of_in;dsimp only[L2.KOf,L2.veB]
   k_exc
  have m37:mg "NoSpan" = some (.ref 37):=by
   apply mz KX G
   k_is
  have k37:L2.ExK (L2.KOf KX) 37:=by
   dsimp only[L2.KOf];refine' L2.ExK.mk' ?a ?b ?c ?d ?e ?f
   (case a=>k_is);(case b=>k_is);(case c=>k_is);(case d=>k_is);(case e=>k_is);(case f=>rfl)
  have c37:L2.ExCls (L2.KOf KX) 37 none:=by
   apply L2.exc_of_in;dsimp only[L2.KOf,L2.veB]
   k_exc
  have m49:mg "NoPart" = some (.ref 49):=by
   apply mz KX G
   k_is
  have k49:L2.ExK (L2.KOf KX) 49:=by
   dsimp only[L2.KOf];refine' L2.ExK.mk' ?a ?b ?c ?d ?e ?f
   (case a=>k_is);(case b=>k_is);(case c=>k_is);(case d=>k_is);(case e=>k_is);(case f=>rfl)
  have c49:L2.ExCls (L2.KOf KX) 49 none:=by
   apply L2.exc_of_in;dsimp only[L2.KOf,L2.veB]
   k_exc
  have m61:mg "NoSet" = some (.ref 61):=by
   apply mz KX G
   k_is
  have k61:L2.ExK (L2.KOf KX) 61:=by
   dsimp only[L2.KOf];refine' L2.ExK.mk' ?a ?b ?c ?d ?e ?f
   (case a=>k_is);(case b=>k_is);(case c=>k_is);(case d=>k_is);(case e=>k_is);(case f=>rfl)
  have c61:L2.ExCls (L2.KOf KX) 61 none:=by
   apply L2.exc_of_in;dsimp only[L2.KOf,L2.veB]
   k_exc
  have m73:mg "NoRow" = some (.ref 73):=by
   apply mz KX G
   k_is
  have k73:L2.ExK (L2.KOf KX) 73:=by
   dsimp only[L2.KOf];refine' L2.ExK.mk' ?a ?b ?c ?d ?e ?f
   (case a=>k_is);(case b=>k_is);(case c=>k_is);(case d=>k_is);(case e=>k_is);(case f=>rfl)
  have c73:L2.ExCls (L2.KOf KX) 73 none:=by
   apply L2.exc_of_in;dsimp only[L2.KOf,L2.veB]
   k_exc
  have m85:mg "Unlike" = some (.ref 85):=by
   apply mz KX G
   k_is
  have k85:L2.ExK (L2.KOf KX) 85:=by
   dsimp only[L2.KOf];refine' L2.ExK.mk' ?a ?b ?c ?d ?e ?f
   (case a=>k_is);(case b=>k_is);(case c=>k_is);(case d=>k_is);(case e=>k_is);(case f=>rfl)
  have c85:L2.ExCls (L2.KOf KX) 85 none:=by
   apply L2.exc_of_in;dsimp only[L2.KOf,L2.veB]
   k_exc
  have m104:mg "NoDrawing" = some (.ref 104):=by
   apply mz KX G
   k_is
  have k104:L2.ExK (L2.KOf KX) 104:=by
   dsimp only[L2.KOf];refine' L2.ExK.mk' ?a ?b ?c ?d ?e ?f
   (case a=>k_is);(case b=>k_is);(case c=>k_is);(case d=>k_is);(case e=>k_is);(case f=>rfl)
  have m123:mg "NoGap" = some (.ref 123):=by
   apply mz KX G
   k_is
  have k123:L2.ExK (L2.KOf KX) 123:=by
   dsimp only[L2.KOf];refine' L2.ExK.mk' ?a ?b ?c ?d ?e ?f
   (case a=>k_is);(case b=>k_is);(case c=>k_is);(case d=>k_is);(case e=>k_is);(case f=>rfl)
  have m142:mg "NoOffer" = some (.ref 142):=by
   apply mz KX G
   k_is
  have k142:L2.ExK (L2.KOf KX) 142:=by
   dsimp only[L2.KOf];refine' L2.ExK.mk' ?a ?b ?c ?d ?e ?f
   (case a=>k_is);(case b=>k_is);(case c=>k_is);(case d=>k_is);(case e=>k_is);(case f=>rfl)
  have m161:mg "NoText" = some (.ref 161):=by
   apply mz KX G
   k_is
  have k161:L2.ExK (L2.KOf KX) 161:=by
   dsimp only[L2.KOf];refine' L2.ExK.mk' ?a ?b ?c ?d ?e ?f
   (case a=>k_is);(case b=>k_is);(case c=>k_is);(case d=>k_is);(case e=>k_is);(case f=>rfl)
  have m180:mg "TooGreat" = some (.ref 180):=by
   apply mz KX G
   k_is
  have k180:L2.ExK (L2.KOf KX) 180:=by
   dsimp only[L2.KOf];refine' L2.ExK.mk' ?a ?b ?c ?d ?e ?f
   (case a=>k_is);(case b=>k_is);(case c=>k_is);(case d=>k_is);(case e=>k_is);(case f=>rfl)
  have sp:L2.SpK (L2.KOf KX):=by
   dsimp only[L2.KOf];refine' ⟨?a,?b⟩
   (case a=>k_is);(case b=>k_is)
  have i37:∃ini,L2.ExCls (L2.KOf KX) 37 ini:=⟨_,c37⟩;have i49:∃ini,L2.ExCls (L2.KOf KX) 49 ini:=⟨_,c49⟩;have i61:∃ini,L2.ExCls (L2.KOf KX) 61 ini:=⟨_,c61⟩;have i73:∃ini,L2.ExCls (L2.KOf KX) 73 ini:=⟨_,c73⟩;have i85:∃ini,L2.ExCls (L2.KOf KX) 85 ini:=⟨_,c85⟩;have i104:∃ini,L2.ExCls (L2.KOf KX) 104 ini:=by
   apply oh;refine' L2.exc_ofI ?l ?o ?s ?i c24
   (case l=>dsimp only[L2.KOf];k_is);(case o=>dsimp only[L2.KOf];k_is);(case s=>rfl);(case i=>dsimp only[L2.KOf];k_is)
  have i123:∃ini,L2.ExCls (L2.KOf KX) 123 ini:=by
   apply oh;refine' L2.exc_ofI ?l ?o ?s ?i c24
   (case l=>dsimp only[L2.KOf];k_is);(case o=>dsimp only[L2.KOf];k_is);(case s=>rfl);(case i=>dsimp only[L2.KOf];k_is)
  have i142:∃ini,L2.ExCls (L2.KOf KX) 142 ini:=by
   apply oh;refine' L2.exc_ofI ?l ?o ?s ?i c24
   (case l=>dsimp only[L2.KOf];k_is);(case o=>dsimp only[L2.KOf];k_is);(case s=>rfl);(case i=>dsimp only[L2.KOf];k_is)
  have i161:∃ini,L2.ExCls (L2.KOf KX) 161 ini:=by
   apply oh;refine' L2.exc_ofI ?l ?o ?s ?i c24
   (case l=>dsimp only[L2.KOf];k_is);(case o=>dsimp only[L2.KOf];k_is);(case s=>rfl);(case i=>dsimp only[L2.KOf];k_is)
  have i180:∃ini,L2.ExCls (L2.KOf KX) 180 ini:=by
   apply oh;refine' L2.exc_ofI ?l ?o ?s ?i c24
   (case l=>dsimp only[L2.KOf];k_is);(case o=>dsimp only[L2.KOf];k_is);(case s=>rfl);(case i=>dsimp only[L2.KOf];k_is)
  have n180_many:L2.NoAttr (L2.KOf KX) 180 "many":=by
   unfold L2.NoAttr;dsimp only[L2.KOf]
   k_is
  have n180_most:L2.NoAttr (L2.KOf KX) 180 "most":=by
   unfold L2.NoAttr;dsimp only[L2.KOf]
   k_is
  have e180:L2.ExI (L2.KOf KX) 180:=by
   refine' ⟨k180,?b,?c⟩
   (case b=>dsimp only[L2.KOf];k_is);(case c=>dsimp only[L2.KOf];k_is)
  have r180:L2.XI (L2.KOf KX) 180 ["many","most"] "TooGreat.__init__" My.s_I_TooGreat:=by
   refine' L2.XI.mk' ?l ?o ?s ?i c24 ?t ?f ?c ?k ?b ?kc k180 e180.hd e180.sa ?na
   (case l=>dsimp only[L2.KOf];k_is);(case o=>dsimp only[L2.KOf];k_is);(case s=>rfl);(case i=>dsimp only[L2.KOf];k_is);(case t=>dsimp only[L2.KOf];k_is);(case f=>dsimp only[L2.KOf];k_is);(case c=>dsimp only[L2.KOf];k_is);(case k=>dsimp only[L2.KOf];k_is);(case b=>intro _ _ _ _ _ _ us hl;obtain⟨_,_,_,rfl⟩:=L2.len3 hl;rfl);(case kc=>dsimp only[L2.KOf];k_is)
   (case na=>intro a m;simp only[gj,fj,or_false]at m;rcases m with rfl|rfl<;>assumption)
  have a_many:L2.ExsI (L2.KOf KX) [180] "many":=by
   refine⟨fun C m=>?_,fun C m=>?_⟩
   ·simp only[gj,fj,or_false]at m;rcases m with rfl<;>assumption
   ·simp only[gj,fj,or_false]at m;rcases m with rfl<;>assumption
  have a_most:L2.ExsI (L2.KOf KX) [180] "most":=by
   refine⟨fun C m=>?_,fun C m=>?_⟩
   ·simp only[gj,fj,or_false]at m;rcases m with rfl<;>assumption
   ·simp only[gj,fj,or_false]at m;rcases m with rfl<;>assumption
  have ex:L2.Exs (L2.KOf KX):=by
   refine⟨sp,fun C m=>?_,fun C m=>?_,fun C m=>?_⟩
   ·simp only[L2.excs,gj,fj,or_false]at m;rcases m with rfl|rfl|rfl|rfl|rfl|rfl|rfl|rfl|rfl|rfl<;>assumption
   ·simp only[L2.exc0,gj,fj,or_false]at m;rcases m with rfl|rfl|rfl|rfl|rfl<;>assumption
   ·simp only[L2.excs,gj,fj,or_false]at m;rcases m with rfl|rfl|rfl|rfl|rfl|rfl|rfl|rfl|rfl|rfl<;>assumption
  have xx:My.Exx (L2.KOf KX) mg:=⟨ex,m24,m37,m49,m61,m73,m85,m104,m123,m142,m161,m180,c24,c37,c49,c61,c73,c85,r180,a_many,a_most⟩;have dd:My.Dds (L2.KOf KX) mg:=by constructor<;>first|(dsimp only[L2.KOf];refine' Dd.mk' KX G ?a ?l ?c ?k ?b;(case a=>k_is);(case l=>k_is);(case c=>k_is);(case k=>k_is);(case b=>(intro _ _ _ _ _ _ us hl;first|(obtain⟨_,rfl⟩:=L2.len1 hl;rfl)|(obtain⟨_,_,rfl⟩:=L2.len2 hl;rfl)|(obtain⟨_,_,_,rfl⟩:=L2.len3 hl;rfl)|(obtain⟨_,_,_,_,rfl⟩:=L2.len4 hl;rfl))))|(dsimp only[L2.KOf];refine' L2.TupG.mk' KX G ?a ?l;(case a=>k_is);(case l=>k_is))
  obtain⟨f,fd,F,hm,_⟩:=d_law.ex;have e0:=hmg.symm.trans hm;cases e0;exact⟨fd,F.bind1 fun _ _ _ _ _ _ _=>rfl,fun base _ _=>My.ok_law T dd xx F⟩
#print axioms PySem.Challenge.cw_gaugewright_k53_twins_holds
end