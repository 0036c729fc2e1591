import PyProof.Rows.All
import Wide.All
import OpenK.AllK
import Wide.FinOn
import Lean
import PyProof.EqAt
import PyProof.EqKinds
import PyProof.TupleCall
import KE.KTupSum
import KE.KSortTup
import PyProof.SetKind
import PyProof.SetRoads
import PyProof.SetNew
import PyProof.DictKinds
import PyProof.NsDelKeeps
import PyProof.StrWalks
import KE.KEqDict
import KE.KDictList
import PyProof.AttrMissSeq
import PyProof.WalksMore
import KE.KDictOf
import PyProof.Rows.Range3
import KE.KItemsList
import PyProof.FactsAll.dict_3
import KE.KMinKey
import PyProof.Rows.CallKwBuiltin
import PyProof.TupleOfSeq
import KE.KLam
import KE.KNestM
import PyProof.Rows.StrNews
import KE.KIntText
import PyProof.TupleKey
import PyProof.DictFindH
import PyProof.DictRoadsH
import PyProof.DictItems
import PyProof.Rows.TupTab
import Wide.Seal
import PyProof.DictValues
import PySem.Challenge.RW_gaugewright_k59_led_and_depth
open Array renaming length_toList→fc,getElem?_eq_getElem→fk,toList_append→gf,getElem?_toList→iq,toList_extract→km
open Bool renaming false_eq_true→cw,false_ne_true→ge,and_eq_true→iy
open False renaming elim→lu
open ForInStep renaming yield→nc
open Int renaming toNat_natCast→gl,eq_ofNat_of_zero_le→gp,emod_lt_of_pos→ko,emod_nonneg→ku
open List renaming mem_of_getElem?→bq,getElem?_concat_length→ca,replicate→ci,getElem?_eq_getElem→cp,length_append→cq,mem_cons_of_mem→cr,getElem?_append_left→cx,size_toArray→cy,mem_cons_self→dh,length_map→dj,getD_eq_getElem?_getD→fb,mem_append_right→fh,length_cons→fj,length_singleton→fr,range→fu,eq_nil_of_length_eq_zero→fw,getElem?_map→gh,map_append→gn,extract_eq_take_drop→gu,mem_append_left→gw,not_mem_nil→ie,append_assoc→io,append_nil→jb,toArray→je,length_take→jh,mem_cons→ji,take_append_drop→jk,getElem?_set_self→jr,take_of_length_le→jv,Nodup→jx,lookup_cons→jz,map_singleton→kn,getElem?_append_right→kq,map_cons→lh,replicate_succ→li,getElem_mem→ls,foldl→ly,mem_append→lz,getElem?_cons_zero→mh,getElem?_cons_succ→ml,getElem?_set_ne→mn,mem_of_mem_take→mq,foldl_cons→nk,getElem?_take→nu,getElem?_drop→nv,map_map→pd
open List.Perm renaming refl→lr
open Nat renaming le_refl→cv,ne_of_lt→fy,lt_of_lt_of_le→fz,le_trans→gq,zero_le→jo,le_of_lt→jp,lt_irrefl→lg,add_zero→pb
open Nat.succ renaming inj→pc
open Ne renaming symm→nn
open Option.some renaming inj→fx
open Or renaming inl→jd
open PyProof.Rows renaming wpS_bind→bu,wpS_pure→bw,arrOf→bx,Keyed→cg,pendingOf→cj,SortSt→fg,wpS_forRange→fm,seqObj→im,wpS_mono→iz,wpS_modify→jl,b2i→jm,setArr→kr,failedOf→ny,IntsAre→nz,get?_update_seq→oj,wpS_get→ol,SortKind→oy
open PySem renaming wpAny_bind→bj,Value→bn,PyData→bo,Shared→bp,wpAny_pure→br,wpAny→ck,sizeLine→dw,Program→fe,starEach→fi,Around→fq,World→ft,wpAny_newObj_type→ga,bootBuiltins→gg,wpAny_holding→gx,codeAny_builtin→gy,SetTable→gz,wpAny_callSpecial?_slot→ix,wpAny_truthy_bool→ja,sizeLine_eq→jg,wpAny_call_entry→jj,binaryOp→jq,compareOp→jt,wpAny_rule→jw,plainId_quiet→ke,wpAny_setField_rec→kl,wpAny_passesOwn→kt,mainGlobals→kv,NameKind→kw,wpAny_setState_of→ky,argBest→lc,wpAny_setEntries_of→ld,wpAny_isInstance→lq,pyNext→lv,wpAny_Call_Name_kw→lx,FuncData→mo,intItems→mw,wpAny_pyIter_list→nj,Builtin→oh,backTo→on,wpAny_mono→oo,rawInt→oq,sliceBounds→ou,codeAny→ow
open PySem.Around renaming under_plainId→gd
open PySem.F renaming plain_min_loop→kf
open PySem.Heap renaming get?_push_of_some→bz,get?_push_size→cz,lt_size→ff,get?_update_other→ic,SameBut→jn,get?_update_self→nq
open PySem.Heap.SameBut renaming update→jf
open PySem.Obj renaming mapSeq→gr
open PySem.PassesOwn renaming never→gj
open PySem.PyData renaming int→df,eqv→gm,canLayAll0→ju,bool→kc,canLay0→kh,str→ki,eqvAll→kz,depthAll→ng
open PySem.SeqAt renaming shaped→dy,canLay_of_shaped→gc
open PySem.SetTable renaming below→kj,grown→nl
open PySem.Str renaming ofString→ox
open PySem.Value renaming ref→ig,bool→iu,type→pf
open PySem.W renaming Frag→cu,mg_none_of→ir,kia_one→ni
def cb:=@if_neg
def cf:=@if_pos
def gi:=@decide_eq_false
theorem yw{p:Prop}(h:p:=by omega):p:=h
theorem yv{p:Prop}(h:p:=by simp):p:=h
open Option (isSome_iff_exists map_eq_some_iff map_some)
open Nat (add_mul add_zero le_of_eq le_of_lt le_refl le_succ le_trans lt_irrefl lt_of_lt_of_le lt_succ_of_lt lt_trans ne_of_gt ne_of_lt zero_add zero_le)
open List (all_cons all_eq_true append_assoc append_nil cons_append eq_nil_of_length_eq_zero extract_eq_take_drop flatten_cons foldl_cons getD_eq_getElem?_getD getElem?_append_left getElem?_append_right getElem?_concat_length getElem?_cons_succ getElem?_cons_zero getElem?_drop getElem?_eq_getElem getElem?_map getElem?_set_ne getElem?_set_self getElem?_take getElem_mem length_append length_cons length_drop length_map length_nil length_set length_singleton length_take lookup_cons map_append map_cons map_map map_nil mem_append mem_append_left mem_append_right mem_cons mem_cons_of_mem mem_cons_self mem_filter mem_iff_getElem? mem_map mem_of_getElem? mem_of_mem_drop mem_of_mem_take mem_range mem_reverse mem_singleton nil_append nodup_append nodup_cons nodup_nil not_mem_nil of_mem_zip pairwise_append pairwise_cons replicate_succ reverse_cons set_cons_succ set_cons_zero size_toArray sum_append sum_cons take_add_one take_append_drop take_length take_of_length_le take_zero)
open PySem.Heap (get?_push_of_some get?_push_size get?_update_other get?_update_self lt_size size_push)
open Array (getElem?_toList length_toList toList_append toList_extract toList_push)
theorem dz{p:Prop}[Decidable p](h:decide p=true:=by rfl):p:=of_decide_eq_true h
set_option Elab.async false
set_option linter.all false
set_option maxRecDepth 100000
set_option maxHeartbeats 8000000
noncomputable section
namespace L2
open PySem PySem.Spec PyProof.Rows
section
abbrev Key:=Sum Int Str
def AZ:Key->bn->Bool
 | .inl k,v=>Value.isInt k v
 | .inr x,v=>Value.isStrOf x v
def EA(w:ft):Key->Int
 | .inl k=>hashInt k
 | .inr x=>hashStr w x
theorem d7:∀{k:Key}{v:bn},AZ k v=true->(∃i t,k=Sum.inl i/\v=Value.int i t)\/(∃x t,k=Sum.inr x/\v=Value.str x t)
 | .inl i,v,h=>by
  obtain⟨t,e⟩:=Value.isInt_shape (k:=i) (v:=v) h;exact .inl ⟨i,t,rfl,e⟩
 | .inr x,v,h=>by
  obtain⟨t,e⟩:=Value.isStrOf_shape (x:=x) (v:=v) h;exact .inr ⟨x,t,rfl,e⟩
theorem Cc(a b:Int):decide ((Sum.inl a:Key)=Sum.inl b)=(a==b):=by
 by_cases e:a=b
 ·subst e;simp
 ·have h:¬(Sum.inl a:Key)=Sum.inl b:=fun q=>e (Sum.inl.inj q);rw[gi h];exact(beq_eq_false_iff_ne.mpr e).symm
theorem FT(a b:Str):decide ((Sum.inr a:Key)=Sum.inr b)=decide (a=b):=by
 by_cases e:a=b
 ·subst e;simp
 ·have h:¬(Sum.inr a:Key)=Sum.inr b:=fun q=>e (Sum.inr.inj q);rw[gi h,gi e]
theorem Ds(a:Int)(b:Str):decide ((Sum.inl a:Key)=Sum.inr b)=false:=gi (fun q=>nomatch q)
theorem Ci(a:Str)(b:Int):decide ((Sum.inr a:Key)=Sum.inl b)=false:=gi (fun q=>nomatch q)
def qC(prog:fe)(w:ft):PySem.KeyKind prog w Key where
 is:=AZ
 hash:=EA w
 inj:=fun v a b ha hb=>by
  rcases d7 ha with ⟨i,t,rfl,rfl⟩|⟨x,t,rfl,rfl⟩
  ·rcases d7 hb with ⟨j,u,rfl,e⟩|⟨y,u,rfl,e⟩
   ·injection e with e1 _;rw[e1]
   ·exact nomatch e
  ·rcases d7 hb with ⟨j,u,rfl,e⟩|⟨y,u,rfl,e⟩
   ·exact nomatch e
   ·injection e with e1 _;rw[e1]
 byValue:=fun k v h=>by
  rcases d7 h with ⟨i,t,rfl,rfl⟩|⟨x,t,rfl,rfl⟩<;>rfl
 pyHash:=fun hv h=>by
  rcases d7 hv with ⟨i,t,rfl,rfl⟩|⟨x,t,rfl,rfl⟩
  ·exact wpAny_pyHash_int h
  ·exact wpAny_pyHash_str h
 eqBool:=fun hu hv h=>by
  rcases d7 hu with ⟨i,t,rfl,rfl⟩|⟨x,t,rfl,rfl⟩
  ·rcases d7 hv with ⟨j,u,rfl,rfl⟩|⟨y,u,rfl,rfl⟩
   ·rw[Cc]at h;exact wpAny_eqBool_int h
   ·rw[Ds]at h;exact SeqAt.EqAt.int_str i t y u _ _ _ _ h
  ·rcases d7 hv with ⟨j,u,rfl,rfl⟩|⟨y,u,rfl,rfl⟩
   ·rw[Ci]at h;exact SeqAt.EqAt.str_int x t j u _ _ _ _ h
   ·rw[FT]at h;exact wpAny_eqBool_str h
 «strs»:=fun k x t v h=>by
  rcases d7 h with ⟨i,u,rfl,e⟩|⟨y,u,rfl,e⟩
  ·exact nomatch e
  ·injection e with e1 _
   subst e1;cases v<;>rfl
end
section
inductive V where
 |non|bl (b:Bool)|int (i:Int)|str (x:Str)|byt (b:Array UInt8)|flt (b:UInt64)|ref (a:Addr)|ty (n:String)
 deriving DecidableEq
def RelV:V->bn->Prop
 | .non,u=>u=Value.none
 | .bl b,u=>u=iu b
 | .int i,u=>∃t,u=Value.int i t
 | .str x,u=>∃t,u=Value.str x t
 | .byt b,u=>∃t,u=Value.bytes b t
 | .flt b,u=>∃t,u=Value.float b t
 | .ref a,u=>u=ig a
 | .ty n,u=>u=pf n
abbrev Vals:List V->List bn->Prop:=Paired RelV
theorem Vals.length{xs:List V}{us:List bn}(r:Vals xs us):xs.length=us.length:=Paired.length r
theorem Vals.get:∀{xs:List V}{us:List bn}{i:Nat}{x:V},Vals xs us->xs[i]?=some x->∃u,us[i]?=some u/\RelV x u
 |_,_,_,_,.nil,e=>by simp at e
 |_,_,0,_,.cons r _,e=>by simp at e;subst e;exact⟨_,rfl,r⟩
 |_,_,i+1,x,.cons _ t,e=>by
  obtain⟨u,h1,h2⟩:=Vals.get (i:=i) (x:=x) t (by simpa using e);exact⟨u,by simpa using h1,h2⟩
theorem Vals.set{x:V}{u:bn}(r:RelV x u):∀{xs:List V}{us:List bn} (i:Nat),Vals xs us->Vals (xs.set i x) (us.set i u)
 |_,_,_,.nil=>.nil
 |_,_,0,.cons _ t=>.cons r t
 |_,_,i+1,.cons q t=>.cons q (Vals.set r i t)
theorem Vals.append:∀{xs ys:List V}{us ws:List bn},Vals xs us->Vals ys ws->Vals (xs++ys) (us++ws)
 |_,_,_,_,.nil,s=>s
 |_,_,_,_,.cons r t,s=>.cons r (Vals.append t s)
theorem Vals.take:∀{xs:List V}{us:List bn} (n:Nat),Vals xs us->Vals (xs.take n) (us.take n)
 |_,_,0,_=>.nil
 |_,_,_+1,.nil=>.nil
 |_,_,n+1,.cons r t=>.cons r (Vals.take n t)
theorem Vals.drop:∀{xs:List V}{us:List bn} (n:Nat),Vals xs us->Vals (xs.drop n) (us.drop n)
 |_,_,0,r=>r
 |_,_,_+1,.nil=>.nil
 |_,_,n+1,.cons _ t=>Vals.drop n t
def RelO:Option V->Option bn->Prop
 |some v,some u=>RelV v u
 |none,none=>True
 |_,_=>False
def KV{κ:Type}:List (κ×V)->List (κ×bn)->Prop:=Paired fun(p:κ×V) (q:κ×bn)=>p.1=q.1/\RelV p.2 q.2
def kV:Key->V
 | .inl i=>.int i
 | .inr x=>.str x
inductive HO where
 |lst (xs:List V)
 |tup (xs:List V)
 |dK (kvs:List (Key×V))|dT (kvs:List (List Key×V))
 |set (S:Int->Bool) (n:Nat)
 |ins (C dx:Addr) (fs:List (Str×V))
 |own (x:Addr)
 |xd (fs:List (Str×V))
 |met (f x:Addr)
 |rng (lo hi:Int)
 |frz (o:Obj) (u:HO)
 |tbl (ps:Array bn)
 |ext (φ:Heap->Prop)
abbrev Hp:=Addr->Option HO
def upd(H:Hp)(a:Addr)(o:HO):Hp:=fun b=>if b=a then some o else H b
theorem cX{H:Hp}{a:Addr}{o:HO}:upd H a o a=some o:=by unfold upd;rw[cf rfl]
theorem zV{H:Hp}{a b:Addr}{o:HO}(h:b≠a):upd H a o b=H b:=by unfold upd;rw[cb h]
theorem zL{H:Hp}{a b:Addr}{o:HO}(h:H a=some o)(h':H b=none):a≠b:=by
 intro e;subst e;rw[h]at h';cases h'
def TblOk(H:Hp)(ps qs:Array bn):Prop:=qs = #[]\/∃(l c:bn) (q:Str) (t:Tok) (k:Addr) (oc:Obj) (vs:Array bn) (t':Tok),ps = #[l,c,.str q t]/\qs = #[l,c,.ref k]/\H k=some (.frz oc (.own 0))/\oc.data=.fields vs/\vs[1]?=some (.str q t')
theorem TblOk.stay{H H':Hp}{ps qs:Array bn}(x:TblOk H ps qs)(hf:∀b o u,H b=some (.frz o u)->H' b=some (.frz o u)):TblOk H' ps qs:=by
 rcases x with x|⟨l,c,q,t,k,oc,vs,t',e1,e2,e3,r⟩
 ·exact .inl x
 ·exact .inr ⟨l,c,q,t,k,oc,vs,t',e1,e2,hf _ _ _ e3,r⟩
section
variable (P:fe) (w:ft)
def ObjOk(H:Hp)(h:Heap)(a:Addr):HO->Prop
 | .lst xs=>xs.length<=dw/\∃(its:List bn) (n:Nat),Vals xs its/\h.get? a=some { cls:=.type "list",data:=.seq its.toArray n }
 | .tup xs=>(xs.length<=dw/\∃o:Obj,h.get? a=some o/\o.dict=none)/\∃its:List bn,Vals xs its/\IsTup h a its.toArray
 | .dK kvs=>kvs.length<=dw/\(a==sysModules)=false/\∃vs,KV kvs vs/\h.DictOf (qC P w) a vs
 | .dT kvs=>kvs.length<=dw/\(a==sysModules)=false/\∃xs:List (List Key×Addr×bn),
   Paired (fun(p:List Key×V) (q:List Key×Addr×bn)=>p.1=q.1/\H q.2.1=some (.tup (p.1.map kV))/\RelV p.2 q.2.2) kvs xs /\
   ∃o es ep,h.get? a=some o/\o.ExactDict/\o.data=.dict es ep/\es.toList=xs.map (entryOfKey (tupleKind (qC P w)))/\(xs.map (·.1)).Nodup
 | .set S n=>h.SetOf (intKind P w) a S n
 | .ins C dx fs=>H dx=some (.own a)/\fs.length<=1000/\dx≠a/\h.get? a=some (W.instObj C dx) /\
   ∃mA,h.Ns1 dx mA/\(∀f,RelO (fs.lookup f) (mA f))/\PySem.Within mA (fs.map (·.1))
 | .own _=>∃o,h.get? a=some o
 | .xd fs=>∃mA,h.Ns1 a mA/\∀f,RelO (fs.lookup f) (mA f)
 | .rng lo hi=>∃t u v,h.get? a=some { cls:=.type "range",data:=.fields #[.int lo t,.int hi u,.int 1 v] }
 | .frz o u=>h.get? a=some o/\ObjOk H h a u
 | .tbl ps=>∃qs:Array bn,h.get? a=some { cls:=.none,data:=.fields qs }/\TblOk H ps qs
 | .met f x=>h.get? a=some (W.methodObj (.ref f) (.ref x))
 | .ext φ=>φ h/\(∃o,h.get? a=some o)/\∀h1 h2:Heap,φ h1->(∀o,h1.get? a=some o->h2.get? a=some o)->φ h2
def HOk(H:Hp)(h:Heap):Prop:=∀a o,H a=some o->ObjOk P w H h a o
end
section
variable {P:fe}{w:ft}{H H':Hp}{h h':Heap}{a:Addr}{o:HO}
theorem ObjOk.lt(x:ObjOk P w H h a o):a<h.objs.size:=by
 cases o with
 |lst xs=>obtain⟨_,_,_,_,e⟩:=x;exact ff e
 |tup xs=>obtain⟨_,_,_,p⟩:=x;exact p.lt
 |dK kvs=>obtain⟨_,_,_,_,o,_,_,e,_⟩:=x;exact ff e
 |dT kvs=>obtain⟨_,_,_,_,o,_,_,e,_⟩:=x;exact ff e
 |set S n=>obtain⟨o,_,_,_,e,_⟩:=x;exact ff e
 |ins C dx fs=>obtain⟨_,_,_,e,_⟩:=x;exact ff e
 |own y=>obtain⟨_,e⟩:=x;exact ff e
 |xd fs=>obtain⟨_,⟨_,_,_,e,_⟩,_⟩:=x;exact ff e
 |rng lo hi=>obtain⟨_,_,_,e⟩:=x;exact ff e
 |frz ob u=>obtain⟨e,_⟩:=x;exact ff e
 |tbl ps=>obtain⟨_,e,_⟩:=x;exact ff e
 |met f y=>exact ff (show h.get? a=some _ from x)
 |ext φ=>obtain⟨_,⟨_,e⟩,_⟩:=x;exact ff e
theorem Paired.mapP{α β:Type}{F G:α->β->Prop}:∀{l₁:List α}{l₂:List β},Paired F l₁ l₂->(∀a b,F a b->G a b)->Paired G l₁ l₂
 |_,_,.nil,_=>.nil
 |_,_,.cons r t,f=>.cons (f _ _ r) (Paired.mapP t f)
theorem ObjOk.stay(x:ObjOk P w H h a o)(k:∀b u,(b=a\/H b=some (.own a))->h.get? b=some u->h'.get? b=some u)
  (ho:∀b,H b=some (.own a)->H' b=some (.own a)) (ht:∀b xs,H b=some (.tup xs)->H' b=some (.tup xs))
  (hf:∀b o u,H b=some (.frz o u)->H' b=some (.frz o u):=by first|exact fun _ _ _ q=>q|(intro b o u q;rw[zV (zL q (by assumption))];exact q)):ObjOk P w H' h' a o:=by
 induction o with
 |lst xs=>obtain⟨z,aa,n,r,e⟩:=x;exact⟨z,aa,n,r,k _ _ (.inl rfl) e⟩
 |tup xs=>obtain⟨⟨z,o2,e2,d2⟩,aa,r,ob,e,c⟩:=x;exact⟨⟨z,o2,k _ _ (.inl rfl) e2,d2⟩,aa,r,ob,k _ _ (.inl rfl) e,c⟩
 |dK kvs=>obtain⟨z,y,vs,r,ob,es,ep,e,c⟩:=x;exact⟨z,y,vs,r,ob,es,ep,k _ _ (.inl rfl) e,c⟩
 |dT kvs=>
  obtain⟨z,y,xs,r,ob,es,ep,e,c⟩:=x;exact⟨z,y,xs,Paired.mapP r fun p q z=>⟨z.1,ht _ _ z.2.1,z.2.2⟩,ob,es,ep,k _ _ (.inl rfl) e,c⟩
 |set S n=>obtain⟨ob,es,ep,t,e,c⟩:=x;exact⟨ob,es,ep,t,k _ _ (.inl rfl) e,c⟩
 |ins C dx fs=>
  obtain⟨d,z,ne,e,mA,⟨od,es,ep,e2,c⟩,r⟩:=x;exact⟨ho _ d,z,ne,k _ _ (.inl rfl) e,mA,⟨od,es,ep,k _ _ (.inr d) e2,c⟩,r⟩
 |own y=>obtain⟨ob,e⟩:=x;exact⟨ob,k _ _ (.inl rfl) e⟩
 |xd fs=>obtain⟨mA,⟨od,es,ep,e,c⟩,r⟩:=x;exact⟨mA,⟨od,es,ep,k _ _ (.inl rfl) e,c⟩,r⟩
 |rng lo hi=>obtain⟨t,u,v,e⟩:=x;exact⟨t,u,v,k _ _ (.inl rfl) e⟩
 |frz ob u ih=>obtain⟨e,q⟩:=x;exact⟨k _ _ (.inl rfl) e,ih q⟩
 |tbl ps=>
  obtain⟨qs,e,q⟩:=x;exact⟨qs,k a _ (.inl rfl) e,q.stay hf⟩
 |met f y=>
  have e:h.get? a=some (W.methodObj (.ref f) (.ref y)):=x;show h'.get? a=some (W.methodObj (.ref f) (.ref y));exact k a _ (.inl rfl) e
 |ext φ=>obtain⟨p,⟨o,e⟩,st⟩:=x;exact⟨st _ _ p fun o q=>k _ _ (.inl rfl) q,⟨o,k _ _ (.inl rfl) e⟩,st⟩
theorem HOk.lt(x:HOk P w H h)(e:H a=some o):a<h.objs.size:=(x a o e).lt
theorem HOk.fresh(x:HOk P w H h)(e:h.objs.size<=a):H a=none:=by
 cases q:H a with
 |none=>rfl
 |some u=>exact absurd (fz (x.lt q) e) (lg _)
theorem HOk.kept(x:HOk P w H h)(k:∀b u,h.get? b=some u->h'.get? b=some u):HOk P w H h':=fun a o e=>
 (x a o e).stay (fun b u _ q=>k b u q) (fun _ q=>q) fun _ _ q=>q
theorem HOk.laid(x:HOk P w H h)(k:∀b u,h.get? b=some u->h'.get? b=some u)(hp:h.objs.size<=a)(z:ObjOk P w (upd H a o) h' a o):HOk P w (upd H a o) h':=fun b u e=>by
 have hn:=x.fresh hp;by_cases hb:b=a
 ·subst hb;rw[cX]at e;cases e;exact z
 ·rw[zV hb]at e;exact(x b u e).stay (fun c v _ q=>k c v q) (fun c q=>by rw[zV (zL q hn)];exact q) fun c xs q=>by rw[zV (zL q hn)];exact q
end
def Rd(H:Hp)(a:Addr)(u:HO):Prop:=H a=some u\/∃o,H a=some (.frz o u)
theorem Rd.ok{P:fe}{w:ft}{H:Hp}{h:Heap}{a:Addr}{u:HO}(r:Rd H a u)(x:HOk P w H h):ObjOk P w H h a u:=by
 rcases r with r|⟨o,r⟩
 ·exact x a u r
 ·obtain⟨_,q⟩:=x a _ r;exact q
def Mut:Option HO->Prop
 |some (.lst _)=>True
 |some (.dK _)=>True
 |some (.dT _)=>True
 |some (.set _ _)=>True
 |some (.ins _ _ _)=>True
 |some (.ext _)=>True
 |_=>False
section
variable {P:fe}{w:ft}{H:Hp}{h h':Heap}{x e:Addr}{o':HO}
theorem HOk.write(ok:HOk P w H h)(mu:Mut (H x))(he:e=x\/H e=some (.own x))(k:∀b u,b≠e->h.get? b=some u->h'.get? b=some u)(ae:∃u,h'.get? e=some u)
  (new:ObjOk P w (upd H x o') h' x o'):HOk P w (upd H x o') h':=fun b u q=>by
 have aa:∀c y,H c=some (.own y)->c≠x:=fun c y r z=>by subst z;rw[r]at mu;exact mu
 have ab:∀c xs,H c=some (.tup xs)->c≠x:=fun c xs r z=>by subst z;rw[r]at mu;exact mu
 have ac:∀c o u,H c=some (.frz o u)->c≠x:=fun c o u r z=>by subst z;rw[r]at mu;exact mu
 by_cases hb:b=x
 ·subst hb;rw[cX]at q;cases q;exact new
 ·rw[zV hb]at q;by_cases hbe:b=e
  ·have q':H b=some (.own x):=by
    rcases he with z|z
    ·exact absurd (hbe.trans z) hb
    ·rw[hbe];exact z
   rw[q]at q';cases q';obtain⟨v,hv⟩:=ae;exact⟨v,by rw[hbe];exact hv⟩
  ·refine(ok b u q).stay (fun c v hc r=>k c v ?_ r) (fun c r=>by rw[zV (aa c b r)];exact r) (fun c xs r=>by rw[zV (ab c xs r)];exact r) fun c o u r=>by rw[zV (ac c o u r)];exact r
   rcases hc with rfl|hc
   ·exact hbe
   ·rintro rfl;rcases he with z|z
    ·exact aa c b hc z
    ·rw[hc]at z;cases z;exact hb rfl
end
structure Un(fs ex:List Addr)(H H':Hp)(h h':Heap):Prop where
 keep:∀b o,h.get? b=some o->H b=none->b∉fs->b∉ex->h'.get? b=some o
 slot:∀b o,h.get? b=some o->H b=none->b∈fs->b∉ex->∃sl,h'.get? b=some { o with slots:=sl }
 free:∀b o,h.get? b=some o->H b=none->b∉ex->H' b=none
 there:∀b o,h.get? b=some o->b∉ex->∃o',h'.get? b=some o'
 tups:∀b xs,H b=some (.tup xs)->H' b=some (.tup xs)
 frzs:∀b o u,H b=some (.frz o u)->H' b=some (.frz o u)
 tbls:∀b ps,H b=some (.tbl ps)->H' b=some (.tbl ps)
section
variable {fs fs' ex ex':List Addr}{H H1 H2:Hp}{h h1 h2 h':Heap}{a x e:Addr}{o:HO}
theorem Un.any(u:Un fs ex H H1 h h1){b:Addr}{ob:Obj}(q:h.get? b=some ob)(n:H b=none)(hx:b∉ex):∃sl,h1.get? b=some { ob with slots:=sl }:=by
 by_cases hb:b∈fs
 ·exact u.slot b ob q n hb hx
 ·exact⟨ob.slots,u.keep b ob q n hb hx⟩
theorem Un.trans(a:Un fs ex H H1 h h1)(b:Un fs ex H1 H2 h1 h2):Un fs ex H H2 h h2 where
 keep:=fun c ob q n hc hx=>b.keep c ob (a.keep c ob q n hc hx) (a.free c ob q n hx) hc hx
 slot:=fun c ob q n hc hx=>by
  obtain⟨sl,e1⟩:=a.slot c ob q n hc hx;obtain⟨z,e2⟩:=b.slot c _ e1 (a.free c ob q n hx) hc hx;exact⟨z,e2⟩
 free:=fun c ob q n hx=>by
  obtain⟨o',e1⟩:=a.there c ob q hx;exact b.free c o' e1 (a.free c ob q n hx) hx
 there:=fun c ob q hx=>by
  obtain⟨o',e1⟩:=a.there c ob q hx;exact b.there c o' e1 hx
 tups:=fun c xs q=>b.tups c xs (a.tups c xs q)
 frzs:=fun c ob xs q=>b.frzs c ob xs (a.frzs c ob xs q)
 tbls:=fun c ps q=>b.tbls c _ (a.tbls c ps q)
theorem Un.kept(k:∀b u,h.get? b=some u->h'.get? b=some u):Un fs ex H H h h':=
 ⟨fun b ob q _ _ _=>k b ob q,fun b ob q _ _ _=>⟨ob.slots,k b ob q⟩,fun _ _ _ n _=>n,fun b ob q _=>⟨ob,k b ob q⟩,fun _ _ q=>q,fun _ _ _ q=>q,fun _ _ q=>q⟩
theorem Un.refl:Un fs ex H H h h:=Un.kept fun _ _ q=>q
theorem Un.laid(k:∀b u,h.get? b=some u->h'.get? b=some u)(hp:h.objs.size<=a)(hn:H a=none):Un fs ex H (upd H a o) h h' where
 keep:=fun b u q _ _ _=>k b u q
 slot:=fun b u q _ _ _=>⟨u.slots,k b u q⟩
 free:=fun b u q n _=>by rw[zV (fy (fz (ff q) hp))];exact n
 there:=fun b u q _=>⟨u,k b u q⟩
 tups:=fun b xs q=>by rw[zV (zL q hn)];exact q
 frzs:=fun b u xs q=>by rw[zV (zL q hn)];exact q
 tbls:=fun b ps q=>by rw[zV (zL q hn)];exact q
theorem Un.write(mu:Mut (H x))(he:e=x\/H e=some (.own x))(k:∀b u,b≠e->h.get? b=some u->h'.get? b=some u)(aa:∃u,h'.get? e=some u):Un fs ex H (upd H x o) h h':=by
 have hx:∀b,H b=none->b≠x:=fun b n z=>by subst z;rw[n]at mu;exact mu
 have hb:∀b,H b=none->b≠e:=fun b n z=>by
  subst z;rcases he with r|r
  ·exact hx b n r
  ·rw[n]at r;cases r
 have hm:∀b u,H b=some u->¬ Mut (some u)->b≠x:=fun b u q nm z=>by subst z;rw[q]at mu;exact nm mu
 refine⟨fun b u q n _ _=>k b u (hb b n) q,fun b u q n _ _=>⟨u.slots,k b u (hb b n) q⟩,fun b u q n _=>by rw[zV (hx b n)];exact n,fun b u q _=>?_,
  fun b xs q=>by rw[zV (hm b _ q fun z=>z)];exact q,fun b u xs q=>by rw[zV (hm b _ q fun z=>z)];exact q,fun b ps q=>by rw[zV (hm b _ q fun z=>z)];exact q⟩
 by_cases hbe:b=e
 ·subst hbe;exact aa
 ·exact⟨u,k b u hbe q⟩
theorem Un.mono(u:Un fs ex H H1 h h1)(hs:∀b∈fs,b∈fs')(hx:∀b∈ex,b∈ex'):Un fs' ex' H H1 h h1:=
 ⟨fun b ob q n hb he=>u.keep b ob q n (fun z=>hb (hs b z)) fun z=>he (hx b z),fun _ _ q n _ he=>u.any q n fun z=>he (hx _ z),fun b ob q n he=>u.free b ob q n fun z=>he (hx b z),fun b ob q he=>u.there b ob q fun z=>he (hx b z),u.tups,u.frzs,u.tbls⟩
end
def trk(h:Heap)(H:Hp):List Addr:=(fu h.objs.size).filter fun a=>(H a).isSome
def d9(h:Heap)(H:Hp):Heap:=W.hideAll h (trk h H)
theorem Du(h:Heap)(H:Hp):(d9 h H).objs.size=h.objs.size:=W.hideAll_size _ _
theorem Cg{h:Heap}{H:Hp}{b:Addr}{o:Obj}(e:h.get? b=some o)(n:H b=none):(d9 h H).get? b=some o:=
 W.hideAll_get _ e fun hm=>by
  have q:(H b).isSome=true:=(mem_filter.mp hm).2;rw[n]at q;simp at q
theorem Ef{h:Heap}{H:Hp}{b:Addr}{o:Obj}(e:(d9 h H).get? b=some o):h.get? b=some o/\H b=none:=by
 have e':h.get? b=some o:=W.of_hideAll (trk h H) e;refine⟨e',?_⟩;cases q:H b with
 |none=>rfl
 |some x=>
  have hm:b∈trk h H:=mem_filter.mpr ⟨mem_range.mpr (ff e'),by simp[q]⟩;have z:(d9 h H).get? b=none:=W.hideAll_none (trk h H) hm;rw[z]at e;cases e
end
section
def tabsG:List ((Addr×Addr)×Array bn):=[]
def BltAt(base:Heap)(mg:Str->Option bn):Prop:=∃bm ob,mg "__builtins__" = some (.ref bm)/\bm≠builtinsNs/\base.get? bm=some ob/\ob.cls=.type "module"/\ob.dict=some builtinsNs/\ob.data=.plain
structure Frf(fs:List Addr)(H:Hp):Prop where
 free:∀b∈fs,H b=none
 tab:∀q∈tabsG,H q.1.2=some (.tbl q.2)
structure Mod(K:cu)(mg:Str->Option bn)(base:Heap):Prop where
 kin:K.In base
 glob:base.Ns kv mg
 blt:∃mb,base.Ns builtinsNs mb/\∀x:Str,x ≠ "__name__"->mb x=gg x
 nolimit:base.NoLimit
 bm:BltAt base mg
 hd:∀q∈tabsG,W.CodeHd base q.1.1 q.1.2
structure Cx where
 prog:fe
 w:ft
 K:cu
 mg:Str->Option bn
 base:Heap
 A:fq
 N:List Str
 s₀:bp
 H₀:Hp
 env:Env
 outer:List Env
 stack:List Env
 ex:List Addr
 fn:Str->Bool
 calm:Bool
 pn:List (Addr×Obj)
 xe:bn->bp->Prop
def frs(l:List Env):List Addr:=l.filterMap (·.frame)
abbrev Cx.fs (X:Cx):List Addr:=frs X.outer
def Vis(sc:Scope)(x:Str):Prop:=sc.names.lookup x=some .local\/sc.names.lookup x=some .cell\/sc.names.lookup x=some .free
def Loc(sc:Scope)(x:Str):Prop:=sc.names.lookup x=some .local\/sc.names.lookup x=some .cell
def Look(env:Env)(h:Heap)(m:Str->Option bn)(x:Str)(u:bn):Prop:=
 (env.kindOf x=some .local/\m x=some u)\/((env.kindOf x=some .cell\/env.kindOf x=some .free)/\∃c,env.cells.lookup x=some c/\h.IsCell c (some u))
structure Cx.Ok(X:Cx):Prop where
 mod:Mod X.K X.mg X.base
 kind:X.env.scope.kind=.function
 glob:X.env.globals=kv
 blt:X.env.builtins=builtinsNs
 above:X.s₀.heap.objs.size<=X.env.locals
 inj:∀x y c,X.env.cells.lookup x=some c->X.env.cells.lookup y=some c->x=y
 has:∀x,(X.env.kindOf x=some .cell\/X.env.kindOf x=some .free)->∃c,X.env.cells.lookup x=some c
 cab:∀x c,X.fn x=true->X.env.cells.lookup x=some c->X.s₀.heap.objs.size<=c
 hd:X.calm=true->X.A.handled=none
 frames:X.A.frames=some X.stack
 stk:X.stack=X.outer\/(X.stack=X.env::X.outer/\X.env.frame=some X.env.locals)
 exf:∀b∈X.ex,b≠X.env.locals/\∀x c,X.env.cells.lookup x=some c->c≠b
 bs:∀b o,X.base.get? b=some o->X.s₀.heap.get? b=some o/\X.H₀ b=none
 bsz:X.base.objs.size<=X.s₀.heap.objs.size
 noex:∀b o,X.base.get? b=some o->b∉X.ex
 exfs:∀b∈X.ex,b∉X.fs
 funs:X.s₀.heap.FunFrames X.base X.outer
 frf:Frf X.fs X.H₀
structure Inv(X:Cx)(ze:List (Addr×Obj))(σ:List (Option V))(H:Hp)(s:bp):Prop where
 ok:X.Ok
 os:s.os=X.s₀.os
 bare:AllBare s.gens
 base:Un X.fs X.ex X.H₀ H X.s₀.heap s.heap
 loc:∃m,s.heap.Ns X.env.locals m/\∀(i:Nat) (x:Str) (v:V),X.N[i]?=some x->σ[i]?=some (some v)->Vis X.env.scope x->∃u,RelV v u/\Look X.env s.heap m x u
 cell:∀x c,X.env.cells.lookup x=some c->∃v,s.heap.IsCell c v
 free:H X.env.locals=none
 freeC:∀x c,X.env.cells.lookup x=some c->H c=none
 pin:∀p∈X.pn++ze,s.heap.get? p.1=some p.2/\H p.1=none/\p.1≠X.env.locals/\p.1∉X.fs/\∀v,p.2.data≠.cell v
 hok:HOk X.prog X.w H s.heap
 len:σ.length=X.N.length
section
variable {X:Cx}{ze:List (Addr×Obj)}{σ:List (Option V)}{H H':Hp}{s:bp}{h':Heap}
theorem Cx.Ok.nofr(ok:X.Ok){b:Addr}{o:Obj}(e:X.base.get? b=some o):b∉X.fs:=fun hb=>by
 have:=(ok.funs.mem hb).1;rw[e]at this;cases this
theorem Inv.bs(I:Inv X ze σ H s):∀b o,X.base.get? b=some o->s.heap.get? b=some o/\H b=none:=fun b o e=>
 ⟨I.base.keep b o (I.ok.bs b o e).1 (I.ok.bs b o e).2 (I.ok.nofr e) (I.ok.noex b o e),I.base.free b o (I.ok.bs b o e).1 (I.ok.bs b o e).2 (I.ok.noex b o e)⟩
theorem Inv.bk(I:Inv X ze σ H s):∀b o,X.base.get? b=some o->s.heap.get? b=some o:=fun b o e=>(I.bs b o e).1
theorem Inv.mod(I:Inv X ze σ H s):Mod X.K X.mg X.base:=I.ok.mod
theorem Inv.kIn(I:Inv X ze σ H s):X.K.In s.heap:=I.ok.mod.kin.keeps I.bk
theorem Inv.lt(I:Inv X ze σ H s):X.env.locals<s.heap.objs.size:=let ⟨_,hn,_⟩:=I.loc;hn.lt
theorem Inv.sz(I:Inv X ze σ H s):X.s₀.heap.objs.size<=s.heap.objs.size:=gq I.ok.above (jp I.lt)
theorem Inv.nofs(I:Inv X ze σ H s){a:Addr}(h:s.heap.objs.size<=a):a∉X.fs:=fun hb=>by
 obtain⟨_,o,ho,_⟩:=I.ok.funs.mem hb;exact absurd (fz (ff ho) (gq I.sz h)) (lg _)
theorem Inv.cne(I:Inv X ze σ H s):∀x c,X.env.cells.lookup x=some c->c≠X.env.locals:=fun x c e z=>by
 obtain⟨v,o,ho,hd⟩:=I.cell x c e;obtain⟨m,⟨o',es,ep,aa,q,_⟩,_⟩:=I.loc;rw[z,aa]at ho;cases ho;rw[q]at hd;cases hd
theorem Inv.funs(I:Inv X ze σ H s):s.heap.FunFrames X.base X.outer:=by
 have all:∀(l:List Env),(∀b∈frs l,b∈X.fs)->X.s₀.heap.FunFrames X.base l->s.heap.FunFrames X.base l:=by
  intro l;induction l with
  |nil=>intro _ _;trivial
  |cons env r ih=>
   intro hs hl;obtain⟨hk,⟨L,o,hf,hn,ho,hd⟩,hr⟩:=hl;have hL:L∈X.fs:=hs L (by unfold frs;rw[List.filterMap_cons,hf];exact dh);obtain⟨sl,e⟩:=I.base.slot L o ho (I.ok.frf.free L hL) hL fun z=>I.ok.exfs L z hL;exact⟨hk,⟨L,_,hf,hn,e,hd⟩,ih (fun b hb=>hs b (by unfold frs;rw[List.filterMap_cons,hf];exact cr _ hb)) hr⟩
 exact all X.outer (fun _ hb=>hb) I.ok.funs
theorem Inv.stack(I:Inv X ze σ H s):s.heap.FunFrames X.base X.stack:=by
 rcases I.ok.stk with e|⟨e,hf⟩
 ·rw[e];exact I.funs
 ·rw[e];obtain⟨m,hn,_⟩:=I.loc;refine .cons (by rw[I.ok.kind];decide) hf hn ?_ I.funs;exact Heap.get?_none_of_le (gq I.ok.bsz I.ok.above)
theorem Inv.stkSub(I:Inv X ze σ H s):∀b∈frs X.stack,b∈X.env.locals::X.fs:=fun b hb=>by
 rcases I.ok.stk with e|⟨e,hf⟩
 ·rw[e]at hb;exact cr _ hb
 ·rw[e]at hb;unfold frs at hb;rw[List.filterMap_cons,hf]at hb;exact hb
theorem Inv.stkFree(I:Inv X ze σ H s):Frf (frs X.stack) H:=⟨fun b hb=>by
 rcases mem_cons.mp (I.stkSub b hb)with e|hb
 ·rw[e];exact I.free
 ·obtain⟨_,o,ho,_⟩:=I.ok.funs.mem hb;exact I.base.free b o ho (I.ok.frf.free b hb) fun z=>I.ok.exfs b z hb,fun q hq=>I.base.tbls _ _ (I.ok.frf.tab q hq)⟩
theorem Inv.step{g':Array GenState}{t':Nat}{d':Drawn}{ch:List Addr}(I:Inv X ze σ H s)
  (hch:∀b∈ch,(b∈X.ex\/X.s₀.heap.objs.size<=b)/\b≠X.env.locals/\(∀x c,X.env.cells.lookup x=some c->c≠b)/\∀p∈X.pn++ze,p.1≠b)
  (keep:∀b o,b≠X.env.locals->b∉X.fs->b∉ch->s.heap.get? b=some o->H b=none->h'.get? b=some o)
  (slot:∀b o,b≠X.env.locals->b∈X.fs->b∉ch->s.heap.get? b=some o->H b=none->∃sl,h'.get? b=some { o with slots:=sl }) (free:∀b o,b∉ch->s.heap.get? b=some o->H b=none->H' b=none)
  (there:∀b o,b∉ch->s.heap.get? b=some o->∃o',h'.get? b=some o')
  (tups:∀b xs,H b=some (.tup xs)->H' b=some (.tup xs)) (frzs:∀b o u,H b=some (.frz o u)->H' b=some (.frz o u)) (tbls:∀b ps,H b=some (.tbl ps)->H' b=some (.tbl ps))
  (ns:∀m,s.heap.Ns X.env.locals m->h'.Ns X.env.locals m) (hok:HOk X.prog X.w H' h') (hg:AllBare g'):
  Inv X ze σ H' { s with heap:=h',gens:=g',drawn:=d',toks:=t' }:=by
 have ae:∀b o,X.s₀.heap.get? b=some o->b≠X.env.locals:=fun b o e=>fy (fz (ff e) I.ok.above);have ac:∀b o,X.s₀.heap.get? b=some o->b∉X.ex->b∉ch:=fun b o e hx hb=>by
  rcases(hch b hb).1 with z|z
  ·exact hx z
  ·exact absurd (fz (ff e) z) (lg _)
 have ab:∀x c,X.env.cells.lookup x=some c->∀v,s.heap.IsCell c v->h'.IsCell c v:=fun x c e v ⟨o,ho,hd⟩=>by
  have aa:c∉ch:=fun z=>(hch c z).2.2.1 x c e rfl;by_cases hc:c∈X.fs
  ·obtain⟨sl,q⟩:=slot c o (I.cne x c e) hc aa ho (I.freeC x c e);exact⟨_,q,hd⟩
  ·exact⟨o,keep c o (I.cne x c e) hc aa ho (I.freeC x c e),hd⟩
 refine⟨I.ok,I.os,hg,⟨fun b o e n hb hx=>?_,fun b o e n hb hx=>?_,fun b o e n hx=>?_,fun b o e hx=>?_,fun b xs e=>tups b xs (I.base.tups b xs e),fun b o xs e=>frzs b o xs (I.base.frzs b o xs e),fun b ps e=>?_⟩,?_,fun x c e=>?_,?_,fun x c e=>?_,fun p hp=>?_,hok,I.len⟩
 ·exact keep b o (ae b o e) hb (ac b o e hx) (I.base.keep b o e n hb hx) (I.base.free b o e n hx)
 ·obtain⟨sl,e1⟩:=I.base.slot b o e n hb hx;obtain⟨af,e2⟩:=slot b _ (ae b o e) hb (ac b o e hx) e1 (I.base.free b o e n hx);exact⟨af,e2⟩
 ·obtain⟨o',e1⟩:=I.base.there b o e hx;exact free b o' (ac b o e hx) e1 (I.base.free b o e n hx)
 ·obtain⟨o',e1⟩:=I.base.there b o e hx;exact there b o' (ac b o e hx) e1
 ·exact tbls b _ (I.base.tbls b ps e)
 ·obtain⟨m,hn,hl⟩:=I.loc;refine⟨m,ns m hn,fun i x v e1 e2 e3=>?_⟩;obtain⟨u,r,l⟩:=hl i x v e1 e2 e3;refine⟨u,r,?_⟩;rcases l with l|⟨k,c,e,z⟩
  ·exact .inl l
  ·exact .inr ⟨k,c,e,ab x c e _ z⟩
 ·obtain⟨v,z⟩:=I.cell x c e;exact⟨v,ab x c e v z⟩
 ·obtain⟨m,⟨o,_,_,ho,_⟩,_⟩:=I.loc;exact free _ o (fun z=>(hch _ z).2.1 rfl) ho I.free
 ·obtain⟨v,o,ho,hd⟩:=I.cell x c e;exact free c o (fun z=>(hch c z).2.2.1 x c e rfl) ho (I.freeC x c e)
 ·obtain⟨e,n,ne,nf,d⟩:=I.pin p hp;have aa:p.1∉ch:=fun z=>(hch p.1 z).2.2.2 p hp rfl;exact⟨keep p.1 p.2 ne nf aa e n,free p.1 p.2 aa e n,ne,nf,d⟩
theorem Inv.un{t':Nat}(I:Inv X ze σ H s)(u:Un X.fs [] H H' s.heap h')(hok:HOk X.prog X.w H' h'):Inv X ze σ H' { s with heap:=h',toks:=t' }:=by
 obtain⟨m,⟨o,es,ep,ho,r⟩,_⟩:=id I.loc;obtain⟨sl,hL⟩:=u.any ho I.free yv;exact I.step (g':=s.gens) (d':=s.drawn) (ch:=[]) (fun _ z=>nomatch z) (fun b o _ hb _ e n=>u.keep b o e n hb yv) (fun b o _ hb _ e n=>u.slot b o e n hb yv) (fun b o _ e n=>u.free b o e n yv) (fun b o _ e=>u.there b o e yv) u.tups u.frzs u.tbls (fun m' hm=>by
  obtain⟨o',ab,aa,q,r'⟩:=hm;rw[ho]at q;cases q;exact⟨_,ab,aa,hL,r'⟩) hok I.bare
theorem Inv.call{g':Array GenState}{t':Nat}{d':Drawn}{ch:List Addr}(I:Inv X ze σ H s)(u:Un (frs X.stack) ch H H' s.heap h')(hok:HOk X.prog X.w H' h')(hg:AllBare g')
  (hch:∀b∈ch,(b∈X.ex\/X.s₀.heap.objs.size<=b)/\b≠X.env.locals/\(∀x c,X.env.cells.lookup x=some c->c≠b)/\∀p∈X.pn++ze,p.1≠b):
  Inv X ze σ H' { s with heap:=h',gens:=g',drawn:=d',toks:=t' }:=by
 obtain⟨m,⟨o,es,ep,ho,r⟩,_⟩:=id I.loc;obtain⟨sl,hL⟩:=u.any ho I.free fun z=>(hch _ z).2.1 rfl;exact I.step (ch:=ch) hch (fun b o hL hb hc e n=>u.keep b o e n (fun z=>(mem_cons.mp (I.stkSub b z)).elim hL hb) hc) (fun b o _ _ hc e n=>u.any e n hc) (fun b o hc e n=>u.free b o e n hc) (fun b o hc e=>u.there b o e hc) u.tups u.frzs u.tbls (fun m' hm=>by
  obtain⟨o',ab,aa,q,r'⟩:=hm;rw[ho]at q;cases q;exact⟨_,ab,aa,hL,r'⟩) hok hg
theorem Inv.turned{t':Nat}{it:Addr}(I:Inv X ze σ H s)(k:∀b o,b≠it->s.heap.get? b=some o->h'.get? b=some o)(hn:H it=none)(hL:it≠X.env.locals)
  (h1:it∈X.ex\/X.s₀.heap.objs.size<=it) (h2:∀x c,X.env.cells.lookup x=some c->c≠it) (h3:∀p∈X.pn++ze,p.1≠it):Inv X ze σ H { s with heap:=h',toks:=t' }:=by
 have aa:∀b u,H b=some u->b≠it:=fun b u e z=>by rw[z,hn]at e;cases e
 refine I.step (g':=s.gens) (d':=s.drawn) (ch:=[it]) (fun b hb=>?_) (fun b o _ _ hc e _=>k b o (fun z=>hc (by simp[z])) e) (fun b o _ _ hc e _=>⟨o.slots,k b o (fun z=>hc (by simp[z])) e⟩) (fun _ _ _ _ n=>n)
  (fun b o hc e=>⟨o,k b o (fun z=>hc (by simp[z])) e⟩) (fun _ _ e=>e) (fun _ _ _ e=>e) (fun _ _ e=>e) (fun m hm=>?_) (fun b u e=>?_) I.bare
 ·have e:b=it:=by simpa using hb
  subst e;exact⟨h1,hL,h2,h3⟩
 ·obtain⟨o,es,ep,ho,r⟩:=hm;exact⟨o,es,ep,k _ o (nn hL) ho,r⟩
 ·refine(I.hok b u e).stay (fun c v hc q=>k c v ?_ q) (fun _ q=>q) fun _ _ q=>q;rcases hc with z|z
  ·rw[z];exact aa b u e
  ·exact aa c _ z
theorem Inv.tok(I:Inv X ze σ H s)(t:Nat):Inv X ze σ H { s with toks:=t }:=I.un (h':=s.heap) (t':=t) Un.refl I.hok
theorem Inv.kept{t':Nat}(I:Inv X ze σ H s)(k:∀b u,s.heap.get? b=some u->h'.get? b=some u):Inv X ze σ H { s with heap:=h',toks:=t' }:=I.un (Un.kept k) (I.hok.kept k)
theorem Inv.laid{a:Addr}{o:HO}{t':Nat}(I:Inv X ze σ H s)(k:∀b u,s.heap.get? b=some u->h'.get? b=some u)(hp:s.heap.objs.size<=a)(q:ObjOk X.prog X.w (upd H a o) h' a o):
  Inv X ze σ (upd H a o) { s with heap:=h',toks:=t' }:=I.un (Un.laid k hp (I.hok.fresh hp)) (I.hok.laid k hp q)
theorem Inv.write{x e:Addr}{o:HO}{t':Nat}(I:Inv X ze σ H s)(mu:Mut (H x))(he:e=x\/H e=some (.own x))(k:∀b u,b≠e->s.heap.get? b=some u->h'.get? b=some u)(q:∃u,h'.get? e=some u)
  (new:ObjOk X.prog X.w (upd H x o) h' x o):Inv X ze σ (upd H x o) { s with heap:=h',toks:=t' }:=I.un (Un.write mu he k q) (I.hok.write mu he k q new)
theorem Inv.pins_of{q:List (Addr×Obj)}(I:Inv X ze σ H s)(h:∀p∈q,s.heap.get? p.1=some p.2/\H p.1=none/\p.1≠X.env.locals/\p.1∉X.fs/\∀v,p.2.data≠.cell v):Inv X q σ H s:=
 ⟨I.ok,I.os,I.bare,I.base,I.loc,I.cell,I.free,I.freeC,fun p hp=>(mem_append.mp hp).elim (fun z=>I.pin p (gw _ z)) (h p),I.hok,I.len⟩
theorem vS{N:List Str}(hN:N.Nodup){i j:Nat}{x:Str}(a:N[i]?=some x)(b:N[j]?=some x):i=j:=by
 obtain⟨h1,e1⟩:=List.getElem?_eq_some_iff.mp a;obtain⟨h2,e2⟩:=List.getElem?_eq_some_iff.mp b;exact(List.getElem_inj hN).mp (e1.trans e2.symm)
theorem Eu{M:Model}{A:fq}{E:bn->bp->Prop}{i:Nat}{x:Str}{v:V}{u:bn}{Q:Unit->bp->Prop}(I:Inv X ze σ H s)(hN:X.N.Nodup)(hi:X.N[i]?=some x)(hx:Loc X.env.scope x)(r:RelV v u)
  (h:∀s',Inv X ze (σ.set i (some v)) H s'->(∃a,jn a s.heap s'.heap/\(a=X.env.locals\/X.env.cells.lookup x=some a))->Q () s') (hf:X.fn x=true\/X.env.scope.names.lookup x=some .local:=by first|exact .inl rfl|exact .inr rfl|assumption):ck M A (storeName X.env x u) Q E s:=by
 obtain⟨m,hn,hl⟩:=id I.loc;have ag:(X.env.scope.kind==.class||(X.env.scope.kind==.module&&X.env.locals != X.env.globals))=false:=by rw[I.ok.kind];rfl
 have af:i<σ.length:=by rw[I.len];exact(List.getElem?_eq_some_iff.mp hi).1
 have ae:=I.cne;have aa:∀{a:Addr}{h':Heap},(∃o,s.heap.get? a=some o/\H a=none)->jn a s.heap h'->HOk X.prog X.w H h':=fun {a h'} ha hs b ob e=>by
  obtain⟨_,_,ab⟩:=ha;refine(I.hok b ob e).stay (fun c w' hc q=>(hs.2 c ?_).trans q) (fun _ q=>q) fun _ _ q=>q;rintro rfl;rcases hc with rfl|hc
  ·rw[ab]at e;cases e
  ·rw[ab]at hc;cases hc
 rcases hx with hk|hk
 ·refine wpAny_storeName_local hk hn (fun h' ak hs=>?_) ag;obtain⟨oL,_,_,al,_⟩:=id hn;refine h _ ⟨I.ok,I.os,I.bare,⟨fun b o e n hb hx=>?_,fun b o e n hb hx=>?_,I.base.free,fun b o e hx=>?_,I.base.tups,I.base.frzs,I.base.tbls⟩,⟨_,ak,fun j y v' e1 e2 e3=>?_⟩,fun y c e=>?_,I.free,I.freeC,fun p hp=>?_,aa ⟨oL,al,I.free⟩ hs,by simpa using I.len⟩ ⟨_,hs,.inl rfl⟩
  ·exact(hs.2 b (fy (fz (ff e) I.ok.above))).trans (I.base.keep b o e n hb hx)
  ·obtain⟨sl,e1⟩:=I.base.slot b o e n hb hx;exact⟨sl,(hs.2 b (fy (fz (ff e) I.ok.above))).trans e1⟩
  ·obtain⟨o',e1⟩:=I.base.there b o e hx;exact⟨o',(hs.2 b (fy (fz (ff e) I.ok.above))).trans e1⟩
  ·by_cases hj:j=i
   ·subst hj;rw[hi]at e1;cases e1;rw[jr af]at e2;cases e2;exact⟨u,r,.inl ⟨hk,yv⟩⟩
   ·rw[mn (nn hj)]at e2;obtain⟨u',r',q⟩:=hl j y v' e1 e2 e3;refine⟨u',r',?_⟩;rcases q with ⟨k,e⟩|⟨k,c,e,z⟩
    ·refine .inl ⟨k,?_⟩;have:y≠x:=fun e=>hj (vS hN e1 (e▸hi));simp[this,e]
    ·exact .inr ⟨k,c,e,z.sameBut hs (ae y c e)⟩
  ·obtain⟨w',z⟩:=I.cell y c e;exact⟨w',z.sameBut hs (ae y c e)⟩
  ·obtain⟨e,n,ne,nf,d⟩:=I.pin p hp;exact⟨(hs.2 p.1 ne).trans e,n,ne,nf,d⟩
 ·have ac:X.fn x=true:=by
   rcases hf with z|z
   ·exact z
   ·rw[z]at hk;cases hk
  obtain⟨c,hc⟩:=I.ok.has x (.inl hk);obtain⟨w',z⟩:=I.cell x c hc;refine wpAny_storeName_cell I.ok.kind hk hc z (fun h' aj hs=>?_);obtain⟨oc,ai,ah⟩:=id z;refine h { s with heap:=h' } ⟨I.ok,I.os,I.bare,⟨fun b o e n hb hx=>?_,fun b o e n hb hx=>?_,I.base.free,fun b o e hx=>?_,I.base.tups,I.base.frzs,I.base.tbls⟩,⟨m,hn.sameBut hs (nn (ae x c hc)),fun j y v' e1 e2 e3=>?_⟩,fun y c' e=>?_,I.free,I.freeC,fun p hp=>?_,aa ⟨oc,ai,I.freeC x c hc⟩ hs,by simpa using I.len⟩ ⟨c,hs,.inr hc⟩
  ·exact(hs.2 b (fy (fz (ff e) (I.ok.cab x c ac hc)))).trans (I.base.keep b o e n hb hx)
  ·obtain⟨sl,e1⟩:=I.base.slot b o e n hb hx;exact⟨sl,(hs.2 b (fy (fz (ff e) (I.ok.cab x c ac hc)))).trans e1⟩
  ·obtain⟨o',e1⟩:=I.base.there b o e hx;exact⟨o',(hs.2 b (fy (fz (ff e) (I.ok.cab x c ac hc)))).trans e1⟩
  ·by_cases hj:j=i
   ·subst hj;rw[hi]at e1;cases e1;rw[jr af]at e2;cases e2;exact⟨u,r,.inr ⟨.inl hk,c,hc,aj⟩⟩
   ·rw[mn (nn hj)]at e2;obtain⟨u',r',q⟩:=hl j y v' e1 e2 e3;refine⟨u',r',?_⟩;rcases q with q|⟨k,c',e,z'⟩
    ·exact .inl q
    ·refine .inr ⟨k,c',e,z'.sameBut hs ?_⟩;rintro rfl;exact hj (vS hN e1 (I.ok.inj _ _ _ e hc▸hi))
  ·by_cases hcc:c'=c
   ·subst hcc;exact⟨_,aj⟩
   ·obtain⟨w2,z2⟩:=I.cell y c' e;exact⟨w2,z2.sameBut hs hcc⟩
  ·obtain⟨e,n,ne,nf,d⟩:=I.pin p hp;refine⟨(hs.2 p.1 ?_).trans e,n,ne,nf,d⟩;intro q;rw[q,ai]at e;have q':oc=p.2:=fx e;exact d w' (by rw[<- q'];exact ah)
theorem qB{M:Model}{A:fq}{E:bn->bp->Prop}{i:Nat}{x:Str}{v:V}{u:bn}{Q:Unit->bp->Prop}(I:Inv X ze σ H s)(hN:X.N.Nodup)(hi:X.N[i]?=some x)(hx:Loc X.env.scope x)(r:RelV v u)
  (h:∀s',Inv X ze (σ.set i (some v)) H s'->Q () s') (hf:X.fn x=true\/X.env.scope.names.lookup x=some .local:=by first|exact .inl rfl|exact .inr rfl|assumption):ck M A (storeName X.env x u) Q E s:=
 Eu I hN hi hx r (fun s' I' _=>h s' I') hf
theorem Inv.call'{s':bp}{ch:List Addr}(I:Inv X ze σ H s)(ho:s'.os=s.os)(u:Un (frs X.stack) ch H H' s.heap s'.heap)(hok:HOk X.prog X.w H' s'.heap)(hg:AllBare s'.gens)
  (hch:∀b∈ch,(b∈X.ex\/X.s₀.heap.objs.size<=b)/\b≠X.env.locals/\(∀x c,X.env.cells.lookup x=some c->c≠b)/\∀p∈X.pn++ze,p.1≠b):Inv X ze σ H' s':=by
 obtain⟨h',g',d',t',o'⟩:=s';have e:o'=s.os:=ho;subst e;exact I.call (g':=g') (t':=t') (d':=d') u hok hg hch
end
abbrev XK:=bn->Option Addr->Hp->Prop
abbrev St:=List (Option V)
abbrev VK:=V->Hp->Prop
abbrev TE:=St->Hp->VK->Prop
abbrev TT:=St->Hp->(Bool->Hp->Prop)->Prop
abbrev TA:=St->Hp->(List V->Hp->Prop)->Prop
structure Ends where
 nx:St->Hp->Prop
 rt:VK
 bk:St->Hp->Prop:=fun _ _=>False
 ct:St->Hp->Prop:=fun _ _=>False
abbrev TS:=Ends->St->Hp->Prop
def EP(X:Cx)(ze:List (Addr×Obj))(σ:St)(Q:VK)(u:bn)(s':bp):Prop:=∃v H',Inv X ze σ H' s'/\RelV v u/\Q v H'
def TP(X:Cx)(ze:List (Addr×Obj))(σ:St)(Q:Bool->Hp->Prop)(b:Bool)(s':bp):Prop:=∃H',Inv X ze σ H' s'/\Q b H'
def AP(X:Cx)(ze:List (Addr×Obj))(σ:St)(Q:List V->Hp->Prop)(us:List bn)(s':bp):Prop:=∃vs H',Inv X ze σ H' s'/\Vals vs us/\Q vs H'
def SP(X:Cx)(ze:List (Addr×Obj))(D:Ends)(f:Flow)(s':bp):Prop:=
 match f with
 | .next=>∃ σ' H',Inv X ze σ' H' s'/\D.nx σ' H'
 | .brk=>∃ σ' H',Inv X ze σ' H' s'/\D.bk σ' H'
 | .cont=>∃ σ' H',Inv X ze σ' H' s'/\D.ct σ' H'
 | .ret u=>∃v σ' H',Inv X ze σ' H' s'/\RelV v u/\D.rt v H'
def PE(X:Cx)(e:Expr)(t:TE):Prop:=
 ∀(ze:List (Addr×Obj)) (s:bp) (σ:St) (H:Hp) (Q:VK),Inv X ze σ H s->t σ H Q->ck (model X.prog X.w) X.A (eval e X.env) (EP X ze σ Q) X.xe s
def PT(X:Cx)(e:Expr)(t:TT):Prop:=
 ∀(ze:List (Addr×Obj)) (s:bp) (σ:St) (H:Hp) (Q:Bool->Hp->Prop),Inv X ze σ H s->t σ H Q->ck (model X.prog X.w) X.A (isTrue e X.env (eval e X.env)) (TP X ze σ Q) X.xe s
def PW(X:Cx)(e:Expr)(t:TT):Prop:=
 ∀(whole:Sem bn) (ze:List (Addr×Obj)) (s:bp) (σ:St) (H:Hp) (Q:Bool->Hp->Prop),Inv X ze σ H s->t σ H Q->ck (model X.prog X.w) X.A (isTrue e X.env whole) (TP X ze σ Q) X.xe s
theorem PW.pt{X:Cx}{e:Expr}{t:TT}(h:PW X e t):PT X e t:=h _
def PA(X:Cx)(es:List Expr)(t:TA):Prop:=
 ∀(pos:Pos) (ze:List (Addr×Obj)) (s:bp) (σ:St) (H:Hp) (Q:List V->Hp->Prop),Inv X ze σ H s->t σ H Q->ck (model X.prog X.w) X.A (spliced (on pos (fi es X.env))) (AP X ze σ Q) X.xe s
def PS(X:Cx)(st:Stmt)(t:TS):Prop:=
 ∀(ze:List (Addr×Obj)) (s:bp) (σ:St) (H:Hp) (D:Ends),Inv X ze σ H s->t D σ H->ck (model X.prog X.w) X.A (exec st X.env) (SP X ze D) X.xe s
def PSs(X:Cx)(st:List Stmt)(t:TS):Prop:=
 ∀(ze:List (Addr×Obj)) (s:bp) (σ:St) (H:Hp) (D:Ends),Inv X ze σ H s->t D σ H->ck (model X.prog X.w) X.A (execs st X.env) (SP X ze D) X.xe s
theorem thn{α:Type}{t:Sem α}{Q Q':α->bp->Prop}{M:Model}{A:fq}{E:bn->bp->Prop}{s:bp}(h:ck M A t Q E s)(hQ:∀a s,Q a s->Q' a s):ck M A t Q' E s:=oo h hQ fun _ _ x=>x
end
section
section
variable {X:Cx}
def eG(i:Nat):TE:=fun σ H Q=>∃v,σ[i]?=some (some v)/\Q v H
def tC(v:V):TE:=fun _ H Q=>Q v H
theorem E8{i:Nat}{x:Str}{pos:Pos}(hN:X.N[i]?=some x)(hv:Vis X.env.scope x)(hd:(x==("__debug__":Str))=false:=by decide)(q:(x==("__classdict__":Str))=false:=by decide):PE X (.Name x pos) (eG i):=by
 intro ze s σ H Q I h;obtain⟨v,e,h⟩:=h;obtain⟨m,hn,hl⟩:=I.loc;obtain⟨u,r,l⟩:=hl i x v hN e hv;have fin:EP X ze σ Q u s:=⟨v,H,I,r,h⟩;rcases l with ⟨hk,hm⟩|⟨hk,c,hc,hcell⟩
 ·exact wpAny_Name (wpAny_loadName_local I.ok.kind hk hn hm fin) hd
 ·rcases hk with hk|hk
  ·exact wpAny_Name (wpAny_loadName_cell I.ok.kind hk hc hcell fin) hd
  ·exact wpAny_Name (wpAny_loadName_free I.ok.kind hk hc hcell fin q) hd
theorem zc{i j pos}:PE X (.Constant (.int i) j pos) (tC (.int i)):=fun _ _ _ H _ I h=>wpAny_Constant_int ⟨.int i,H,I.tok _,⟨_,rfl⟩,h⟩
theorem fI{b j pos}:PE X (.Constant (.bool b) j pos) (tC (.bl b)):=fun _ _ _ H _ I h=>Constant_bool ⟨.bl b,H,I,rfl,h⟩
theorem bR{x j pos}:PE X (.Constant (.str x) j pos) (tC (.str x)):=fun _ _ _ H _ I h=>Calls.Constant_str ⟨.str x,H,I.tok _,⟨_,rfl⟩,h⟩
def Gl(X:Cx)(x:Str):Prop:=X.env.kindOf x=some .globalImplicit
theorem FF{E:bn->bp->Prop}{ze:List (Addr×Obj)}{s:bp}{σ:St}{H:Hp}{x:Str}{u:bn}{pos:Pos}{Q:bn->bp->Prop}(I:Inv X ze σ H s)(hg:Gl X x)(hm:X.mg x=some u)(h:Q u s)
  (hd:(x==("__debug__":Str))=false:=by decide):ck (model X.prog X.w) X.A (eval (.Name x pos) X.env) Q E s:=
 Calls.Name_function_global I.ok.kind hg (Calls.loadGlobal_global (by rw[I.ok.glob];exact I.mod.glob.keeps I.bk) hm h) hd
theorem hU{E:bn->bp->Prop}{ze:List (Addr×Obj)}{s:bp}{σ:St}{H:Hp}{x:Str}{u:bn}{pos:Pos}{Q:bn->bp->Prop}(I:Inv X ze σ H s)(hg:Gl X x)(hm:X.mg x=none)(hv:gg x=some u)(h:Q u s)
  (hn:x ≠ "__name__":=by decide) (hd:(x==("__debug__":Str))=false:=by decide):ck (model X.prog X.w) X.A (eval (.Name x pos) X.env) Q E s:=by
 obtain⟨mb,h1,h2⟩:=I.mod.blt;exact Calls.Name_function_global I.ok.kind hg (Calls.loadGlobal_builtin (by rw[I.ok.glob];exact I.mod.glob.keeps I.bk) hm (by rw[I.ok.blt];exact h1.keeps I.bk) ((h2 x hn).trans hv) h) hd
theorem oJ{x:Str}{v:V}{u:bn}{pos:Pos}(hg:Gl X x)(hm:X.mg x=none)(hv:gg x=some u)(r:RelV v u)(hn:x ≠ "__name__":=by decide)(hd:(x==("__debug__":Str))=false:=by decide):PE X (.Name x pos) (tC v):=
 fun _ _ _ H _ I h=>hU I hg hm hv ⟨v,H,I,r,h⟩ hn hd
variable {a b:Expr}{ta tb:TE}{pos:Pos}
variable {tA tB':TT}{rest:List Expr}
def wJ(t u:TT):TT:=fun σ H Q=>t σ H fun c H1=>if c=true then u σ H1 Q else Q false H1
def tOr(t u:TT):TT:=fun σ H Q=>t σ H fun c H1=>if c=true then Q true H1 else u σ H1 Q
def AG(t:TT):TT:=fun σ H Q=>t σ H fun c H1=>Q (!c) H1
theorem yG(ha:PT X a tA):PW X (.BoolOp .And [a] pos) tA:=by
 intro wh ze s σ H Q I h;refine isTrue_and (thn (ha ze s σ H Q I h) fun c s1 e=>?_);cases c with
 |true=>exact isTrue_and_nil e
 |false=>exact e
theorem qM(ha:PT X a tA):PW X (.BoolOp .Or [a] pos) tA:=by
 intro wh ze s σ H Q I h;refine isTrue_or (thn (ha ze s σ H Q I h) fun c s1 e=>?_);cases c with
 |false=>exact isTrue_or_nil e
 |true=>exact e
theorem xG(ha:PT X a tA)(hb:PW X (.BoolOp .And (b::rest) pos) tB'):PW X (.BoolOp .And (a::b::rest) pos) (wJ tA tB'):=by
 intro wh ze s σ H Q I h;refine isTrue_and (thn (ha ze s σ H _ I h) fun c s1 ⟨H1,I1,q1⟩=>?_);cases c with
 |true=>exact hb wh ze s1 σ H1 Q I1 q1
 |false=>exact⟨H1,I1,q1⟩
theorem iI(ha:PT X a tA)(hb:PW X (.BoolOp .Or (b::rest) pos) tB'):PW X (.BoolOp .Or (a::b::rest) pos) (tOr tA tB'):=by
 intro wh ze s σ H Q I h;refine isTrue_or (thn (ha ze s σ H _ I h) fun c s1 ⟨H1,I1,q1⟩=>?_);cases c with
 |true=>exact⟨H1,I1,q1⟩
 |false=>exact hb wh ze s1 σ H1 Q I1 q1
theorem gY(ha:PT X a tA):PT X (.UnaryOp .Not a pos) (AG tA):=by
 intro ze s σ H Q I h;exact isTrue_not (ha ze s σ H (fun c H1=>Q (!c) H1) I h)
def x4(ta tb:TE):TE:=fun σ H Q=>ta σ H fun x H1=>∃c,x=.bl c/\if c=true then tb σ H1 Q else Q (.bl false) H1
def wS(ta:TE):TE:=fun σ H Q=>ta σ H fun x H1=>∃c,x=.bl c/\Q (.bl (!c)) H1
theorem Ax{op}{t:TE}(h:PE X a t):PE X (.BoolOp op [a] pos) t:=fun ze s σ H Q I hw=>BoolOp_one (h ze s σ H Q I hw)
theorem DC(ha:PE X a ta)(hb:PE X (.BoolOp .And (b::rest) pos) tb):PE X (.BoolOp .And (a::b::rest) pos) (x4 ta tb):=by
 intro ze s σ H Q I h;refine BoolOp_and (thn (ha ze s σ H _ I h) fun v s1 ⟨x,H1,I1,r1,q1⟩=>?_);obtain⟨c,rfl,q1⟩:=q1;cases r1;refine ja ?_;cases c with
 |true=>exact hb ze s1 σ H1 Q I1 q1
 |false=>exact⟨.bl false,H1,I1,rfl,q1⟩
theorem CO(ha:PE X a ta):PE X (.UnaryOp .Not a pos) (wS ta):=by
 intro ze s σ H Q I h;refine UnaryOp_ (thn (ha ze s σ H _ I h) fun v s1 ⟨x,H1,I1,r1,q1⟩=>?_);obtain⟨c,rfl,q1⟩:=q1;cases r1;exact not_of (ja ⟨.bl (!c),H1,I1,rfl,q1⟩)
end
end
section
def SqL(K:cu)(H:Hp)(a:Addr)(xs:List V):Prop:=
 Rd H a (.lst xs) \/
  ∃(o:Obj) (its:Array bn) (n:Nat),K.lookup a=some o/\o.cls=.type "list"/\o.dict=none/\o.data=.seq its n/\its.size<=dw/\Vals xs its.toList
def SqT(K:cu)(H:Hp)(a:Addr)(xs:List V):Prop:=
 Rd H a (.tup xs) \/
  ∃(o:Obj) (its:Array bn) (n:Nat),K.lookup a=some o/\o.cls=.type "tuple"/\o.data=.seq its n/\its.size<=dw/\Vals xs its.toList
def E5:bn->Option V
 | .none=>some .non
 | .bool b=>some (.bl b)
 | .int i _=>some (.int i)
 | .str x _=>some (.str x)
 | .bytes b _=>some (.byt b)
 | .float b _=>some (.flt b)
 | .ref a=>some (.ref a)
 | .type n=>some (.ty n)
 |_=>none
theorem RelV.abs{x:V}{u:bn}(r:RelV x u):E5 u=some x:=by
 cases x with
 |non=>cases r;rfl
 |bl _=>cases r;rfl
 |int _=>obtain⟨t,rfl⟩:=r;rfl
 |str _=>obtain⟨t,rfl⟩:=r;rfl
 |byt _=>obtain⟨t,rfl⟩:=r;rfl
 |flt _=>obtain⟨t,rfl⟩:=r;rfl
 |ref _=>cases r;rfl
 |ty _=>cases r;rfl
theorem RelV.inj{x y:V}{u:bn}(r:RelV x u)(q:RelV y u):x=y:=fx (r.abs.symm.trans q.abs)
theorem Vals.inj:∀{xs ys:List V}{us:List bn},Vals xs us->Vals ys us->xs=ys
 |_,_,_,.nil,.nil=>rfl
 |_,_,_,.cons r t,.cons r' t'=>by rw[r.inj r',Vals.inj t t']
section
variable {X:Cx}{ze:List (Addr×Obj)}{σ:St}{H:Hp}{s:bp}{a:Addr}{xs ys:List V}
theorem SqL.of{K:cu}(h:H a=some (.lst xs)):SqL K H a xs:=.inl (.inl h)
theorem SqT.of{K:cu}(h:H a=some (.tup xs)):SqT K H a xs:=.inl (.inl h)
theorem Inv.list(I:Inv X ze σ H s)(h:SqL X.K H a xs):∃q:List bn,Vals xs q/\PlainL s.heap a q.toArray/\xs.length<=dw:=by
 rcases h with h|⟨o,q,n,hk,hc,hd,hs,hz,r⟩
 ·obtain⟨z,q,n,r,e⟩:=h.ok I.hok;exact⟨q,r,⟨_,n,e,rfl,rfl,rfl⟩,z⟩
 ·refine⟨q.toList,r,⟨o,n,I.kIn a o hk,hc,hd,by simpa using hs⟩,?_⟩;have e:=r.length;simp only[fc]at e;omega
theorem Inv.tuple(I:Inv X ze σ H s)(h:SqT X.K H a xs):∃q:List bn,Vals xs q/\IsTup s.heap a q.toArray/\xs.length<=dw:=by
 rcases h with h|⟨o,q,n,hk,hc,hs,hz,r⟩
 ·obtain⟨z,q,r,p⟩:=h.ok I.hok;exact⟨q,r,p,z.1⟩
 ·refine⟨q.toList,r,⟨o,I.kIn a o hk,hc,n,by simpa using hs⟩,?_⟩;have e:=r.length;simp only[fc]at e;omega
theorem Inv.list_inj(I:Inv X ze σ H s)(h:SqL X.K H a xs)(h':SqL X.K H a ys):xs=ys:=by
 obtain⟨q,r,⟨o,n,e,_,_,d⟩,_⟩:=I.list h;obtain⟨its',r',⟨o',n',e',_,_,d'⟩,_⟩:=I.list h';rw[e]at e';cases e';rw[d]at d';injection d' with d1 _
 have:q=its':=by simpa using congrArg Array.toList d1
 subst this;exact r.inj r'
theorem Inv.tuple_inj(I:Inv X ze σ H s)(h:SqT X.K H a xs)(h':SqT X.K H a ys):xs=ys:=by
 obtain⟨q,r,⟨o,e,_,n,d⟩,_⟩:=I.tuple h;obtain⟨its',r',⟨o',e',_,n',d'⟩,_⟩:=I.tuple h';rw[e]at e';cases e';rw[d]at d';injection d' with d1 _
 have:q=its':=by simpa using congrArg Array.toList d1
 subst this;exact r.inj r'
end
abbrev Cx.wish (X:Cx) (E:bn->bp->Prop):Cx:={ X with xe:=E }
abbrev Cx.nox (X:Cx):Cx:=X.wish fun _ _=>False
theorem Cx.Ok.wish{X:Cx}(ok:X.Ok)(E:bn->bp->Prop):(X.wish E).Ok:=
 ⟨ok.mod,ok.kind,ok.glob,ok.blt,ok.above,ok.inj,ok.has,ok.cab,ok.hd,ok.frames,ok.stk,ok.exf,ok.bs,ok.bsz,ok.noex,ok.exfs,ok.funs,ok.frf⟩
theorem Cx.Ok.unwish{X:Cx}{E:bn->bp->Prop}(ok:(X.wish E).Ok):X.Ok:=
 ⟨ok.mod,ok.kind,ok.glob,ok.blt,ok.above,ok.inj,ok.has,ok.cab,ok.hd,ok.frames,ok.stk,ok.exf,ok.bs,ok.bsz,ok.noex,ok.exfs,ok.funs,ok.frf⟩
section
variable {X:Cx}{ze:List (Addr×Obj)}{σ:St}{H:Hp}{s:bp}{E:bn->bp->Prop}
theorem Inv.wish(I:Inv X ze σ H s)(E:bn->bp->Prop):Inv (X.wish E) ze σ H s:=⟨I.ok.wish E,I.os,I.bare,I.base,I.loc,I.cell,I.free,I.freeC,I.pin,I.hok,I.len⟩
theorem Inv.unwish(I:Inv (X.wish E) ze σ H s):Inv X ze σ H s:=⟨I.ok.unwish,I.os,I.bare,I.base,I.loc,I.cell,I.free,I.freeC,I.pin,I.hok,I.len⟩
theorem SP.unwish{D:Ends}{f:Flow}{s':bp}(h:SP (X.wish E) ze D f s'):SP X ze D f s':=by
 cases f with
 |next=>obtain⟨σ',H',I,q⟩:=h;exact⟨σ',H',I.unwish,q⟩
 |brk=>obtain⟨σ',H',I,q⟩:=h;exact⟨σ',H',I.unwish,q⟩
 |cont=>obtain⟨σ',H',I,q⟩:=h;exact⟨σ',H',I.unwish,q⟩
 |ret u=>obtain⟨v,σ',H',I,r,q⟩:=h;exact⟨v,σ',H',I.unwish,r,q⟩
theorem PSs.nox{st:List Stmt}{t:TS}(h:PSs X.nox st t):PSs X st t:=fun ze s σ H D I hw=>
 oo (h ze s σ H D (I.wish _) hw) (fun _ _ q=>q.unwish) fun _ _ z=>lu z
end
section
variable {X:Cx}{st:Stmt}{rest:List Stmt}{t u:TS}{e:Expr}{te:TE}{pos:Pos}
def pR:TS:=fun D σ H=>D.nx σ H
def fX(t u:TS):TS:=fun D σ H=>t { D with nx:=u D } σ H
theorem aX:PSs X [] pR:=fun _ _ σ H _ I h=>wpAny_execs_nil ⟨σ,H,I,h⟩
theorem zf(h1:PS X st t)(h2:PSs X rest u):PSs X (st::rest) (fX t u):=by
 intro ze s σ H D I h;refine wpAny_execs_cons (thn (h1 ze s σ H { D with nx:=u D } I h) fun f s1 q=>?_);cases f with
 |next=>
  obtain⟨σ',H',I',q⟩:=q;exact h2 ze s1 σ' H' D I' q
 |ret v=>exact q
 |brk=>exact q
 |cont=>exact q
theorem zn(h1:PS X st t):PSs X [st] t:=by
 intro ze s σ H D I h;refine wpAny_execs_cons (thn (h1 ze s σ H D I h) fun f s1 q=>?_);cases f with
 |next=>exact wpAny_execs_nil q
 |ret v=>exact q
 |brk=>exact q
 |cont=>exact q
theorem Inv.quiet{ze:List (Addr×Obj)}{σ:St}{H:Hp}{s:bp}(I:Inv X ze σ H s):interactive X.env=false:=by simp[interactive,I.ok.kind]
def uW(te:TE):TS:=fun D σ H=>te σ H fun _ H1=>D.nx σ H1
theorem c0(he:PE X e te)(hs:swapsWith e none pos.line X.env=pure false:=by rfl):PS X (.Expr e pos) (uW te):=by
 intro ze s σ H D I h;exact wpAny_Expr_any (thn (he ze s σ H _ I h) fun v s1 ⟨x,H1,I1,r1,q1⟩=>⟨σ,H1,I1,q1⟩) I.quiet hs
def oY(te:TE):TS:=fun D σ H=>te σ H D.rt
theorem zR(he:PE X e te):PS X (.Return (some e) pos) (oY te):=by
 intro ze s σ H D I h;exact wpAny_Return_some (thn (he ze s σ H _ I h) fun v s1 ⟨x,H1,I1,r1,q1⟩=>⟨x,σ,H1,I1,r1,q1⟩)
def pS(c:TT)(t u:TS):TS:=fun D σ H=>c σ H fun b H1=>if b=true then t D σ H1 else u D σ H1
theorem bE{c:Expr}{a b:List Stmt}{tc:TT}(hc:PT X c tc)(ha:PSs X a t)(hb:PSs X b u):PS X (.If c a b pos) (pS tc t u):=by
 intro ze s σ H D I h;refine wpAny_If (thn (hc ze s σ H _ I h) fun d s1 ⟨H1,I1,q1⟩=>?_);cases d with
 |true=>exact ha ze s1 σ H1 D I1 q1
 |false=>exact hb ze s1 σ H1 D I1 q1
end
abbrev TG:=V->St->Hp->(St->Hp->Prop)->Prop
abbrev TGs:=List V->St->Hp->(St->Hp->Prop)->Prop
def PG(X:Cx)(q:Expr)(t:TG):Prop:=
 ∀(ze:List (Addr×Obj)) (s:bp) (σ:St) (H:Hp) (v:V) (u:bn) (Q:St->Hp->Prop),Inv X ze σ H s->RelV v u->t v σ H Q ->
  ck (model X.prog X.w) X.A (assign q X.env u) (fun _ s'=>∃ σ' H',Inv X ze σ' H' s'/\Q σ' H') X.xe s
def PGs(X:Cx)(ts:List Expr)(t:TGs):Prop:=
 ∀(ze:List (Addr×Obj)) (s:bp) (σ:St) (H:Hp) (vs:List V) (us:List bn) (Q:St->Hp->Prop),Inv X ze σ H s->Vals vs us->t vs σ H Q ->
  ck (model X.prog X.w) X.A (assignInOrder ((assignEach ts X.env).map (·.2)) us) (fun _ s'=>∃ σ' H',Inv X ze σ' H' s'/\Q σ' H') X.xe s
abbrev TSet:=V->V->V->Hp->(Hp->Prop)->Prop
def PSet(X:Cx)(t:TSet):Prop:=
 ∀(ze:List (Addr×Obj)) (s:bp) (σ:St) (H:Hp) (o i v:V) (ov iv u:bn) (Q:Hp->Prop),Inv X ze σ H s->RelV o ov->RelV i iv->RelV v u->t o i v H Q ->
  ck (model X.prog X.w) X.A (setItem ov iv u) (fun _ s'=>∃H',Inv X ze σ H' s'/\Q H') X.xe s
section
variable {X:Cx}{pos:Pos}
def iB(i:Nat):TG:=fun v σ H Q=>Q (σ.set i (some v)) H
theorem zE{i:Nat}{x:Str}(hN:X.N.Nodup)(hi:X.N[i]?=some x)(hx:Loc X.env.scope x)(hf:X.fn x=true\/X.env.scope.names.lookup x=some .local:=by first|exact .inl rfl|exact .inr rfl|assumption):PG X (.Name x pos) (iB i):=by
 intro ze s σ H v u Q I r h;exact wpAny_assign_Name (qB I hN hi hx r (fun s' I'=>⟨_,H,I',h⟩) hf)
def wM:TGs:=fun vs σ H Q=>vs=[]/\Q σ H
def yR(t:TG)(u:TGs):TGs:=fun vs σ H Q=>∃v r,vs=v::r/\t v σ H fun σ' H'=>u r σ' H' Q
theorem i0:PGs X [] wM:=by
 intro ze s σ H vs us Q I r h;obtain⟨e,h⟩:=h;subst e;cases r;exact assignInOrder_nil ⟨σ,H,I,h⟩
theorem cF{e:Expr}{es:List Expr}{t:TG}{u:TGs}(h1:PG X e t)(h2:PGs X es u)
  (hs:(assignEach (e::es) X.env).map (·.2)=assign e X.env::(assignEach es X.env).map (·.2):=by rfl):PGs X (e::es) (yR t u):=by
 intro ze s σ H vs us Q I r h;obtain⟨v,vr,e1,h⟩:=h;subst e1;cases r with
 |cons r rr=>
  rw[hs];refine assignInOrder_cons (thn (h1 ze s σ H _ _ _ I r h) fun _ s1 ⟨σ1,H1,I1,q1⟩=>?_);exact h2 ze s1 σ1 H1 _ _ Q I1 rr q1
def v3(K:cu)(n:Nat)(t:TGs):TG:=fun v σ H Q=>∃a xs,v=.ref a/\SqT K H a xs/\xs.length=n/\t xs σ H Q
theorem kE{es:List Expr}{k:Nat}{t:TGs}{n:Nat}(hc:X.calm=true)(h:PGs X es t)
  (hn:(assignEach es X.env).length=n:=by rfl) (hst:(assignEach es X.env).findIdx? (·.1)=none:=by rfl):PG X (.Tuple es k pos) (v3 X.K n t):=by
 intro ze s σ H v u Q I r hw;obtain⟨a,xs,e1,hq,hl,hw⟩:=hw;subst e1;cases r;obtain⟨q,rv,ht,hz⟩:=I.tuple hq;refine assign_Tuple_tuple (I.ok.hd hc) ht (by simp[hn,<- hl,rv.length]) hst fun h' hx=>?_;have I1:Inv X ze σ H { s with heap:=h' }:=I.kept (t':=s.toks) fun b o e=>hx b o (fy (ff e)) e;exact h ze _ σ H xs _ Q I1 (by simpa using rv) hw
def tB(to ti:TE)(t:TSet):TG:=fun v σ H Q=>to σ H fun o H1=>ti σ H1 fun i H2=>t o i v H2 fun H3=>Q σ H3
theorem vH{o i:Expr}{to ti:TE}{t:TSet}(ho:PE X o to)(hi:PE X i ti)(hs:PSet X t)
  (ha:∀v,assign (.Subscript o i pos) X.env v=(do
   let ov <- holding [v] (eval o X.env)
   let iv <- holding [v,ov] (eval i X.env)
   standAt pos
   holding [v,ov,iv] (setItem ov iv v)
   release [v,ov,iv] []):=by intro _;rfl):PG X (.Subscript o i pos) (tB to ti t):=by
 intro ze s σ H v u Q I r h;rw[ha];refine bj (gx (thn (ho ze s σ H _ I h) fun ov s1 ⟨x,H1,I1,r1,q1⟩=>?_));refine bj (gx (thn (hi ze s1 σ H1 _ I1 q1) fun iv s2 ⟨y,H2,I2,r2,q2⟩=>?_));refine bj (wpAny_standAt (bj (gx (thn (hs ze s2 σ H2 x y v ov iv u _ I2 r1 r2 r q2) fun _ s3 ⟨H3,I3,q3⟩=>?_))));exact wpAny_release ⟨σ,H3,I3,q3⟩
def oE(te:TE)(g:TG):TS:=fun D σ H=>te σ H fun x H1=>g x σ H1 D.nx
theorem m6{tg e:Expr}{te:TE}{g:TG}(he:PE X e te)(hg:PG X tg g)(hs:swapsWithSole [tg] e pos.line X.env=pure false:=by rfl)(hw:swappedStores [tg] e X.env=pure none:=by rfl)
  (h1:(assignEach [tg] X.env).map (·.2)=[assign tg X.env]:=by rfl):PS X (.Assign [tg] e pos) (oE te g):=by
 intro ze s σ H D I h;refine wpAny_Assign_stores (thn (he ze s σ H _ I h) fun v s1 ⟨x,H1,I1,r1,q1⟩=>?_) hs hw;rw[h1];exact thn (hg ze s1 σ H1 x v _ I1 r1 q1) fun _ s2 q=>q
theorem zv{i:Nat}{x:Str}{e:Expr}{te:TE}{pos':Pos}(hN:X.N.Nodup)(hi:X.N[i]?=some x)(hx:Loc X.env.scope x)(he:PE X e te)(hs:swapsWith e (some (.Name x pos')) pos.line X.env=pure false:=by rfl)(hf:X.fn x=true\/X.env.scope.names.lookup x=some .local:=by first|exact .inl rfl|exact .inr rfl|assumption):
  PS X (.Assign [.Name x pos'] e pos) (oE te (iB i)):=by
 intro ze s σ H D I h;refine wpAny_Assign_Name (thn (he ze s σ H _ I h) fun v s1 ⟨y,H1,I1,r1,q1⟩=>?_) hs;exact qB I1 hN hi hx r1 (fun s2 I2=>⟨_,H1,I2,q1⟩) hf
end
section
variable {X:Cx}{pos:Pos}
def uG(c:TT)(tb:TS):TS:=fun D σ H=>∃W:Nat->St->Hp->Prop,(∃m,W m σ H)/\∀m σ H,W m σ H ->
 c σ H fun b H1=>if b=true then ∃N:St->Hp->Prop,(∀ σ' H',N σ' H'->∃m',m'<m/\W m' σ' H')/\tb { D with nx:=N,ct:=N,bk:=D.nx } σ H1 else D.nx σ H1
theorem qX{c:Expr}{q:List Stmt}{tc:TT}{tb:TS}(hp:PassesOwn (model X.prog X.w) X.A X.env X.xe)(hc:PT X c tc)(hb:PSs X q tb):PS X (.While c q [] pos) (uG tc tb):=by
 intro ze s σ H D I h;obtain⟨W,⟨m0,w0⟩,z⟩:=h;refine wpAny_While (codeAny_whileLoop (fun n s'=>∃ σ' H',Inv X ze σ' H' s'/\W n σ' H') ?_ m0 ⟨σ,H,I,w0⟩);rintro n s1 ⟨σ1,H1,I1,w1⟩;refine kt hp (thn (hc ze s1 σ1 H1 _ I1 (z n σ1 H1 w1)) fun b s2 ⟨H2,I2,q2⟩=>?_);cases b with
 |true=>
  obtain⟨N,hN,q2⟩:=q2;rw[cf rfl];refine kt hp (thn (hb ze s2 σ1 H2 _ I2 q2) fun f s3 q3=>?_);cases f with
  |next=>
   obtain⟨σ3,H3,I3,n3⟩:=q3;obtain⟨m',hm,w3⟩:=hN σ3 H3 n3;exact⟨m',hm,σ3,H3,I3,w3⟩
  |cont=>
   obtain⟨σ3,H3,I3,n3⟩:=q3;obtain⟨m',hm,w3⟩:=hN σ3 H3 n3;exact⟨m',hm,σ3,H3,I3,w3⟩
  |brk=>exact q3
  |ret v=>exact q3
 |false=>
  rw[cb ge];exact wpAny_execs_nil ⟨σ1,H2,I2,q2⟩
end
structure It where
 go:Nat->Hp->Prop
 yld:Nat->Hp->V->Hp->Prop
 stop:Nat->Hp->Prop
def FpOk(X:Cx)(ze:List (Addr×Obj))(H:Hp)(b:Addr):Prop:=
 H b=none/\b≠X.env.locals/\b∉X.fs/\(b∈X.ex\/X.s₀.heap.objs.size<=b)/\(∀x c,X.env.cells.lookup x=some c->c≠b)/\∀p∈X.pn++ze,p.1≠b
theorem Inv.fpOk{X:Cx}{ze:List (Addr×Obj)}{σ:St}{H H':Hp}{s:bp}{b:Addr}(I:Inv X ze σ H s)(hb:s.heap.objs.size<=b)(hn:H' b=none):FpOk X ze H' b:=by
 refine⟨hn,ne_of_gt (fz I.lt hb),I.nofs hb,.inr (gq I.sz hb),fun x c e z=>?_,fun p hp z=>?_⟩
 ·obtain⟨v,q⟩:=I.cell x c e;exact absurd (fz q.lt (by rw[z];exact hb)) (lg _)
 ·exact absurd (fz (ff (I.pin p hp).1) (by rw[z];exact hb)) (lg _)
structure Turn(P:fe)(w:ft)(K:cu)(tg:Expr)(J:It)(fp:List Addr)(it:Addr)(tn:Nat->Heap->Prop):Prop where
 mem:it∈fp
 obj:∀i h,tn i h->∀b∈fp,∃o,h.get? b=some o/\∀v,o.data≠.cell v
 keep:∀i h h',tn i h->(∀b∈fp,∀o,h.get? b=some o->h'.get? b=some o)->tn i h'
 item:∀(X:Cx),X.prog=P->X.w=w->X.K=K->X.calm=true->∀(i:Nat) (ze:List (Addr×Obj)) (s:bp) (σ:St) (H:Hp) (E:bn->bp->Prop),Inv X ze σ H s->(∀b∈fp,FpOk X ze H b)->tn i s.heap->J.go i H ->
  ck (model P w) X.A (lv (.ref it)) (fun r s1=>∃u,r=some u /\
   ck (model P w) X.A (letOwnedTupleGo tg (.ref it) u) (fun _ s2=>∃x H',Inv X ze σ H' s2/\RelV x u/\J.yld i H x H'/\tn (i+1) s2.heap/\∀b∈fp,H' b=none) E s1) E s
 done:∀(X:Cx),X.prog=P->X.w=w->X.K=K->X.calm=true->∀(i:Nat) (ze:List (Addr×Obj)) (s:bp) (σ:St) (H:Hp) (E:bn->bp->Prop),Inv X ze σ H s->(∀b∈fp,FpOk X ze H b)->tn i s.heap->J.stop i H ->
  ck (model P w) X.A (lv (.ref it)) (fun r s1=>r=none/\Inv X ze σ H s1) E s
 self:∀(A:fq) (i:Nat) (s:bp) (Q:bn->bp->Prop) (E:bn->bp->Prop),tn i s.heap->Q (.ref it) s->ck (model P w) A (pyIter (.ref it)) Q E s
abbrev TI:=St->Hp->(It->Hp->Prop)->Prop
def PIE(X:Cx)(ze:List (Addr×Obj))(σ:St)(tg:Expr)(R:It->Hp->Prop)(q:bn)(s2:bp):Prop:=
 ∃(it:Addr) (fp:List Addr) (tn:Nat->Heap->Prop) (J:It) (H':Hp),q=.ref it/\Inv X ze σ H' s2/\Turn X.prog X.w X.K tg J fp it tn/\tn 0 s2.heap/\(∀b∈fp,FpOk X ze H' b)/\R J H'
def PI(X:Cx)(tg iter:Expr)(wi:TI):Prop:=
 ∀(ze:List (Addr×Obj)) (s:bp) (σ:St) (H:Hp) (R:It->Hp->Prop),Inv X ze σ H s->wi σ H R ->
  ck (model X.prog X.w) X.A (eval iter X.env) (fun v s1=>ck (model X.prog X.w) X.A (pyIter v) (PIE X ze σ tg R) X.xe s1) X.xe s
theorem oW{M:Model}{A:fq}{E:bn->bp->Prop}{s:bp}{tg:Expr}{it:Addr}{u:bn}{o:Obj}{n:String}{vs:Array bn}{Q:Unit->bp->Prop}(ho:s.heap.get? it=some o)(hc:o.cls=.type n)(hd:o.data=.fields vs)
    (hn:["enumerate","zip","dict_itemiterator","dict_reverseitemiterator","odict_iterator","itertools.zip_longest","itertools.pairwise"].contains n=false) (hQ:Q () s):ck M A (letOwnedTupleGo tg (.ref it) u) Q E s:=by
  unfold letOwnedTupleGo;cases tg<;>first
    |exact br hQ
    | (cases u<;>first
        |exact br hQ
        | (refine bj (wpAny_load ho ?_)
           rw[hc,hd];show ck M A (if (["enumerate","zip","dict_itemiterator","dict_reverseitemiterator","odict_iterator","itertools.zip_longest","itertools.pairwise"].contains n&&vs[0]?==some (oq _))=true then _ else _) Q E s;rw[cb (by intro h;rw[hn,Bool.false_and]at h;cases h)];exact br hQ))
def Itl(K:cu)(a:Addr):It:=
 ⟨fun i H=>∃xs x,SqL K H a xs/\xs[i]?=some x,fun i H x H'=>H'=H/\∀xs,SqL K H a xs->xs[i]?=some x,fun i H=>∃xs,SqL K H a xs/\xs.length<=i⟩
def Itt(K:cu)(a:Addr):It:=
 ⟨fun i H=>∃xs x,SqT K H a xs/\xs[i]?=some x,fun i H x H'=>H'=H/\∀xs,SqT K H a xs->xs[i]?=some x,fun i H=>∃xs,SqT K H a xs/\xs.length<=i⟩
def Itr(lo:Int)(n:Nat):It:=⟨fun i _=>i<n,fun i H x H'=>H'=H/\x=.int (lo+i),fun i _=>n<=i⟩
theorem vW{P:fe}{w:ft}{K:cu}{tg:Expr}(a it:Addr):Turn P w K tg (Itl K a) [it] it (fun i h=>h.IsListIter it a i) where
 mem:=by simp
 obj:=fun i h st b hb=>by
  have e:b=it:=by simpa using hb
  subst e;obtain⟨o,e,c,d⟩:=st;exact⟨o,e,fun v z=>by rw[d]at z;cases z⟩
 keep:=fun i h h' st k=>st.at fun o e=>k it yv o e
 item:=by
  intro X hP hw hK hc i ze s σ H E I hf st hg;subst hP hw hK;obtain⟨xs,x,hq,hx⟩:=hg;obtain⟨q,rv,p,hz⟩:=I.list hq;obtain⟨u,hu,ru⟩:=rv.get hx;obtain⟨f0,f1,f2,f3,f4,f5⟩:=hf it yv;refine wpAny_pyNext_list_item st p.isList (x:=u) (by simpa using hu) fun h' st' sb=>?_;have I1:Inv X ze σ H { s with heap:=h' }:=I.turned (t':=s.toks) (fun b o hb e=>(sb.2 b hb).trans e) f0 f1 f3 f4 f5;obtain⟨o,e,c,d⟩:=id st';exact⟨u,rfl,oW (s:={ s with heap:=h' }) e c d dz ⟨x,H,I1,ru,⟨rfl,fun ys hy=>by rw[I.list_inj hy hq];exact hx⟩,st',fun b hb=>(hf b hb).1⟩⟩
 done:=by
  intro X hP hw hK hc i ze s σ H E I hf st hg;subst hP hw hK;obtain⟨xs,hq,hx⟩:=hg;obtain⟨q,rv,p,hz⟩:=I.list hq;obtain⟨f0,f1,f2,f3,f4,f5⟩:=hf it yv;have hl:=rv.length;exact wpAny_pyNext_list_end (I.ok.hd hc) st p.isList (by simp;omega) fun h' eb=>⟨rfl,I.turned (t':=s.toks) (fun b o hb e=>eb b o hb e) f0 f1 f3 f4 f5⟩
 self:=fun _ _ _ _ _ st h=>wpAny_pyIter_listiter st h
theorem CY{P:fe}{w:ft}{K:cu}{tg:Expr}(a it:Addr):Turn P w K tg (Itt K a) [it] it (fun i h=>h.IsTupleIter it a i) where
 mem:=by simp
 obj:=fun i h st b hb=>by
  have e:b=it:=by simpa using hb
  subst e;obtain⟨o,e,c,d⟩:=st;exact⟨o,e,fun v z=>by rw[d]at z;cases z⟩
 keep:=fun i h h' st k=>st.at fun o e=>k it yv o e
 item:=by
  intro X hP hw hK hc i ze s σ H E I hf st hg;subst hP hw hK;obtain⟨xs,x,hq,hx⟩:=hg;obtain⟨q,rv,p,hz⟩:=I.tuple hq;obtain⟨u,hu,ru⟩:=rv.get hx;obtain⟨f0,f1,f2,f3,f4,f5⟩:=hf it yv;refine wpAny_pyNext_tuple_item st (show s.heap.IsTuple a q.toArray from p) (x:=u) (by simpa using hu) fun h' st' sb=>?_;have I1:Inv X ze σ H { s with heap:=h' }:=I.turned (t':=s.toks) (fun b o hb e=>(sb.2 b hb).trans e) f0 f1 f3 f4 f5;obtain⟨o,e,c,d⟩:=id st';exact⟨u,rfl,oW (s:={ s with heap:=h' }) e c d dz ⟨x,H,I1,ru,⟨rfl,fun ys hy=>by rw[I.tuple_inj hy hq];exact hx⟩,st',fun b hb=>(hf b hb).1⟩⟩
 done:=by
  intro X hP hw hK hc i ze s σ H E I hf st hg;subst hP hw hK;obtain⟨xs,hq,hx⟩:=hg;obtain⟨q,rv,p,hz⟩:=I.tuple hq;obtain⟨f0,f1,f2,f3,f4,f5⟩:=hf it yv;have hl:=rv.length;exact wpAny_pyNext_tuple_end (I.ok.hd hc) st (show s.heap.IsTuple a q.toArray from p) (by simp;omega) fun h' eb=>⟨rfl,I.turned (t':=s.toks) (fun b o hb e=>eb b o hb e) f0 f1 f3 f4 f5⟩
 self:=fun _ _ _ _ _ st h=>wpAny_pyIter_tupleiter st h
theorem C1{P:fe}{w:ft}{K:cu}{tg:Expr}(it:Addr)(lo:Int)(n:Nat):Turn P w K tg (Itr lo n) [it] it (fun i h=>IsRangeIter h it (lo+(i:Nat)*1) ((n:Int)-(i:Nat)) 1) where
 mem:=by simp
 obj:=fun i h st b hb=>by
  have e:b=it:=by simpa using hb
  subst e;exact⟨_,st,fun v z=>by
   have z':Data.fields _=Data.cell v:=z;cases z'⟩
 keep:=fun i h h' st k=>k it yv _ st
 item:=by
  intro X hP hw hK hc i ze s σ H E I hf st hg;subst hP hw hK;obtain⟨f0,f1,f2,f3,f4,f5⟩:=hf it yv;have W:=Walks.range (prog:=X.prog) (w:=X.w) (I.ok.hd hc) it lo 1 n;refine W.item i s _ _ hg st fun v h' tk hv st' kk=>?_;obtain⟨t,rfl⟩:=hv;have I1:Inv X ze σ H { s with heap:=h',toks:=tk }:=I.turned (fun b o hb e=>kk b o (by simpa using hb) e) f0 f1 f3 f4 f5;refine⟨_,rfl,oW (s:={ s with heap:=h',toks:=tk }) (n:="range_iterator") st' rfl rfl dz ⟨.int (lo+i),H,I1,⟨t,?_⟩,⟨rfl,rfl⟩,st',fun b hb=>(hf b hb).1⟩⟩;rw[Int.mul_one]
 done:=by
  intro X hP hw hK hc i ze s σ H E I hf st hg;subst hP hw hK;obtain⟨f0,f1,f2,f3,f4,f5⟩:=hf it yv;exact wpAny_pyNext_range_end (I.ok.hd hc) st (by have:n<=i:=hg;omega) fun h' eb=>⟨rfl,I.turned (t':=s.toks) (fun b o hb e=>eb b o hb e) f0 f1 f3 f4 f5⟩
 self:=fun _ _ _ _ _ st h=>wpAny_pyIter_rangeiter st h
end
section
section
variable {X:Cx}{tg:Expr}
def qG(K:cu)(tl:TE):TI:=fun σ H R=>tl σ H fun x H1=>∃a,x=.ref a/\(∃xs,SqL K H1 a xs)/\R (Itl K a) H1
theorem F3{l:Expr}{tl:TE}(hl:PE X l tl):PI X tg l (qG X.K tl):=by
 intro ze s σ H R I h;refine thn (hl ze s σ H _ I h) fun v s1 ⟨x,H1,I1,r1,q1⟩=>?_;obtain⟨a,e,⟨xs,hq⟩,q⟩:=q1;subst e;cases r1;obtain⟨z,rv,p,hz⟩:=I1.list hq;refine nj p.isList ?_;refine⟨s1.heap.objs.size,[s1.heap.objs.size],_,_,H1,rfl,I1.kept (t':=s1.toks) fun b o e=>bz _ e,vW a _,⟨_,cz _ rfl,rfl,rfl⟩,fun b hb=>?_,q⟩;have e:b=s1.heap.objs.size:=by simpa using hb
 subst e;exact I1.fpOk (cv _) (I1.hok.fresh (cv _))
def oM(wi:TI)(g:TG)(tb:TS):TS:=fun D σ H=>wi σ H fun J H1=>∃W:Nat->Nat->St->Hp->Prop,(∃m,W 0 m σ H1)/\∀i m σ H,W i m σ H ->
 (J.stop i H/\D.nx σ H)\/(J.go i H/\∃N:St->Hp->Prop,(∀ σ' H',N σ' H'->∃m',m'<m/\W (i+1) m' σ' H')/\∀x H',J.yld i H x H'->g x σ H' fun σ2 H2=>tb { D with nx:=N,ct:=N,bk:=D.nx } σ2 H2)
def iX(fp:List Addr)(h:Heap):List (Addr×Obj):=fp.filterMap fun b=>(h.get? b).map fun o=>(b,o)
theorem nF{fp:List Addr}{h:Heap}{b:Addr}{o:Obj}(hb:b∈fp)(e:h.get? b=some o):(b,o)∈iX fp h:=List.mem_filterMap.mpr ⟨b,hb,by rw[e];rfl⟩
theorem Er{fp:List Addr}{h:Heap}{p:Addr×Obj}(hp:p∈iX fp h):p.1∈fp/\h.get? p.1=some p.2:=by
 obtain⟨b,hb,e⟩:=List.mem_filterMap.mp hp;cases q:h.get? b with
 |none=>rw[q]at e;cases e
 |some o=>
  rw[q]at e;have e':(b,o)=p:=fx e;subst e';exact⟨hb,q⟩
theorem Inv.pinned{ze:List (Addr×Obj)}{σ:St}{H:Hp}{s:bp}{fp:List Addr}(I:Inv X ze σ H s)(hf:∀b∈fp,FpOk X ze H b)(ho:∀b∈fp,∃o,s.heap.get? b=some o/\∀v,o.data≠.cell v):Inv X (ze++iX fp s.heap) σ H s:=
 I.pins_of fun p hp=>(mem_append.mp hp).elim (fun z=>I.pin p (fh _ z)) fun z=>by
  obtain⟨hb,e⟩:=Er z;obtain⟨f0,f1,f2,_⟩:=hf p.1 hb;obtain⟨o,e',d⟩:=ho p.1 hb;rw[e]at e';cases e';exact⟨e,f0,f1,f2,d⟩
theorem Inv.unpinned{ze pl:List (Addr×Obj)}{σ:St}{H:Hp}{s:bp}(I:Inv X (ze++pl) σ H s):Inv X ze σ H s:=I.pins_of fun p hp=>I.pin p (fh _ (gw _ hp))
theorem dJ{iter:Expr}{aa:List Stmt}{wi:TI}{g:TG}{tb:TS}{pos:Pos}(hp:PassesOwn (model X.prog X.w) X.A X.env X.xe)(hc:X.calm=true)(hi:PI X tg iter wi)(hg:PG X tg g)(hb:PSs X aa tb)
  (hs:∀x,foldedSetIterable iter X.env x=pure x:=by intro _;rfl):PS X (.For tg iter aa [] pos) (oM wi g tb):=by
 intro ze s σ H D I h;refine wpAny_For (thn (hi ze s σ H _ I h) fun v s1 h1=>thn h1 fun ai s2 h2=>?_) hs;obtain⟨it,fp,tn,J,H2,e,I2,T,ag,f2,W,⟨m0,w0⟩,ac⟩:=h2;subst e
 have z:∀{H':Hp},(∀b∈fp,H' b=none)->∀b∈fp,FpOk X ze H' b:=fun hn b hb=>⟨hn b hb,(f2 b hb).2⟩;refine codeAny_forLoop_any (fun n s'=>∃i σ' H',Inv X ze σ' H' s'/\tn i s'.heap/\(∀b∈fp,H' b=none)/\W i n σ' H') ?_ m0 ⟨0,σ,H2,I2,ag,fun b hb=>(f2 b hb).1,w0⟩;rintro n s3 ⟨i,σ3,H3,I3,af,ae,w3⟩;rcases ac i n σ3 H3 w3 with ⟨stop,qn⟩|⟨go,N,hN,step⟩
 ·refine kt hp (thn (T.done X rfl rfl rfl hc i ze s3 σ3 H3 X.xe I3 (z ae) af stop) fun r s4 ⟨hr,I4⟩=>?_);subst hr;exact wpAny_execs_nil ⟨σ3,H3,I4,qn⟩
 ·refine kt hp (thn (T.item X rfl rfl rfl hc i ze s3 σ3 H3 X.xe I3 (z ae) af go) fun r s4 ⟨u,hr,h4⟩=>?_);subst hr;refine kt hp (thn h4 fun _ s5 ⟨x,H5,I5,r5,y5,ab,ah⟩=>?_);have I5':=I5.pinned (z ah) (T.obj _ _ ab);refine kt hp (thn (hg _ s5 σ3 H5 x u _ I5' r5 (step x H5 y5)) fun _ s6 ⟨σ6,H6,I6,q6⟩=>?_);refine kt hp (thn (hb _ s6 σ6 H6 _ I6 q6) fun f s7 q7=>?_);have q:∀{σ7:St}{H7:Hp},Inv X (ze++iX fp s5.heap) σ7 H7 s7->N σ7 H7->∃m,m<n/\∃i σ' H',Inv X ze σ' H' s7/\tn i s7.heap/\(∀b∈fp,H' b=none)/\W i m σ' H':=fun {σ7 H7} I7 n7=>by
   obtain⟨m',hm,w7⟩:=hN σ7 H7 n7;refine⟨m',hm,i+1,σ7,H7,I7.unpinned,T.keep _ _ _ ab fun b hb o e=>(I7.pin (b,o) (fh _ (fh _ (nF hb e)))).1,fun b hb=>?_,w7⟩;obtain⟨o,e,d⟩:=T.obj _ _ ab b hb;exact(I7.pin (b,o) (fh _ (fh _ (nF hb e)))).2.1
  cases f with
  |next=>obtain⟨σ7,H7,I7,n7⟩:=q7;exact q I7 n7
  |cont=>obtain⟨σ7,H7,I7,n7⟩:=q7;exact q I7 n7
  |brk=>obtain⟨σ7,H7,I7,q7⟩:=q7;exact⟨σ7,H7,I7.unpinned,q7⟩
  |ret v=>obtain⟨x7,σ7,H7,I7,r7,q7⟩:=q7;exact⟨x7,σ7,H7,I7.unpinned,r7,q7⟩
end
theorem Al{K:cu}{a:Addr}{xs:List V}{g:TG}{tb:TS}{D:Ends}{σ:St}{H:Hp}(Pv:Nat->St->Hp->Prop)(h0:Pv 0 σ H)(hl:∀i σ H,i<=xs.length->Pv i σ H->SqL K H a xs)
  (hs:∀i x σ H,xs[i]?=some x->Pv i σ H->g x σ H fun σ2 H2=>tb { D with nx:=Pv (i+1),ct:=Pv (i+1),bk:=D.nx } σ2 H2) (hd:∀ σ H,Pv xs.length σ H->D.nx σ H):
  ∃W:Nat->Nat->St->Hp->Prop,(∃m,W 0 m σ H)/\∀i m σ H,W i m σ H ->
   ((Itl K a).stop i H/\D.nx σ H)\/((Itl K a).go i H/\∃N:St->Hp->Prop,(∀ σ' H',N σ' H'->∃m',m'<m/\W (i+1) m' σ' H')/\∀x H',(Itl K a).yld i H x H'->g x σ H' fun σ2 H2=>tb { D with nx:=N,ct:=N,bk:=D.nx } σ2 H2):=by
 refine⟨fun i m σ H=>m=xs.length-i/\i<=xs.length/\Pv i σ H,⟨xs.length,yv,jo _,h0⟩,?_⟩;rintro i m σ H ⟨rfl,hi,p⟩;have q:=hl i σ H hi p;by_cases hlt:i<xs.length
 ·refine .inr ⟨⟨xs,xs[i],q,by simp[hlt]⟩,Pv (i+1),fun σ' H' p'=>⟨xs.length-(i+1),yw,rfl,hlt,p'⟩,fun x H' y=>?_⟩;obtain⟨e,y⟩:=y;subst e;exact hs i x σ _ (y xs q) p
 ·have e:i=xs.length:=yw
  subst e;exact .inl ⟨⟨xs,q,cv _⟩,hd σ H p⟩
end
section
abbrev R2:=V->V->Hp->VK->Prop
def OpR(X:Cx)(f:bn->bn->Sem bn)(r:R2):Prop:=
 ∀(ze:List (Addr×Obj)) (s:bp) (σ:St) (H:Hp) (x y:V) (v u:bn) (Q:VK),Inv X ze σ H s->RelV x v->RelV y u->r x y H Q ->
  ck (model X.prog X.w) X.A (f v u) (EP X ze σ Q) X.xe s
def UnR(X:Cx)(f:bn->Sem bn)(r:V->Hp->VK->Prop):Prop:=
 ∀(ze:List (Addr×Obj)) (s:bp) (σ:St) (H:Hp) (x:V) (v:bn) (Q:VK),Inv X ze σ H s->RelV x v->r x H Q ->
  ck (model X.prog X.w) X.A (f v) (EP X ze σ Q) X.xe s
def CallR(X:Cx)(f:bn)(r:List V->Hp->VK->Prop):Prop:=
 ∀(ze:List (Addr×Obj)) (s:bp) (σ:St) (H:Hp) (xs:List V) (us:List bn) (Q:VK),Inv X ze σ H s->Vals xs us->r xs H Q ->
  ck (model X.prog X.w) X.A (call f us) (EP X ze σ Q) X.xe s
def TruR(X:Cx)(r:V->Hp->(Bool->Hp->Prop)->Prop):Prop:=
 ∀(ze:List (Addr×Obj)) (s:bp) (σ:St) (H:Hp) (x:V) (v:bn) (Q:Bool->Hp->Prop),Inv X ze σ H s->RelV x v->r x H Q ->
  ck (model X.prog X.w) X.A (truthy v) (TP X ze σ Q) X.xe s
def tOp(r:R2)(ta tb:TE):TE:=fun σ H Q=>ta σ H fun x H1=>tb σ H1 fun y H2=>r x y H2 Q
def tUn(r:V->Hp->VK->Prop)(ta:TE):TE:=fun σ H Q=>ta σ H fun x H1=>r x H1 Q
def rI(C:Int->Int->Prop)(g:Int->Int->V):R2:=fun x y H Q=>∃i j,x=.int i/\y=.int j/\C i j/\Q (g i j) H
def rI0(g:Int->Int->V):R2:=fun x y H Q=>∃i j,x=.int i/\y=.int j/\Q (g i j) H
def rU(g:Int->V):V->Hp->VK->Prop:=fun x H Q=>∃i,x=.int i/\Q (g i) H
section
variable {X:Cx}{a b c:Expr}{ta tb tc:TE}{pos:Pos}
theorem qQ(ha:PE X a ta)(hb:PE X b tb){ze:List (Addr×Obj)}{s:bp}{σ:St}{H:Hp}{R:V->V->Hp->Prop}(I:Inv X ze σ H s)
  (h:ta σ H fun x H1=>tb σ H1 fun y H2=>R x y H2) {Q:bn->bp->Prop}{f:bn->bn->Sem bn}
  (hf:∀v u s2 x y H2,Inv X ze σ H2 s2->RelV x v->RelV y u->R x y H2->ck (model X.prog X.w) X.A (f v u) Q X.xe s2):
  ck (model X.prog X.w) X.A (eval a X.env) (fun v s₁=>ck (model X.prog X.w) X.A (eval b X.env) (fun u s₂=>ck (model X.prog X.w) X.A (f v u) Q X.xe s₂) X.xe s₁) X.xe s:=by
 refine thn (ha ze s σ H _ I h) fun v s1 ⟨x,H1,I1,r1,q1⟩=>?_;refine thn (hb ze s1 σ H1 _ I1 q1) fun u s2 ⟨y,H2,I2,r2,q2⟩=>?_;exact hf v u s2 x y H2 I2 r1 r2 q2
theorem zy{op:Operator}{r:R2}(ho:OpR X (jq op) r)(ha:PE X a ta)(hb:PE X b tb):PE X (.BinOp a op b pos) (tOp r ta tb):=by
 intro ze s σ H Q I h;exact wpAny_BinOp (qQ ha hb I h fun v u s2 x y H2 I2 rx ry q=>ho ze s2 σ H2 x y v u Q I2 rx ry q)
theorem oK{op:UnaryOp}{r:V->Hp->VK->Prop}(ho:UnR X (unaryOp op) r)(ha:PE X a ta):PE X (.UnaryOp op a pos) (tUn r ta):=by
 intro ze s σ H Q I h;exact UnaryOp_ (thn (ha ze s σ H _ I h) fun v s1 ⟨x,H1,I1,r1,q1⟩=>ho ze s1 σ H1 x v Q I1 r1 q1)
theorem opI{f:bn->bn->Sem bn}{C:Int->Int->Prop}{g:Int->Int->Int}
  (rule:∀(i j:Int) (t u:Tok) (s:bp) (Q:bn->bp->Prop) (E:bn->bp->Prop),C i j->Q (.int (g i j) s.toks) { s with toks:=s.toks+1 }->ck (model X.prog X.w) X.A (f (.int i t) (.int j u)) Q E s):
  OpR X f (rI C fun i j=>.int (g i j)):=by
 intro ze s σ H x y v u Q I rx ry h;obtain⟨i,j,rfl,rfl,hc,q⟩:=h;obtain⟨t,rfl⟩:=rx;obtain⟨t',rfl⟩:=ry;exact rule i j t t' s _ _ hc ⟨.int (g i j),H,I.tok _,⟨_,rfl⟩,q⟩
theorem uB{f:bn->bn->Sem bn}{g:Int->Int->Int}
  (rule:∀(i j:Int) (t u:Tok) (s:bp) (Q:bn->bp->Prop) (E:bn->bp->Prop),Q (.int (g i j) s.toks) { s with toks:=s.toks+1 }->ck (model X.prog X.w) X.A (f (.int i t) (.int j u)) Q E s):
  OpR X f (rI0 fun i j=>.int (g i j)):=by
 intro ze s σ H x y v u Q I rx ry h;obtain⟨i,j,rfl,rfl,q⟩:=h;obtain⟨t,rfl⟩:=rx;obtain⟨t',rfl⟩:=ry;exact rule i j t t' s _ _ ⟨.int (g i j),H,I.tok _,⟨_,rfl⟩,q⟩
theorem oB{f:bn->bn->Sem bn}{g:Int->Int->Bool}
  (rule:∀(i j:Int) (t u:Tok) (s:bp) (Q:bn->bp->Prop) (E:bn->bp->Prop),Q (.bool (g i j)) s->ck (model X.prog X.w) X.A (f (.int i t) (.int j u)) Q E s):
  OpR X f (rI0 fun i j=>.bl (g i j)):=by
 intro ze s σ H x y v u Q I rx ry h;obtain⟨i,j,rfl,rfl,q⟩:=h;obtain⟨t,rfl⟩:=rx;obtain⟨t',rfl⟩:=ry;exact rule i j t t' s _ _ ⟨.bl (g i j),H,I,rfl,q⟩
def CDivN(i j:Int):Prop:=j≠0/\j.natAbs<1073741824
def CPow(i j:Int):Prop:=0<=j/\j<=1000000/\i.natAbs<2 ^ 64
theorem Bq:OpR X (jq .Add) (rI0 fun i j=>.int (i+j)):=uB fun _ _ _ _ _ _ _ q=>add_int q
theorem cC:OpR X (jq .Sub) (rI0 fun i j=>.int (i-j)):=uB fun _ _ _ _ _ _ _ q=>sub_int q
theorem F7:OpR X (jq .FloorDiv) (rI CDivN fun i j=>.int (i.fdiv j)):=opI fun _ _ _ _ _ _ _ hc q=>floordiv_int hc.1 q (.inl (PyProof.noPylong_small hc.2))
theorem fG:OpR X (jq .Mod) (rI (fun _ j=>0<j) fun i j=>.int (i % j)):=opI fun i j _ _ _ _ _ hc q=>by
 have h1:(0:Int)<j:=hc;exact mod_int' yw (by rw[Int.fmod_eq_emod_of_nonneg i yw];exact q)
theorem iP:OpR X (jq .Pow) (rI CPow fun i j=>.int (i ^ j.toNat)):=opI fun _ _ _ _ _ _ _ hc q=>pow_int_small hc.1 hc.2.1 hc.2.2 q
theorem unI{f:bn->Sem bn}{g:Int->Int}
  (rule:∀(i:Int) (t:Tok) (s:bp) (Q:bn->bp->Prop) (E:bn->bp->Prop),Q (.int (g i) s.toks) { s with toks:=s.toks+1 }->ck (model X.prog X.w) X.A (f (.int i t)) Q E s):
  UnR X f (rU fun i=>.int (g i)):=by
 intro ze s σ H x v Q I rx h;obtain⟨i,rfl,q⟩:=h;obtain⟨t,rfl⟩:=rx;exact rule i t s _ _ ⟨.int (g i),H,I.tok _,⟨_,rfl⟩,q⟩
theorem oF:UnR X (unaryOp .USub) (rU fun i=>.int (-i)):=unI fun _ _ _ _ _ q=>neg_int q
end
section
variable {X:Cx}{a b c:Expr}{ta tb tc:TE}{pos:Pos}
theorem EJ{ze:List (Addr×Obj)}{σ:St}{H:Hp}{s:bp}{Q:VK}{k k':Bool}(I:Inv X ze σ H s)(q:Q (.bl k) H)(e:k=k'):EP X ze σ Q (.bool k') s:=by
 subst e;exact⟨.bl k,H,I,rfl,q⟩
theorem jT:OpR X (jt .Lt) (rI0 fun i j=>.bl (decide (i<j))):=oB fun _ _ _ _ _ _ _ q=>lt_int q
theorem vN:OpR X (jt .LtE) (rI0 fun i j=>.bl (decide (i<=j))):=oB fun _ _ _ _ _ _ _ q=>le_int q
theorem Aw:OpR X (jt .Gt) (rI0 fun i j=>.bl (decide (j<i))):=oB fun _ _ _ _ _ _ _ q=>gt_int q
theorem CM:OpR X (jt .GtE) (rI0 fun i j=>.bl (decide (j<=i))):=oB fun _ _ _ _ _ _ _ q=>ge_int q
theorem Do:OpR X (jt .NotIn) (fun x y H Q=>∃i j,x=.str i/\y=.str j/\Q (.bl (!(!(Builtin.Str.occurrences j i 0 j.length 1).isEmpty))) H):=by
 intro ze s σ H x y v u Q I rx ry h;obtain⟨i,j,rfl,rfl,q⟩:=h;obtain⟨t,rfl⟩:=rx;obtain⟨t',rfl⟩:=ry;exact notIn_str (EJ I q rfl)
theorem OpR.or{f:bn->bn->Sem bn}{r r':R2}(h:OpR X f r)(h':OpR X f r'):OpR X f (fun x y H Q=>r x y H Q\/r' x y H Q):=by
 intro ze s σ H x y v u Q I rx ry q;rcases q with q|q
 ·exact h ze s σ H x y v u Q I rx ry q
 ·exact h' ze s σ H x y v u Q I rx ry q
theorem nomark(b:Expr){op:CmpOp}(h:op≠.In:=by decide)(h2:op≠.NotIn:=by decide):behindInMarks op b=false:=by
 have e1:(op==CmpOp.In)=false:=by cases op<;>first|rfl|exact absurd rfl h
 have e2:(op==CmpOp.NotIn)=false:=by cases op<;>first|rfl|exact absurd rfl h2
 cases b<;>simp[behindInMarks,e1,e2]
theorem Es{op:CmpOp}{r:R2}(ho:OpR X (jt op) r)(ha:PE X a ta)(hb:PE X b tb)(hm:behindInMarks op b=false):PE X (.Compare a [op] [b] pos) (tOp r ta tb):=by
 intro ze s σ H Q I h;exact wpAny_Compare1 (qQ ha hb I h fun v u s2 x y H2 I2 rx ry q=>ho ze s2 σ H2 x y v u Q I2 rx ry q) hm
def qU(t:TE):TT:=fun σ H Q=>t σ H fun x H'=>∃k,x=.bl k/\Q k H'
theorem zM{op:CmpOp}{r:R2}(ho:OpR X (jt op) r)(ha:PE X a ta)(hb:PE X b tb)(hm:behindInMarks op b=false):PT X (.Compare a [op] [b] pos) (qU (tOp r ta tb)):=by
 intro ze s σ H Q I h;refine wpAny_isTrue_Compare1 (thn (ha ze s σ H _ I h) fun v s1 ⟨x,H1,I1,r1,q1⟩=>thn (hb ze s1 σ H1 _ I1 q1) fun u s2 ⟨y,H2,I2,r2,q2⟩=>
  thn (ho ze s2 σ H2 x y v u _ I2 r1 r2 q2) fun c s3 ⟨z,H3,I3,r3,k,e,q3⟩=>?_) hm
 subst e;cases r3;exact ja ⟨H3,I3,q3⟩
def yM(r r':R2)(ta tb tc:TE):TE:=fun σ H Q=>ta σ H fun x H1=>tb σ H1 fun y H2=>r x y H2 fun z H3=>∃k,z=.bl k /\
 (if k=true then tc σ H3 fun w' H4=>r' y w' H4 Q else Q (.bl false) H3)
theorem DX{op q:CmpOp}{r r':R2}(ho:OpR X (jt op) r)(aa:OpR X (jt q) r')(ha:PE X a ta)(hb:PE X b tb)(hc:PE X c tc)
  (hm:lastMarks [op,q] [b,c]=false:=by with_unfolding_all rfl):PE X (.Compare a [op,q] [b,c] pos) (yM r r' ta tb tc):=by
 intro ze s σ H Q I h;refine Compare_chain (thn (ha ze s σ H _ I h) fun v s1 ⟨x,H1,I1,r1,q1⟩=>chain_link (thn (hb ze s1 σ H1 _ I1 q1) fun u s2 ⟨y,H2,I2,r2,q2⟩=>
  thn (ho ze s2 σ H2 x y v u _ I2 r1 r2 q2) fun d s3 ⟨z,H3,I3,r3,k,e,q3⟩=>?_)) hm
 subst e;cases r3;refine ja ?_;cases k with
 |false=>exact ite_ff ⟨.bl false,H3,I3,rfl,q3⟩
 |true=>exact ite_tt (chain_last (thn (hc ze s3 σ H3 _ I3 q3) fun w' s4 ⟨z',H4,I4,r4,q4⟩=>aa ze s4 σ H4 y z' u w' Q I4 r2 r4 q4))
def TruV(K:cu)(x:V)(H:Hp)(k:Bool):Prop:=
 match x with
 | .non=>k=false
 | .bl b=>k=b
 | .int i=>k=(i != 0)
 | .str y=>y.length<=dw/\k=((y.length:Int) != 0)
 | .byt y=>y.size<=dw/\k=((y.size:Int) != 0)
 | .ref p=>(∃xs,SqL K H p xs/\k=!xs.isEmpty)\/(∃xs,SqT K H p xs/\k=!xs.isEmpty)\/∃kvs,H p=some (.dK kvs)/\k=!kvs.isEmpty
 |_=>False
theorem CG{κ:Type}{q:List (κ×V)}{vs:List (κ×bn)}(r:KV q vs):(!vs.isEmpty)=!q.isEmpty:=by
 cases r<;>rfl
theorem vX{xs:List V}{q:List bn}(r:Vals xs q):(!q.toArray.isEmpty)=!xs.isEmpty:=by
 cases r<;>simp
theorem line63:(dw:Nat)<2 ^ 63:=by rw[jg];decide
theorem EL:TruR X (fun x H Q=>∃k,TruV X.K x H k/\Q k H):=by
 intro ze s σ H x v Q I rx h;obtain⟨k,e,q⟩:=h;have hl:=line63;have hs:dw=16777216:=jg;cases x with
 |non=>
  cases rx;have e':k=false:=e;subst e';exact truthy_none ⟨H,I,q⟩
 |bl b=>
  cases rx;have e':k=b:=e;subst e';exact ja ⟨H,I,q⟩
 |int i=>
  obtain⟨t,rfl⟩:=rx;have e':k=(i != 0):=e;subst e';exact PySem.P.truthy_int ⟨H,I,q⟩
 |str y=>
  obtain⟨t,rfl⟩:=rx;obtain⟨hy,e'⟩:y.length<=dw/\k=((y.length:Int) != 0):=e;subst e';exact PySem.P.truthy_str yw ⟨H,I.tok _,q⟩
 |byt y=>
  obtain⟨t,rfl⟩:=rx;obtain⟨hy,e'⟩:y.size<=dw/\k=((y.size:Int) != 0):=e;subst e';exact W.truthy_bytes yw ⟨H,I.tok _,q⟩
 |ref p=>
  cases rx;have e':(∃xs,SqL X.K H p xs/\k=!xs.isEmpty)\/(∃xs,SqT X.K H p xs/\k=!xs.isEmpty)\/∃kvs,H p=some (.dK kvs)/\k=!kvs.isEmpty:=e;rcases e' with ⟨xs,hx,e'⟩|⟨xs,hx,e'⟩|⟨kvs,hx,e'⟩
  ·subst e';obtain⟨aa,r,pl,hz⟩:=I.list hx;have z:=r.length;exact wpAny_truthy_list pl.isList (by simp only[cy];omega) ⟨H,I.tok _,by rw[vX r];exact q⟩
  ·subst e';obtain⟨aa,r,pl,hz⟩:=I.tuple hx;have z:=r.length;exact truthy_tuple pl (by simp only[cy];omega) ⟨H,I.tok _,by rw[vX r];exact q⟩
  ·subst e';obtain⟨hz,hS,vs,r,m⟩:kvs.length<=dw/\(p==sysModules)=false/\∃vs,KV kvs vs/\s.heap.DictOf (qC X.prog X.w) p vs:=I.hok p _ hx;have z:kvs.length=vs.length:=Paired.length r;exact wpAny_truthy_dict hS m yw ⟨H,I.tok _,by rw[CG r];exact q⟩
 |_=>exact(show False from e).elim
theorem gL(ha:PE X a ta)(he:∀whole,isTrue a X.env whole=(do let v <- whole;standAt a.pos;holding [v] (truthy v))):
  PT X a (fun σ H Q=>ta σ H fun x H'=>∃k,TruV X.K x H' k/\Q k H'):=by
 intro ze s σ H Q I h;exact isTrue_plain (thn (ha ze s σ H _ I h) fun v s1 ⟨x,H1,I1,r1,q1⟩=>EL ze s1 σ H1 x v Q I1 r1 q1) (he _)
theorem D6:OpR X (jq .Add) (fun x y H Q=>∃i j,x=.str i/\y=.str j/\i.length+j.length<=dw/\Q (.str (i++j)) H):=by
 intro ze s σ H x y v u Q I rx ry h;obtain⟨i,j,rfl,rfl,hz,q⟩:=h;obtain⟨t,rfl⟩:=rx;obtain⟨t',rfl⟩:=ry;exact add_str (fun t' tk=>⟨.str (i++j),H,I.tok _,⟨_,rfl⟩,q⟩) hz
theorem vals1{x:V}{us:List bn}(r:Vals [x] us):∃u,us=[u]/\RelV x u:=by
 cases r with
 |cons r1 r2=>cases r2;exact⟨_,rfl,r1⟩
theorem vals2{x y:V}{us:List bn}(r:Vals [x,y] us):∃u w',us=[u,w']/\RelV x u/\RelV y w':=by
 cases r with
 |cons r1 r2=>
  cases r2 with
  |cons r3 r4=>cases r4;exact⟨_,_,rfl,r1,r3⟩
theorem yI(hc:X.calm=true):CallR X (.builtin "max") (fun xs H Q=>∃i j,xs=[.int i,.int j]/\Q (.int (if j>i then j else i)) H):=by
 intro ze s σ H xs us Q I r h;obtain⟨i,j,rfl,q⟩:=h;obtain⟨u,w',rfl,⟨t,rfl⟩,⟨t',rfl⟩⟩:=vals2 r;refine max_two_ints (I.ok.hd hc) fun h' tk k=>⟨_,H,I.kept k,?_,q⟩;by_cases hj:j>i
 ·rw[cf hj,cf hj];exact⟨_,rfl⟩
 ·rw[cb hj,cb hj];exact⟨_,rfl⟩
theorem v7:CallR X (.type "int") (fun xs H Q=>(∃i,xs=[.int i]/\Q (.int i) H)\/∃k,xs=[.bl k]/\Q (.int (if k then 1 else 0)) H):=by
 intro ze s σ H xs us Q I r h;rcases h with ⟨i,rfl,q⟩|⟨k,rfl,q⟩
 ·obtain⟨u,rfl,t,rfl⟩:=vals1 r;exact call_int_int ⟨.int i,H,I,⟨_,rfl⟩,q⟩
 ·obtain⟨u,rfl,r1⟩:=vals1 r;cases r1;exact call_int_bool ⟨.int (if k then 1 else 0),H,I.tok _,⟨_,rfl⟩,q⟩
end
end
section
structure ObjM(h:Heap)(x dx C:Addr)(mA:Str->Option bn):Prop where
 obj:h.get? x=some (W.instObj C dx)
 ns:h.Ns1 dx mA
 ne:dx≠x
theorem CK{h:Heap}{dx:Addr}{mA:Str->Option bn}(n:h.Ns1 dx mA):∃od,h.get? dx=some od/\∀name,W.lookIn name od=some (mA name):=by
 obtain⟨o,es,ep,ho,hd,hk,_,hm⟩:=n;refine⟨o,ho,fun name=>?_⟩;have e:=hm name;unfold nsFind findBy at e;rw[<- Array.find?_toList]at e;unfold W.lookIn;rw[hd];dsimp only;split
 ·rename_i y q;rw[q]at e;exact congrArg some e
 ·rename_i q;rw[q]at e;have a:es.toList.any (·.refKey)=false:=by
   rw[List.any_eq_false];intro y hy;obtain⟨z,t,aa⟩:=hk y (Array.mem_toList_iff.mp hy);simp[DictEntry.refKey,aa]
  have a':¬ es.toList.any (·.refKey)=true:=by rw[a];exact ge
  rw[cb a'];exact congrArg some e
theorem ObjM.look{h:Heap}{x dx C:Addr}{mA:Str->Option bn}(I:ObjM h x dx C mA):∃od,W.InstAt h x (W.instObj C dx) C (some od)/\∀name,W.lookIn name od=some (mA name):=
 let ⟨od,ho,hl⟩:=CK I.ns
 ⟨od,⟨I.obj,rfl,rfl,ho⟩,hl⟩
section
variable {P:fe}{w:ft}{H H':Hp}{h h':Heap}{a C dx:Addr}{fs fs':List (Str×V)}
theorem C6(hok:HOk P w H h)(e:H a=some (.ins C dx fs)):∃mA,ObjM h a dx C mA/\(∀f,RelO (fs.lookup f) (mA f))/\PySem.Within mA (fs.map (·.1))/\fs.length<=1000/\H dx=some (.own a):=by
 obtain⟨d,z,ne,ob,mA,n,r,q⟩:=(show ObjOk P w H h a (.ins C dx fs)from hok a _ e);exact⟨mA,⟨ob,n,ne⟩,r,q,z,d⟩
end
structure Cls(K:cu)(C:Addr):Prop where
 pg:W.plainGet K C Str.empty=true
 hd:W.hasDictIn K C=true
 po:W.plainOver K C=true
 sa:W.findIn K (.ref C) "__setattr__" = some (some (.builtin "object.__setattr__"))
theorem Cls.get{K:cu}{C:Addr}(c:Cls K C)(f:Str):W.plainGet K C f=true:=c.pg
section
variable {X:Cx}{ze:List (Addr×Obj)}{σ:St}{H:Hp}{s:bp}{A:fq}{E:bn->bp->Prop}{Q:bn->bp->Prop}{c:bn}{b:Bool}
inductive TyOf (K:cu) (H:Hp):V->bn->Prop where
 |non:TyOf K H .non (.type "NoneType")
 |bl (x:Bool):TyOf K H (.bl x) (.type "bool")
 |int (i:Int):TyOf K H (.int i) (.type "int")
 |str (x:Str):TyOf K H (.str x) (.type "str")
 |flt (x:UInt64):TyOf K H (.flt x) (.type "float")
 |lst {a:Addr}{xs:List V} (e:H a=some (.lst xs)):TyOf K H (.ref a) (.type "list")
 |frz {a:Addr}{o:Obj}{xs:List V} (e:H a=some (.frz o (.lst xs))):TyOf K H (.ref a) (.type "list")
 |tup {a:Addr}{xs:List V} (e:H a=some (.tup xs)):TyOf K H (.ref a) (.type "tuple")
 |dK {a:Addr}{kvs:List (Key×V)} (e:Rd H a (.dK kvs)):TyOf K H (.ref a) (.type "dict")
 |dT {a:Addr}{kvs:List (List Key×V)} (e:Rd H a (.dT kvs)):TyOf K H (.ref a) (.type "dict")
 |ins {a C dx:Addr}{fs:List (Str×V)} (e:H a=some (.ins C dx fs)) (cl:Cls K C) (ha:W.findIn K (.ref C) "__class__" = some (some (.builtin "object.__class__")))
   (hn:W.specialIn K (.builtin "object.__class__") "__get__" = some (some (.builtin "getset_descriptor.__get__"))) (htk:W.takesIn K (.builtin "object.__class__")=some true)
   (hm:W.mroIn K C (.type "object")=some true):TyOf K H (.ref a) (.ref C)
theorem DP{x:V}{u t:bn}(I:Inv X ze σ H s)(rx:RelV x u)(ty:TyOf X.K H x t)(e:W.kitOne X.K t c=some b)(h:∀tk,Q (.bool b) { s with toks:=tk }):
  ck (model X.prog X.w) A (call (.builtin "isinstance") [u,c]) Q E s:=by
 cases ty with
 |non=>cases (show u=Value.none from rx);exact ni W.kitx_none I.kIn True.intro e (fun z=>nomatch z) h
 |bl y=>cases (show u=iu y from rx);exact ni W.kitx_bool I.kIn True.intro e (fun z=>nomatch z) h
 |int i=>obtain⟨t,q⟩:=(show ∃t,u=Value.int i t from rx);cases q;exact ni W.kitx_int I.kIn True.intro e (fun z=>nomatch z) h
 |str y=>obtain⟨t,q⟩:=(show ∃t,u=Value.str y t from rx);cases q;exact ni W.kitx_str I.kIn True.intro e (fun z=>nomatch z) h
 |flt y=>obtain⟨t,q⟩:=(show ∃t,u=Value.float y t from rx);cases q;exact ni W.kitx_float I.kIn True.intro e (fun z=>nomatch z) h
 | @lst a xs ea=>
  cases (show u=ig a from rx);obtain⟨_,_,n,_,h1⟩:=(show ObjOk X.prog X.w H s.heap a (.lst xs)from I.hok a _ ea);exact ni W.kitx_list I.kIn ⟨_,h1,rfl⟩ e (fun z=>nomatch z) h
 | @frz a ob xs ea=>
  cases (show u=ig a from rx);obtain⟨_,_,_,n,_,h1⟩:=(show ObjOk X.prog X.w H s.heap a (.frz ob (.lst xs))from I.hok a _ ea);exact ni W.kitx_list I.kIn ⟨_,h1,rfl⟩ e (fun z=>nomatch z) h
 | @tup a xs ea=>
  cases (show u=ig a from rx);obtain⟨_,_,_,p⟩:=(show ObjOk X.prog X.w H s.heap a (.tup xs)from I.hok a _ ea);obtain⟨o,h1,h2,_⟩:=p;exact ni W.kitx_tuple I.kIn ⟨o,h1,h2⟩ e (fun z=>nomatch z) h
 | @dK a kvs ea=>
  cases (show u=ig a from rx);obtain⟨_,_,vs,_,p⟩:=(show ObjOk X.prog X.w H s.heap a (.dK kvs)from ea.ok I.hok);obtain⟨o,es,ep,h1,h2,_⟩:=p;exact ni W.kitx_dict I.kIn ⟨o,h1,h2.1⟩ e (fun z=>nomatch z) h
 | @dT a kvs ea=>
  cases (show u=ig a from rx);obtain⟨_,_,xs,_,o,es,ep,h1,h2,_⟩:=(show ObjOk X.prog X.w H s.heap a (.dT kvs)from ea.ok I.hok);exact ni W.kitx_dict I.kIn ⟨o,h1,h2.1⟩ e (fun z=>nomatch z) h
 | @ins a C dx fs ea cl ha hn htk hm=>
  cases (show u=ig a from rx);obtain⟨mA,O,_⟩:=C6 I.hok ea;obtain⟨od,J,_⟩:=O.look;exact ni (W.kitx_own (cl.get _) cl.hd ha hn htk hm) I.kIn J e (fun z=>nomatch z) h
end
end
section
structure Room(k:Nat)(A:fq):Prop where
 hd:A.handled=none
 dp:A.depth+3*k+5<recursionLimit
 un:A.units+16*k+200<cLine
theorem Room.mono{j k:Nat}{A:fq}(r:Room k A)(h:j<=k):Room j A:=⟨r.hd,by have:=r.dp;omega,by have:=r.un;omega⟩
theorem Room.deeper{k:Nat}{A:fq}(r:Room (k+1) A)(env:Env):Room k (A.deeper env):=
 ⟨r.hd,by have:=r.dp;show A.depth+1+3*k+5<_;omega,by have:=r.un;show A.units+3+16*k+200<_;omega⟩
theorem Room.depth{k:Nat}{A:fq}(r:Room k A):A.depth<recursionLimit:=by have:=r.dp;omega
theorem Room.units{k:Nat}{A:fq}(r:Room k A):A.units+64<cLine:=by have:=r.un;omega
def gX:TA:=fun _ H Q=>Q [] H
def g7(ta:TE)(tr:TA):TA:=fun σ H Q=>ta σ H fun x H1=>tr σ H1 fun xs H2=>Q (x::xs) H2
section
variable {X:Cx}{e:Expr}{es:List Expr}{te:TE}{t:TA}{pos:Pos}
theorem zd:PA X [] gX:=fun _ _ _ _ H Q I h=>Calls.spliced_nil ⟨[],H,I,.nil,h⟩
theorem za(ha:PE X e te)(hr:PA X es t)(hs:fi (e::es) X.env=(false,eval e X.env)::fi es X.env:=by rfl):PA X (e::es) (g7 te t):=by
 intro pos ze s σ H Q I h;rw[hs];show ck _ _ (spliced ((false,eval e X.env)::on pos (fi es X.env))) _ _ s;refine Calls.spliced_cons (thn (ha ze s σ H _ I h) fun u s1 ⟨x,H1,I1,r1,q1⟩=>?_);exact thn (hr pos ze s1 σ H1 _ I1 q1) fun us s2 ⟨xs,H2,I2,r2,q2⟩=>⟨x::xs,H2,I2,.cons r1 r2,q2⟩
def pQ(t:TA):TE:=fun σ H Q=>t σ H fun xs H1=>xs.length<=dw/\∀p,H1 p=none->Q (.ref p) (upd H1 p (.tup xs))
def g4(t:TA):TE:=fun σ H Q=>t σ H fun xs H1=>xs.length<=dw/\∀p,H1 p=none->Q (.ref p) (upd H1 p (.lst xs))
theorem bK{x1}(h:PA X es t):PE X (.Tuple es x1 pos) (pQ t):=by
 intro ze s σ H Q I hq;refine wpAny_Tuple_spliced (thn (h pos ze s σ H _ I hq) fun us s1 ⟨xs,H1,I1,r,z,q⟩=>⟨by rw[<- r.length];exact z,?_⟩);have hf:H1 s1.heap.objs.size=none:=I1.hok.fresh (cv _);refine⟨.ref s1.heap.objs.size,upd H1 s1.heap.objs.size (.tup xs),I1.laid (t':=s1.toks) (fun b u e=>bz _ e) (cv _) ?_,rfl,q _ hf⟩;exact⟨⟨z,_,cz _ rfl,rfl⟩,us,r,⟨_,cz _ rfl,rfl,_,rfl⟩⟩
theorem zY(h:PA X es t):PE X (.List es pos) (g4 t):=by
 intro ze s σ H Q I hq;refine wpAny_List_spliced (thn (h pos ze s σ H _ I hq) fun us s1 ⟨xs,H1,I1,r,z,q⟩=>⟨by rw[<- r.length];exact z,?_⟩);have hf:H1 s1.heap.objs.size=none:=I1.hok.fresh (cv _);refine⟨.ref s1.heap.objs.size,upd H1 s1.heap.objs.size (.lst xs),I1.laid (t':=s1.toks) (fun b u e=>bz _ e) (cv _) ?_,rfl,q _ hf⟩;exact⟨z,us,0,r,cz _ rfl⟩
end
abbrev Sp:=List V->Hp->VK->XK->Prop
abbrev CXT:=List Env->Hp->bp->XK->bn->bp->Prop
structure Env0(P:fe)(w:ft)(K:cu)(mg:Str->Option bn)(base:Heap)(A:fq)(outer:List Env)(s:bp)(H:Hp):Prop where
 frames:A.frames=some outer
 mod:Mod K mg base
 bs:∀b o,base.get? b=some o->s.heap.get? b=some o/\H b=none
 bsz:base.objs.size<=s.heap.objs.size
 funs:s.heap.FunFrames base outer
 frf:Frf (frs outer) H
 hok:HOk P w H s.heap
 bare:AllBare s.gens
def CE(outer:List Env)(P:fe)(w:ft)(H:Hp)(s:bp)(Q:VK)(u:bn)(s':bp):Prop:=
 ∃v H',s'.os=s.os/\AllBare s'.gens/\Un (frs outer) [] H H' s.heap s'.heap/\HOk P w H' s'.heap/\RelV v u/\Q v H'
def CR(CX:CXT)(outer:List Env)(P:fe)(w:ft)(H:Hp)(s:bp)(Q:VK)(E:XK)(r:Result)(s':bp):Prop:=
 match r with
 | .ok (.ret u)=>CE outer P w H s Q u s'
 | .ok _=>False
 | .error e=>CX outer H s E e s'
structure FnOk(P:fe)(w:ft)(K:cu)(mg:Str->Option bn)(base:Heap)(CX:CXT)(k:Nat)(f:Addr)(fd:mo)(ps:List Str)(sp:Sp):Prop where
 len:∀vs H Q E,sp vs H Q E->vs.length=ps.length
 run:∀(A:fq) (outer:List Env) (s:bp) (H:Hp) (args:Args) (us:List bn) (vs:List V) (Q:VK) (E:XK),Room k A->Env0 P w K mg base A outer s H->BindsTo s fd args (ps.zip us)->Vals vs us->sp vs H Q E ->
  ow (model P w) A (.call (.ref f) args) (CR CX outer P w H s Q E) s
section
variable {X:Cx}{ze:List (Addr×Obj)}{σ:St}{H:Hp}{s s':bp}
theorem Inv.env0(I:Inv X ze σ H s):Env0 X.prog X.w X.K X.mg X.base X.A X.stack s H:=
 ⟨I.ok.frames,I.ok.mod,I.bs,gq I.ok.bsz I.sz,I.stack,I.stkFree,I.hok,I.bare⟩
theorem Inv.after{Q:VK}{u:bn}(I:Inv X ze σ H s)(h:CE X.stack X.prog X.w H s Q u s'):EP X ze σ Q u s':=by
 obtain⟨v,H',os,bare,un,hok,r,q⟩:=h;obtain⟨hh,g,d,t,aa⟩:=s';obtain rfl:aa=s.os:=os;exact⟨v,H',I.call (h':=hh) (g':=g) (d':=d) (t':=t) (ch:=[]) un hok bare (fun b z=>absurd z yv),r,q⟩
end
def gW(sp:Sp)(dvs:List V)(E:XK)(t:TA):TE:=fun σ H Q=>t σ H fun vs H1=>sp (vs++dvs) H1 Q E
def Binds(K:cu)(fd:mo)(ps:List Str)(ds:List bn):Prop:=
 ∀(s:bp) (us:List bn),K.In s.heap->(us++ds).length=ps.length->BindsTo s fd ⟨us,[]⟩ (ps.zip (us++ds))
theorem Binds.all{K:cu}{fd:mo}{ps:List Str}(h:∀us:List bn,us.length=ps.length->bindArgs fd ⟨us,[]⟩=pure (ps.zip us)):Binds K fd ps []:=fun s us _ hl=>by
 rw[jb]at hl ⊢;exact .of_eq (h us hl)
def Passes(CX:CXT)(X:Cx)(E:XK):Prop:=∀(ze:List (Addr×Obj)) (σ:St) (H:Hp) (s:bp) (e:bn) (s':bp),Inv X ze σ H s->CX X.stack H s E e s'->X.xe e s'
section
variable {X:Cx}{CX:CXT}{k:Nat}{f C:Addr}{fd:mo}{ps:List Str}{sp:Sp}{dvs:List V}{ds:List bn}{E:XK}{x m:Str}{p pos apos:Pos}{e o:Expr}{es:List Expr}{ta:TE}{t:TA}
theorem CV{ze:List (Addr×Obj)}{σ:St}{H:Hp}{s:bp}{Q:VK}{us:List bn}{vs:List V}(F:FnOk X.prog X.w X.K X.mg X.base CX k f fd ps sp)(hr:Room k X.A)(hb:Binds X.K fd ps ds)(hd:Vals dvs ds)(hx:Passes CX X E)
  (I:Inv X ze σ H s) (r:Vals vs us) (h:sp (vs++dvs) H Q E):ck (model X.prog X.w) X.A (call (.ref f) us) (EP X ze σ Q) X.xe s:=by
 have r2:Vals (vs++dvs) (us++ds):=r.append hd;have hl:(us++ds).length=ps.length:=by rw[<- r2.length];exact F.len _ _ _ _ h
 refine wpAny_call (codeAny_mono (F.run X.A X.stack s H ⟨us,[]⟩ (us++ds) (vs++dvs) Q E hr I.env0 (hb s us I.kIn hl) r2 h) fun r s' hq=>?_);cases r with
 |error e=>exact hx ze σ H s e s' I hq
 |ok fl=>
  cases fl with
  |ret u=>exact I.after hq
  |next=>exact lu hq
  |brk=>exact lu hq
  |cont=>exact lu hq
theorem sZ(F:FnOk X.prog X.w X.K X.mg X.base CX k f fd ps sp)(hr:Room k X.A)(hg:Gl X x)(hm:X.mg x=some (.ref f))(hk:W.keepIn X.K (.ref f)=true)(hb:Binds X.K fd ps ds)(hd:Vals dvs ds)(hx:Passes CX X E)
  (ha:PA X (e::es) t) (hdb:(x==("__debug__":Str))=false:=by decide) (he:fi (e::es) X.env=(false,eval e X.env)::fi es X.env:=by rfl) (hpl:(on pos (fi es X.env)).any (·.1)=false:=by rfl):
  PE X (.Call (.Name x p) (e::es) [] pos) (gW sp dvs E t):=by
 intro ze s σ H Q I h;refine lx (FF I hg hm ?_ hdb);refine W.callWith_K (h₀:=X.base) I.ok.mod.kin hk (thn (ha pos ze s σ H _ I h) fun us s1 ⟨vs,H1,I1,r,q⟩=>⟨I1.kIn,?_⟩) he hpl;exact CV F hr hb hd hx I1 r q
end
structure FnScope(N P:List Str)(sc:Scope):Prop where
 kind:sc.kind=.function
 co:sc.isCoroutine=false
 gen:sc.isGenerator=false
 nd:N.Nodup
 pre:N.take P.length=P
 par:∀x∈P,sc.names.lookup x=some .local\/sc.names.lookup x=some .cell
 nofree:∀y∈sc.names,y.2≠.free
theorem wV{q:Str->Option kw}{x:Str}:∀{binds:List (Str×bn)}{m:Str->Option bn},(∀v,(x,v)∉binds)->bindL q binds m x=m x
 | [],_,_=>rfl
 | (n,v)::r,m,h=>by
  unfold bindL;rw[wV fun w hw=>h w (cr _ hw)];split
  ·have:x≠n:=by rintro rfl;exact h v dh
   simp[this]
  ·rfl
theorem vU{q:Str->Option kw}{x:Str}:∀{binds:List (Str×bn)}{m:Str->Option bn},(∀v,(x,v)∉binds)->bindC q binds m x=m x
 | [],_,_=>rfl
 | (n,v)::r,m,h=>by
  unfold bindC;rw[vU fun w hw=>h w (cr _ hw)];split
  ·rfl
  ·have:x≠n:=by rintro rfl;exact h v dh
   simp[this]
theorem yU{q:Str->Option kw}{x:Str}{v:bn}:∀{P:List Str}{vs:List bn}{i:Nat}{m:Str->Option bn},P.Nodup->P[i]?=some x->vs[i]?=some v->q x=some .local ->
  bindL q (P.zip vs) m x=some v
 | [],_,_,_,_,h,_,_=>by simp at h
 |_::_,[],_,_,_,_,h,_=>by simp at h
 |p::P,w::vs,0,m,nd,h1,h2,hk=>by
  simp at h1 h2;subst h1;subst h2;show bindL q ((p,w)::P.zip vs) m p=_;unfold bindL;rw[wV fun v hv=>(nodup_cons.mp nd).1 (of_mem_zip hv).1,cf hk];simp
 |p::P,w::vs,i+1,m,nd,h1,h2,hk=>by
  show bindL q ((p,w)::P.zip vs) m x=_;unfold bindL;exact yU (i:=i) (nodup_cons.mp nd).2 (by simpa using h1) (by simpa using h2) hk
theorem vY{q:Str->Option kw}{x:Str}{v:bn}:∀{P:List Str}{vs:List bn}{i:Nat}{m:Str->Option bn},P.Nodup->P[i]?=some x->vs[i]?=some v->q x≠some .local ->
  bindC q (P.zip vs) m x=some v
 | [],_,_,_,_,h,_,_=>by simp at h
 |_::_,[],_,_,_,_,h,_=>by simp at h
 |p::P,w::vs,0,m,nd,h1,h2,hk=>by
  simp at h1 h2;subst h1;subst h2;show bindC q ((p,w)::P.zip vs) m p=_;unfold bindC;rw[vU fun v hv=>(nodup_cons.mp nd).1 (of_mem_zip hv).1,cb hk];simp
 |p::P,w::vs,i+1,m,nd,h1,h2,hk=>by
  show bindC q ((p,w)::P.zip vs) m x=_;unfold bindC;exact vY (i:=i) (nodup_cons.mp nd).2 (by simpa using h1) (by simpa using h2) hk
def start(N:List Str)(vs:List V):St:=vs.map some++ci (N.length-vs.length) none
def dR(CX:CXT)(P:fe)(w:ft)(K:cu)(mg:Str->Option bn)(base:Heap)(N:List Str)(q:Str)(scope:Scope)(f:Addr)(cd:bn)(A:fq)(outer:List Env)(s:bp)(H:Hp)(E:XK):Cx where
 prog:=P
 w:=w
 K:=K
 mg:=mg
 base:=base
 A:=A.deeper (envOfC q scope s.heap.objs.size f cd)
 N:=N
 s₀:=s
 H₀:=H
 env:=envOfC q scope s.heap.objs.size f cd
 outer:=outer
 stack:=envOfC q scope s.heap.objs.size f cd::outer
 ex:=[]
 calm:=true
 fn:=fun _=>true
 pn:=[]
 xe:=fun e s'=>ck (model P w) (A.deeper (envOfC q scope s.heap.objs.size f cd)) (leaving (envOfC q scope s.heap.objs.size f cd) e) (fun _ s''=>CX outer H s E e s'') (fun e' s''=>CX outer H s E e' s'') s'
theorem vZ{sc:Scope}{n:Nat}{x:Str}(h:sc.names.lookup x=some .cell):∃c,(cellsFrom n sc.names []).lookup x=some c:=by
 have q:=W.cellsFrom_some sc.names n [] (.inl h);exact isSome_iff_exists.mp q
theorem BX{CX:CXT}{P:fe}{w:ft}{K:cu}{mg:Str->Option bn}{base:Heap}{N ps:List Str}{aa:Str}{scope:Scope}{f:Addr}{cd:bn}{A:fq}{outer:List Env}{s s1:bp}{H:Hp}{E:XK}{us:List bn}{vs:List V}
  (S:FnScope N ps scope) (hd:A.handled=none) (e0:Env0 P w K mg base A outer s H) (hl:vs.length=ps.length) (r:Vals vs us)
  (x:InCallC s s.heap.objs.size (bindL (envOfC aa scope s.heap.objs.size f cd).kindOf (ps.zip us) fun _=>none) (cellsFrom (s.heap.objs.size+1) scope.names []) (bindC (envOfC aa scope s.heap.objs.size f cd).kindOf (ps.zip us) fun _=>none) s1):
  Inv (dR CX P w K mg base N aa scope f cd A outer s H E) [] (start N vs) H s1:=by
 have ae:ps.length<=N.length:=by have:=congrArg List.length S.pre;rw[jh]at this;omega
 obtain⟨h1,tk,rfl,hk⟩:=x.done;have ab:∀b:Addr,b∉(dR CX P w K mg base N aa scope f cd A outer s H E).ex:=fun b z=>absurd (show b∈([]:List Addr)from z) yv;refine⟨⟨e0.mod,S.kind,rfl,rfl,cv _,fun y z c h1 h2=>?_,fun y hy=>?_,fun y c _ h=>?_,fun _=>hd,Around.frames_deeper e0.frames,.inr ⟨rfl,rfl⟩,fun b z=>absurd z (ab b),e0.bs,e0.bsz,fun b _ _=>ab b,fun b z=>absurd z (ab b),e0.funs,e0.frf⟩,
  rfl,e0.bare,Un.kept hk,⟨_,x.toInCall.ns,fun i y v h1 h2 h3=>?_⟩,fun y c h=>⟨_,x.cell y c h⟩,e0.hok.fresh (cv _),fun y c h=>?_,fun p hp=>absurd (show p∈([]:List (Addr×Obj))from hp) yv,e0.hok.kept hk,?_⟩
 ·exact name_of_addr x.apart (PySem.mem_of_lookup h1) (PySem.mem_of_lookup h2)
 ·have hy:scope.names.lookup y=some .cell\/scope.names.lookup y=some .free:=hy;rcases hy with hy|hy
  ·exact vZ hy
  ·exact absurd rfl (S.nofree _ (PySem.mem_of_lookup hy))
 ·exact jp (x.above y c (PySem.mem_of_lookup h))
 ·have hi:i<vs.length:=by
   unfold start at h2;by_cases hi:i<vs.length
   ·exact hi
   ·rw[kq (by simpa using hi)]at h2;rw[List.getElem?_replicate]at h2;split at h2<;>cases h2
  have ha:vs[i]?=some v:=by
   unfold start at h2;rw[cx (by simpa using hi),gh]at h2;cases e:vs[i]? with
   |none=>rw[e]at h2;cases h2
   |some a=>rw[e]at h2;cases h2;rfl
  obtain⟨u,hu,rv⟩:=r.get ha;have hp:ps[i]?=some y:=by
   rw[<- S.pre,List.getElem?_take_of_lt yw];exact h1
  have ac:ps.Nodup:=by rw[<- S.pre];exact S.nd.sublist (List.take_sublist _ _)
  refine⟨u,rv,?_⟩;rcases S.par y (bq hp)with k|k
  ·exact .inl ⟨k,yU ac hp hu k⟩
  ·obtain⟨c,e⟩:=vZ (n:=s.heap.objs.size+1) k;refine .inr ⟨.inl k,c,e,?_⟩;have q:=x.cell y c e;rw[vY ac hp hu (by show scope.names.lookup y≠_;rw[k];decide)]at q;exact q
 ·exact e0.hok.fresh (jp (x.above y c (PySem.mem_of_lookup h)))
 ·unfold start;show _=N.length;rw[cq,dj,List.length_replicate];omega
theorem FX{CX:CXT}{P:fe}{w:ft}{K:cu}{mg:Str->Option bn}{base:Heap}{k:Nat}{f:Addr}{name z:Str}{ab:Arguments}{ac:List Stmt}{scope:Scope}{dV kV af pm aa ct oc:bn}{an od:Option Addr}
  {osl:Array (Option bn)}{N ps:List Str}{sp:Sp} (lk:K.lookup f=some ⟨oc,od,.func (W.fnOf name z ab ac scope dV kV af pm an aa ct),osl⟩) (hcd:W.codeIn K aa z=true) (S:FnScope N ps scope)
  (len:∀vs H Q E,sp vs H Q E->vs.length=ps.length)
  (hbody:∀(A:fq) (outer:List Env) (s:bp) (H:Hp) (vs:List V) (Q:VK) (E:XK),Room k (A.deeper (envOfC z scope s.heap.objs.size f aa))->sp vs H Q E ->
   ∃t,PSs (dR CX P w K mg base N z scope f aa A outer s H E) ac t/\t { nx:=fun _ H'=>Q .non H',rt:=Q } (start N vs) H):
  FnOk P w K mg base CX (k+1) f (W.fnOf name z ab ac scope dV kV af pm an aa ct) ps sp:=by
 refine⟨len,fun A outer s H args us vs Q E hr e0 hb r ag=>?_⟩;have hl:=len _ _ _ _ ag;have KX:K.In s.heap:=e0.mod.kin.keeps fun b o e=>(e0.bs b o e).1;have ah:s.heap.NoLimit:=e0.mod.nolimit.keeps fun b o e=>(e0.bs b o e).1;have ae:∀y∈ps.zip us,scope.names.lookup y.1=some .local\/(scope.names.lookup y.1=some .cell/\((cellsFrom (s.heap.objs.size+1) scope.names []).lookup y.1).isSome=true):=fun⟨n,v⟩ hy=>by
  rcases S.par n (of_mem_zip hy).1 with q|q
  ·exact .inl q
  ·exact .inr ⟨q,W.cellsFrom_some _ _ _ (.inl q)⟩
 refine codeAny_call_function hr.depth (KX _ _ lk) rfl S.co S.gen rfl (W.codeRec_of KX hcd) (hb _ _ _ _ ?_);refine wpAny_newFunctionEnv_cells S.kind ae fun env he s1 x=>?_;subst he;refine⟨ah.keeps x.toInCall.keep,codeAny_func ?_⟩;obtain⟨t,ht,hq⟩:=hbody A outer s H vs Q E (hr.deeper _) ag;have I:Inv (dR CX P w K mg base N z scope f aa A outer s H E) [] (start N vs) H s1:=BX S hr.hd e0 hl r x;refine oo (ht [] s1 (start N vs) H _ I hq) (fun fl s' hs=>?_) fun e s' hs=>hs;have fin:∀{σ':St}{H':Hp}{v:V}{u:bn},Inv (dR CX P w K mg base N z scope f aa A outer s H E) [] σ' H' s'->RelV v u->Q v H'->CE outer P w H s Q u s':=
  fun {σ' H' v u} J rv q=>⟨v,H',J.os,J.bare,J.base,J.hok,rv,q⟩
 cases fl with
 |ret u=>
  obtain⟨v,σ',H',J,rv,q⟩:=hs;exact fin J rv q
 |next=>
  obtain⟨σ',H',J,q⟩:=hs;exact fin (v:=V.non) (u:=Value.none) J rfl q
 |brk=>
  obtain⟨_,_,_,q⟩:=hs;exact lu q
 |cont=>
  obtain⟨_,_,_,q⟩:=hs;exact lu q
end
section
section
variable {X:Cx}{x:Str}{p pos:Pos}{e:Expr}{es:List Expr}{t:TA}{id T:String}{r:List V->Hp->VK->Prop}
def tCB(r:List V->Hp->VK->Prop)(t:TA):TE:=fun σ H Q=>t σ H fun vs H1=>r vs H1 Q
theorem zF(hc:CallR X (.builtin id) r)(hg:Gl X x)(hm:X.mg x=none)(hv:gg x=some (.builtin id))(ha:PA X (e::es) t)(hn:x ≠ "__name__":=by decide)(q:(x==("__debug__":Str))=false:=by decide)
  (he:fi (e::es) X.env=(false,eval e X.env)::fi es X.env:=by rfl) (hpl:(on pos (fi es X.env)).any (·.1)=false:=by rfl):PE X (.Call (.Name x p) (e::es) [] pos) (tCB r t):=by
 intro ze s σ H Q I h;refine lx (hU I hg hm hv ?_ hn q);exact PyProof.Rows.callWith_builtin1 (thn (ha pos ze s σ H _ I h) fun us s1 ⟨vs,H1,I1,r1,q1⟩=>hc ze s1 σ H1 vs us Q I1 r1 q1) he hpl
theorem kL(hc:CallR X (.type T) r)(hg:Gl X x)(hm:X.mg x=none)(hv:gg x=some (.type T))(ha:PA X (e::es) t)(hn:x ≠ "__name__":=by decide)(q:(x==("__debug__":Str))=false:=by decide)
  (he:fi (e::es) X.env=(false,eval e X.env)::fi es X.env:=by rfl) (hpl:(on pos (fi es X.env)).any (·.1)=false:=by rfl):PE X (.Call (.Name x p) (e::es) [] pos) (tCB r t):=by
 intro ze s σ H Q I h;refine lx (hU I hg hm hv ?_ hn q);exact PyProof.Rows.callWith_type1 (thn (ha pos ze s σ H _ I h) fun us s1 ⟨vs,H1,I1,r1,q1⟩=>hc ze s1 σ H1 vs us Q I1 r1 q1) he hpl
end
end
end L2
namespace HT
open PySem PyProof.Rows
def lexLt:List Int->List Int->Bool
 | [],[]=>false
 | [],_::_=>true
 |_::_,[]=>false
 |x::xs,y::ys=>if x=y then lexLt xs ys else decide (x<y)
theorem lexLt_cons(x y:Int)(xs ys:List Int):lexLt (x::xs) (y::ys)=if x=y then lexLt xs ys else decide (x<y):=rfl
theorem FS:lexLt [] []=false:=rfl
theorem Aj(y:Int)(ys:List Int):lexLt [] (y::ys)=true:=rfl
theorem Av(x:Int)(xs:List Int):lexLt (x::xs) []=false:=rfl
theorem Az(A:fq)(s:bp)(a:Int)(t:Tok)(c:Int)(u:Tok):∃e,SeqAt.EqAt A s (.int a t) (.int c u) e/\(e=true↔a=c):=
 ⟨(a==c),SeqAt.EqAt.int_int a t c u,yv⟩
theorem Cd(A:fq)(s:bp)(a:Int)(t:Tok)(c:Int)(u:Tok)(prog:fe)(w:ft)(E:bn->bp->Prop)(Q:bn->bp->Prop)(h:Q (.bool (decide (a<c))) s):
  ck (model prog w) A (richCompare .Lt (.int a t) (.int c u)) Q E s:=
 (PyProof.Rows.lt_int h:ck (model prog w) A (jt .Lt (.int a t) (.int c u)) Q E s)
section
open PySem.SeqAt
open PySem.AutoSeq1 (wpAny_loadPart')
open PySem.MeetsSeq PySem.MeetsSeq2 PySem.MeetsSeq3
theorem Bl(l b:Addr)(aa z:Array bn)(n n2:Nat)(dd ae:Option Addr)(sl af:Array (Option bn))(ns ms:List Int)(hi:nz aa.toList ns)(hj:nz z.toList ms):
  Meets (oh.«tuple.__lt__» ⟨[.ref l,.ref b],[]⟩)
   (fun _ R s=>s.heap.get? l=some { cls:=.type "tuple",dict:=dd,data:=.seq aa n,slots:=sl }/\s.heap.get? b=some { cls:=.type "tuple",dict:=ae,data:=.seq z n2,slots:=af } /\
    R (.ok (.ret (.bool (lexLt ns ms)))) s):=
 .of_wp fun prog w A R s h=>by
  obtain⟨hp,g,d,tk,os⟩:=s;obtain⟨hl,hb,h⟩:=h;have f2:=AutoSeq1.sub_tuple_tuple;have z1:aa.size=ns.length:=by rw[<- hi.length];simp
  have z2:z.size=ms.length:=by rw[<- hj.length];simp
  wp_walk using wpAny_loadPart' hl,wpAny_loadPart' hb,wpAny_forIn_list _ (fun rest b s'=>b.1=none/\s'=⟨hp,g,d,tk,os⟩/\∃(vs ws:List bn) (ns' ms':List Int),rest=vs.zip ws /\
   nz vs ns'/\nz ws ms'/\ns'.length+z.size=ms'.length+aa.size/\R (.ok (.ret (.bool (lexLt ns' ms')))) ⟨hp,g,d,tk,os⟩) _
  case turn=>
   rintro⟨y,x⟩ rest b s' ⟨hb',rfl,vs,ws,ns',ms',hz,hvi,hwi,hlen,hR⟩;cases hvi with
   |nil=>rw[List.zip_nil_left]at hz;cases hz
   |cons a t hvi'=>
    cases hwi with
    |nil=>rw[List.zip_nil_right]at hz;cases hz
    |cons c u hwi'=>
     rw[List.zip_cons_cons]at hz;injection hz with hyx hrest
     injection hyx with hy hx
     subst hy hx;rw[lexLt_cons]at hR;simp only[fj]at hlen;obtain⟨e,he,ab⟩:=Az A.in1 ⟨hp,g,d,tk,os⟩ a t c u;refine bj (he prog w _ _ ?_);cases e with
     |true=>
      rw[cf (ab.mp rfl)]at hR
      wp_walk
      exact⟨rfl,rfl,_,_,_,_,hrest,hvi',hwi',yw,hR⟩
     |false=>
      rw[cb (fun q=>absurd (ab.mpr q) ge)]at hR;have ac:=Cd A.in1 ⟨hp,g,d,tk,os⟩ a t c u prog w
      wp_walk using ac
      exact⟨_,rfl,by simpa using hR⟩
  case fin=>
   rintro⟨b1,b2⟩ s' ⟨hb',rfl,vs,ws,ns',ms',hz,hvi,hwi,hlen,hR⟩;simp only at hb';subst hb';have hv:lexLt ns' ms'=decide (aa.size<z.size):=by
    cases hvi with
    |nil=>
     cases hwi with
     |nil=>
      simp only[length_nil]at hlen;rw[FS];exact(gi yw).symm
     |cons c u hw=>
      simp only[length_nil,fj]at hlen;rw[Aj];exact(decide_eq_true yw).symm
    |cons a t hv=>
     cases hwi with
     |nil=>
      simp only[length_nil,fj]at hlen;rw[Av];exact(gi yw).symm
     |cons c u hw=>
      rw[List.zip_cons_cons]at hz;cases hz
   rw[hv]at hR
   wp_walk
   exact⟨_,rfl,by simpa[Builtin.Tuple.tupleCompareSizes]using hR⟩
  case h=>
   exact⟨rfl,rfl,aa.toList,z.toList,ns,ms,rfl,hi,hj,yw,h⟩
end
section
variable {prog:fe}{w:ft}{A:fq}{E:bn->bp->Prop}{s:bp}
theorem lt_tupInts{l b:Addr}{z q:Array bn}{ns ms:List Int}{Q:bn->bp->Prop}(hl:IsTup s.heap l z)(hb:IsTup s.heap b q)(hi:nz z.toList ns)(hj:nz q.toList ms)
  (hu:A.units<cLine) (h:Q (.bool (lexLt ns ms)) s):ck (model prog w) A (jt .Lt (.ref l) (.ref b)) Q E s:=by
 obtain⟨⟨cls,dd,data,sl⟩,ho,hc,n,hd⟩:=id hl;obtain⟨⟨ah,ae,ag,af⟩,aa,ac,n2,ab⟩:=id hb;simp only at hc hd ac ab;subst hc hd ac ab;exact richCompare_meets_room (op:=.Lt) ⟨_,ho,rfl⟩ ⟨_,aa,rfl⟩ PySem.F.slot_tuple_lt PySem.F.entry_tuple_lt (PySem.F.args_tuple_lt_2 _ _) (Bl l b z q n n2 dd ae sl af ns ms hi hj)
  ⟨ho,aa,show iu (lexLt ns ms)≠Value.notImplemented/\Q (.bool (lexLt ns ms)) s from⟨(fun x=>nomatch x),h⟩⟩ hu
theorem cat_tup{t b:Addr}{vs ws:List bn}{Q:bn->bp->Prop}(ht:IsTup s.heap t vs.toArray)(hb:IsTup s.heap b ws.toArray)(hv:vs≠[])
  (h1:ws=[]->Q (.ref t) s) (h2:ws≠[]->Q (.ref s.heap.objs.size) { s with heap:=s.heap.push { cls:=.type "tuple",data:=.seq (vs++ws).toArray } })
  (hsz:vs.length+ws.length<=dw):ck (model prog w) A (jq .Add (.ref t) (.ref b)) Q E s:=by
 obtain⟨⟨cls,dd,data,sl⟩,ho,hc,n,hd⟩:=id ht;obtain⟨⟨af,z,ae,aa⟩,q,ac,n2,ab⟩:=id hb;simp only at hc hd ac ab;subst hc hd ac ab;have e:vs.toArray++ws.toArray=(vs++ws).toArray:=by simp
 by_cases hw:ws=[]
 ·exact concat_meets ⟨_,ho,rfl⟩ ⟨_,q,rfl⟩ noFill_tuple_add seq_tuple_add PySem.F.slot_tuple_add PySem.F.entry_tuple_add (PySem.F.args_tuple_add_2 _ _)
   (tuple_addW1 t b vs.toArray ws.toArray n n2 dd z sl aa (by simpa using hv) (by simp[hw])) ⟨ho,q,h1 hw⟩
 ·refine concat_meets ⟨_,ho,rfl⟩ ⟨_,q,rfl⟩ noFill_tuple_add seq_tuple_add PySem.F.slot_tuple_add PySem.F.entry_tuple_add (PySem.F.args_tuple_add_2 _ _)
   (tuple_addW2 t b vs.toArray ws.toArray n n2 dd z sl aa (by simpa using hv) (by simpa using hw) (by rw[cy,cy];exact hsz)) ⟨ho,q,?_⟩
  rw[e];exact h2 hw
def sIx(n d:Nat):Option Int->Nat
 |none=>d
 |some v=>if v<0 then (v+(n:Int)).toNat else min v.toNat n
theorem sIx_nat(n d k:Nat):sIx n d (some (k:Int))=min k n:=by
 show (if (k:Int)<0 then ((k:Int)+(n:Int)).toNat else min (k:Int).toNat n)=min k n;rw[cb yw,gl]
theorem D9(n d:Nat)(hd:d<=n)(o:Option Int):sIx n d o<=n:=by
 cases o with
 |none=>exact hd
 |some v=>
  show (if v<0 then (v+(n:Int)).toNat else min v.toNat n)<=n;by_cases hv:v<0
  ·rw[cf hv];omega
  ·rw[cb hv];exact Nat.min_le_right _ _
theorem AF(v:Int)(n d:Nat):(if v<0 then max (v+(n:Int)) 0 else min v (n:Int))=((sIx n d (some v):Nat):Int):=by
 show (if v<0 then max (v+(n:Int)) 0 else min v (n:Int))=(((if v<0 then (v+(n:Int)).toNat else min v.toNat n):Nat):Int);by_cases hv:v<0
 ·simp only[cf hv];omega
 ·simp only[cb hv];omega
theorem FA(lo hi:Option Int)(n:Nat):Builtin.Slice.sliceAdjust lo hi 1 (n:Int)=(((sIx n 0 lo:Nat):Int),((sIx n n hi:Nat):Int)):=by
 have h1:¬((1:Int)<0):=yw
 unfold Builtin.Slice.sliceAdjust;simp only[h1,if_false];refine Prod.ext ?_ ?_
 ·cases lo with
  |none=>rfl
  |some v=>exact AF v n 0
 ·cases hi with
  |none=>rfl
  |some v=>exact AF v n n
theorem E6(i j:Nat):Builtin.Slice.slicePlaces (i:Int) (j:Int) 1=j-i:=by
 unfold Builtin.Slice.slicePlaces;have h1:(1:Int)>0:=yw
 simp only[h1,if_true,Int.ediv_one];split<;>omega
theorem wK{v:bn}{o:Option Int}{Q:Option Int->bp->Prop}(p:IsPart v o)(h:Q o s):ck (model prog w) A (Builtin.Slice.slicePartIndex v) Q E s:=by
 cases p with
 |none=>exact slicePart_none h
 |int i t=>exact slicePart_int h
theorem AO{sl:Addr}{vl vu:bn}{lo hi:Option Int}{n:Nat}{Q:Int×Int×Nat->bp->Prop}(hs:s.heap.IsSliceOf sl vl vu .none)(pl:IsPart vl lo)(pu:IsPart vu hi)
  (h:Q (((sIx n 0 lo:Nat):Int),1,sIx n n hi-sIx n 0 lo) s):ck (model prog w) A (Builtin.Slice.sliceApplied (.ref sl) (pure (n:Int))) Q E s:=by
 obtain⟨os,q,aa,z⟩:=id hs;unfold Builtin.Slice.sliceApplied Builtin.Slice.sliceFields;refine bj (bj (wpAny_field q z (x:=vl) rfl (bj (wpAny_field q z (x:=vu) rfl (bj (wpAny_field q z (x:=.none) rfl (br ?_)))))));refine bj (slicePart_none ?_);show ck _ _ (if ((1:Int)==0)=true then _ else _) _ _ s;rw[cb dz];refine bj (wK pl (bj (wK pu (bj (br ?_)))));show ck _ _ (match Builtin.Slice.sliceAdjust lo hi 1 (n:Int)with|(lo,hi)=>pure (lo,(1:Int),Builtin.Slice.slicePlaces lo hi 1)) _ _ s;rw[FA lo hi n];show ck _ _ (pure (((sIx n 0 lo:Nat):Int),(1:Int),Builtin.Slice.slicePlaces ((sIx n 0 lo:Nat):Int) ((sIx n n hi:Nat):Int) 1)) _ _ s;rw[E6];exact br h
theorem Bg(xs:Array bn)(i k:Nat):((fu k).filterMap fun(m:Nat)=>xs[((i:Int)+(m:Int)*1).toNat]?).toArray=((xs.toList.drop i).take k).toArray:=by
 have e:(fun(m:Nat)=>xs[((i:Int)+(m:Int)*1).toNat]?)=fun m=>xs[i+m]?:=by
  funext m;have:((i:Int)+(m:Int)*1).toNat=i+m:=yw
  rw[this]
 rw[e];have:=pick_run xs i k;rw[List.filterMap_map]at this;have e2:((fun x=>xs[x]?)∘fun x=>i+x)=fun m=>xs[i+m]?:=rfl;rw[e2]at this;rw[this]
theorem getItem_tuple_cut{t sl:Addr}{z:Array bn}{vl vu:bn}{lo hi:Option Int}{Q:bn->bp->Prop}(ht:IsTup s.heap t z)(hs:s.heap.IsSliceOf sl vl vu .none)(pl:IsPart vl lo)(pu:IsPart vu hi)
  (hw:¬(sIx z.size 0 lo=0/\sIx z.size z.size hi=z.size))
  (h:Q (.ref s.heap.objs.size) { s with heap:=s.heap.push { cls:=.type "tuple",data:=.seq ((z.toList.drop (sIx z.size 0 lo)).take (sIx z.size z.size hi-sIx z.size 0 lo)).toArray } })
  (hsz:z.size<=dw):ck (model prog w) A (getItem (.ref t) (.ref sl)) Q E s:=by
 have aa:sizeOk (.seq ((z.toList.drop (sIx z.size 0 lo)).take (sIx z.size z.size hi-sIx z.size 0 lo)).toArray):=by
  show ((z.toList.drop (sIx z.size 0 lo)).take (sIx z.size z.size hi-sIx z.size 0 lo)).toArray.size<=dw;rw[cy,jh,length_drop,fc];omega
 have hj:sIx z.size z.size hi<=z.size:=D9 _ _ (cv _) hi;obtain⟨os,ac,ae,ag⟩:=id hs;have ab:s.TypeIs (.ref sl) "slice":=⟨os,ac,ae⟩;unfold getItem
 try with_reducible refine gx ?_
 first|refine bj (br ?_)|skip
 refine bj (wpAny_sequenceKey ht.typeIs dz ?_);refine bj (ix (name:=ox "__getitem__") ht.typeIs PyProof.Rows.slot_tuple_getitem
  (jj PyProof.Rows.slot_tuple_getitem ht.typeIs entry_tuple_getitem ?_ (args_tuple_getitem _ _)))
 show ck _ _ (Builtin.Tuple.tupleItemsOf (.ref t) >>= _) _ _ s;refine bj (tupleItemsOf_ ht ?_);refine bj (wpAny_typeOf ab ?_);rw[cf dz];refine bj (AO hs pl pu ?_);have af:¬((((sIx z.size 0 lo:Nat):Int)==0&&(1:Int)==1&&(sIx z.size z.size hi-sIx z.size 0 lo)==z.size)=true):=by
  intro q;rw[iy,iy]at q;have q1:((sIx z.size 0 lo:Nat):Int)=0:=eq_of_beq q.1.1;have q2:sIx z.size z.size hi-sIx z.size 0 lo=z.size:=eq_of_beq q.2;exact hw ⟨yw,yw⟩
 show ck _ _ (if (((sIx z.size 0 lo:Nat):Int)==0&&(1:Int)==1&&(sIx z.size z.size hi-sIx z.size 0 lo)==z.size)=true then _ else _) _ _ s;rw[cb af,Bg]
 first
  |exact bj (m:=Builtin.Tuple.tupleExact _) (ga (br ⟨_,rfl,br h⟩) aa)
  |exact bj (m:=Builtin.Tuple.tupleExact _) (ga (bj (br (br ⟨_,rfl,br h⟩))) aa)
  |exact bj (bj (m:=Builtin.Tuple.tupleExact _) (ga (br (br ⟨_,rfl,br h⟩)) aa))
  |exact bj (bj (m:=Builtin.Tuple.tupleExact _) (ga (br ⟨_,rfl,br h⟩) aa))
end
end HT
namespace L2
open PySem PySem.Spec PyProof.Rows
section
abbrev TO:=St->Hp->(Option Int->Hp->Prop)->Prop
def PO(X:Cx)(e:Option Expr)(t:TO):Prop:=
 ∀(ze:List (Addr×Obj)) (s:bp) (σ:St) (H:Hp) (Q:Option Int->Hp->Prop),Inv X ze σ H s->t σ H Q ->
  ck (model X.prog X.w) X.A (evalPart e X.env) (fun u s'=>∃o H',Inv X ze σ H' s'/\IsPart u o/\Q o H') X.xe s
def AC:TO:=fun _ H Q=>Q none H
def g0(t:TE):TO:=fun σ H Q=>t σ H fun x H1=>∃i,x=.int i/\Q (some i) H1
theorem f6{ns:List Int}:∀{us:List bn},Vals (ns.map V.int) us->nz us ns:=by
 induction ns with
 |nil=>intro us r;rw[map_nil]at r;cases r;exact .nil
 |cons n ns ih=>
  intro us r;rw[lh]at r;cases r with
  |cons r1 r2=>
   obtain⟨t,e⟩:=r1;subst e;exact .cons n t (ih r2)
section
variable {X:Cx}{e:Expr}{te:TE}{lo hi:Option Expr}{tl th:TO}{pos p2:Pos}
theorem nM:PO X none AC:=by
 intro ze s σ H Q I h;rw[evalPart_none];exact br ⟨none,H,I,.none,h⟩
theorem gU(h:PE X e te):PO X (some e) (g0 te):=by
 intro ze s σ H Q I hw;rw[evalPart_some];refine thn (h ze s σ H _ I hw) fun u s1 ⟨x,H1,I1,r1,q1⟩=>?_;obtain⟨i,rfl,q⟩:=q1;obtain⟨t,rfl⟩:=r1;exact⟨some i,H1,I1,.int i t,q⟩
def SlR(X:Cx)(r:V->Option Int->Option Int->Hp->VK->Prop):Prop:=
 ∀(ze:List (Addr×Obj)) (s:bp) (σ:St) (H:Hp) (x:V) (v vl vu:bn) (lo hi:Option Int) (sl:Addr) (Q:VK),Inv X ze σ H s->RelV x v->s.heap.IsSliceOf sl vl vu .none->IsPart vl lo->IsPart vu hi->r x lo hi H Q ->
  ∃T id,typeLookup (.type T) "__getitem__" = pure (some (.builtin id))/\s.TypeIs v T/\ck (model X.prog X.w) X.A (getItem v (.ref sl)) (EP X ze σ Q) X.xe s
theorem SlR.or{r r':V->Option Int->Option Int->Hp->VK->Prop}(h:SlR X r)(h':SlR X r'):SlR X (fun x lo hi H Q=>r x lo hi H Q\/r' x lo hi H Q):=by
 intro ze s σ H x v vl vu lo hi sl Q I rx hs pl pu q;rcases q with q|q
 ·exact h ze s σ H x v vl vu lo hi sl Q I rx hs pl pu q
 ·exact h' ze s σ H x v vl vu lo hi sl Q I rx hs pl pu q
def tSl(r:V->Option Int->Option Int->Hp->VK->Prop)(te:TE)(tl th:TO):TE:=fun σ H Q=>te σ H fun x H1=>tl σ H1 fun l H2=>th σ H2 fun u H3=>r x l u H3 Q
theorem jW{r:V->Option Int->Option Int->Hp->VK->Prop}(hr:SlR X r)(he:PE X e te)(hl:PO X lo tl)(hu:PO X hi th):PE X (.Subscript e (.Slice lo hi none p2) pos) (tSl r te tl th):=by
 intro ze s σ H Q I h;refine Subscript_ (thn (he ze s σ H _ I h) fun v s1 ⟨x,H1,I1,r1,q1⟩=>?_);refine wpAny_Slice (thn (hl ze s1 σ H1 _ I1 q1) fun vl s2 ⟨l,H2,I2,pl,q2⟩=>thn (hu ze s2 σ H2 _ I2 q2) fun vu s3 ⟨u,H3,I3,pu,q3⟩=>?_);rw[evalPart_none];refine br ?_;have I4:Inv X ze σ H3 { s3 with heap:=s3.heap.push { cls:=.type "slice",data:=.fields #[vl,vu,.none] } }:=I3.kept (t':=s3.toks) fun b ob q=>bz _ q;obtain⟨T,id,hT,ht,hg⟩:=hr ze { s3 with heap:=s3.heap.push { cls:=.type "slice",data:=.fields #[vl,vu,.none] } } σ H3 x v vl vu l u s3.heap.objs.size Q I4 r1 (Heap.IsSliceOf.new ..) pl pu q3;show ck (model X.prog X.w) X.A (subscriptTail e (.Slice lo hi none p2) v (.ref s3.heap.objs.size)) (EP X ze σ Q) X.xe { s3 with heap:=s3.heap.push { cls:=.type "slice",data:=.fields #[vl,vu,.none] } };exact tail_any (ops:=[.ref s3.heap.objs.size,v]) ht hT hg (by with_unfolding_all rfl)
def bY(xs:List V)(lo hi:Option Int):List V:=(xs.drop (HT.sIx xs.length 0 lo)).take (HT.sIx xs.length xs.length hi-HT.sIx xs.length 0 lo)
theorem qK(xs:List V)(lo hi:Option Int):(bY xs lo hi).length<=xs.length:=by
 unfold bY;rw[jh,length_drop];omega
def qO(K:cu):V->Option Int->Option Int->Hp->VK->Prop:=fun x lo hi H Q=>∃a xs,x=.ref a/\SqT K H a xs /\
 ¬(HT.sIx xs.length 0 lo=0/\HT.sIx xs.length xs.length hi=xs.length)/\∀p,H p=none->Q (.ref p) (upd H p (.tup (bY xs lo hi)))
theorem xU:SlR X (qO X.K):=by
 intro ze s σ H x v vl vu lo hi sl Q I rx hs pl pu h;obtain⟨a,xs,rfl,hx,hw,q⟩:=h;cases rx;obtain⟨aa,r,ht,hz⟩:=I.tuple hx;have z:aa.toArray.size=xs.length:=by rw[cy];exact r.length.symm
 refine⟨"tuple",_,PyProof.Rows.slot_tuple_getitem.lookup,ht.typeIs,?_⟩;refine HT.getItem_tuple_cut ht hs pl pu (by rw[z];exact hw) ?_ (by rw[z];exact hz);rw[z];refine⟨.ref s.heap.objs.size,_,I.laid (t':=s.toks) (o:=.tup (bY xs lo hi)) (fun b ob q=>bz _ q) (cv _) ?_,rfl,q _ (I.hok.fresh (cv _))⟩;exact⟨⟨gq (qK xs lo hi) hz,_,cz _ rfl,rfl⟩,_,(r.drop (HT.sIx xs.length 0 lo)).take (HT.sIx xs.length xs.length hi-HT.sIx xs.length 0 lo),IsTup.new _ _⟩
def pX(K:cu):R2:=fun x y H Q=>∃a b xs ys,x=.ref a/\y=.ref b/\SqT K H a xs/\SqT K H b ys/\xs≠[]/\xs.length+ys.length<=dw /\
 (ys=[]->Q (.ref a) H)/\(ys≠[]->∀p,H p=none->Q (.ref p) (upd H p (.tup (xs++ys))))
theorem Vals.nil_iff{xs:List V}{us:List bn}(r:Vals xs us):us=[]↔xs=[]:=by
 cases r with
 |nil=>simp
 |cons _ _=>simp
theorem Ec:OpR X (jq .Add) (pX X.K):=by
 intro ze s σ H x y v u Q I rx ry h;obtain⟨a,b,xs,ys,rfl,rfl,ha,hb,hx,hz,q1,q2⟩:=h;cases rx;cases ry;obtain⟨ab,r1,p1,_⟩:=I.tuple ha;obtain⟨aa,r2,p2,_⟩:=I.tuple hb;refine HT.cat_tup p1 p2 (fun z=>hx (r1.nil_iff.mp z)) (fun z=>⟨.ref a,H,I,rfl,q1 (r2.nil_iff.mp z)⟩) (fun z=>?_) (by rw[<- r1.length,<- r2.length];exact hz);refine⟨.ref s.heap.objs.size,_,I.laid (t':=s.toks) (o:=.tup (xs++ys)) (fun b ob q=>bz _ q) (cv _) ?_,rfl,q2 (fun w=>z (r2.nil_iff.mpr w)) _ (I.hok.fresh (cv _))⟩;exact⟨⟨by rw[cq];exact hz,_,cz _ rfl,rfl⟩,_,r1.append r2,IsTup.new _ _⟩
end
end
section
def ixN(n:Nat)(i:Int):Option Nat:=if 0<=i then (if i<n then some i.toNat else none)else if -(n:Int)<=i then some (i+n).toNat else none
def atI{α:Type}(xs:List α)(i:Int):Option α:=(ixN xs.length i).bind fun j=>xs[j]?
theorem uR{n:Nat}{i:Int}{j:Nat}(h:ixN n i=some j):seqIndex? i n=some j/\j<n/\-(n:Int)<=i/\i<n:=by
 unfold ixN at h;by_cases h0:0<=i
 ·rw[cf h0]at h;by_cases h1:i<n
  ·rw[cf h1]at h;have e:i.toNat=j:=fx h;exact⟨by rw[seqIndex_of h0 h1,e],yw,yw,h1⟩
  ·rw[cb h1]at h;cases h
 ·rw[cb h0]at h;by_cases h1:-(n:Int)<=i
  ·rw[cf h1]at h;have e:(i+n).toNat=j:=fx h;exact⟨by rw[seqIndex_neg yw h1,e],yw,h1,yw⟩
  ·rw[cb h1]at h;cases h
theorem pN{α:Type}{xs:List α}{i:Int}{v:α}(h:atI xs i=some v):∃j,seqIndex? i xs.length=some j/\xs[j]?=some v/\j<xs.length/\-(xs.length:Int)<=i/\i<xs.length:=by
 unfold atI at h;cases e:ixN xs.length i with
 |none=>rw[e]at h;cases h
 |some j=>
  rw[e]at h;obtain⟨h1,h2,h3,h4⟩:=uR e;exact⟨j,h1,h,h2,h3,h4⟩
theorem dW{α:Type}{xs:List α}{j:Nat}{v:α}(h:xs[j]?=some v):atI xs (j:Int)=some v:=by
 have hj:j<xs.length:=(List.getElem?_eq_some_iff.mp h).1;have e:ixN xs.length (j:Int)=some j:=by
  unfold ixN;rw[cf yw,cf yw];simp
 unfold atI;rw[e];exact h
def PlainIx(b:Expr):Prop:=∀o i,subscripted b false o i=operate [o,i] (getItem o i)
def IxR(X:Cx)(r:R2):Prop:=
 ∀(value slice:Expr) (ze:List (Addr×Obj)) (s:bp) (σ:St) (H:Hp) (x y:V) (v u:bn) (Q:VK),Inv X ze σ H s->RelV x v->RelV y u->r x y H Q ->
  subscripted slice false v u=operate [v,u] (getItem v u)->ck (model X.prog X.w) X.A (subscriptTail value slice v u) (EP X ze σ Q) X.xe s
def MtR(X:Cx)(id:String)(r:V->List V->Hp->VK->Prop):Prop:=
 ∀(ze:List (Addr×Obj)) (s:bp) (σ:St) (H:Hp) (x:V) (xs:List V) (v:bn) (us:List bn) (Q:VK),Inv X ze σ H s->RelV x v->Vals xs us->r x xs H Q ->
  ck (model X.prog X.w) X.A (call (.builtin id) (v::us)) (EP X ze σ Q) X.xe s
section
variable {X:Cx}{a b:Expr}{ta tb:TE}{pos:Pos}
theorem IxR.or{r r':R2}(h:IxR X r)(h':IxR X r'):IxR X (fun x y H Q=>r x y H Q\/r' x y H Q):=by
 intro z aa ze s σ H x y v u Q I rx ry q hs;rcases q with q|q
 ·exact h z aa ze s σ H x y v u Q I rx ry q hs
 ·exact h' z aa ze s σ H x y v u Q I rx ry q hs
theorem zH{r:R2}(hr:IxR X r)(ha:PE X a ta)(hb:PE X b tb)(hs:PlainIx b):PE X (.Subscript a b pos) (tOp r ta tb):=by
 intro ze s σ H Q I h;exact Subscript_ (qQ ha hb I h fun v u s2 x y H2 I2 rx ry q=>hr a b ze s2 σ H2 x y v u Q I2 rx ry q (hs _ _))
def qF(K:cu):R2:=fun x y H Q=>∃p xs i v,x=.ref p/\y=.int i/\SqL K H p xs/\atI xs i=some v/\Q v H
def pF(K:cu):R2:=fun x y H Q=>∃p xs i v,x=.ref p/\y=.int i/\SqT K H p xs/\atI xs i=some v/\Q v H
def rB:R2:=fun x y H Q=>∃z i c,x=.str z/\y=.int i/\z.length<=dw/\atI z.cps.toList i=some c/\Q (.str ⟨#[c]⟩) H
theorem y9:IxR X (qF X.K):=by
 intro ac aa ze s σ H x y v u Q I rx ry h hs;obtain⟨p,xs,i,z,rfl,rfl,hq,he,q⟩:=h;cases rx;obtain⟨t,rfl⟩:=ry;obtain⟨ae,r,pl,hz⟩:=I.list hq;obtain⟨j,h1,h2,h3,h4,h5⟩:=pN he;obtain⟨w,ew,ab⟩:=r.get h2;have hl:=r.length;have hn:=line63;have fin:EP X ze σ Q w s:=⟨z,H,I,ab,q⟩;by_cases h0:0<=i
 ·have hj:i.toNat=j:=by
   rw[seqIndex_of h0 h5]at h1;exact fx h1
  exact item_listR pl.isList h0 yw (by rw[hj];simpa using ew) fin hs
 ·have hj:(i+(ae.toArray.size:Int)).toNat=j:=by
   rw[seqIndex_neg yw h4]at h1;rw[cy,<- hl];exact fx h1
  exact subscriptTail_builtinR (x:=w) pl.isList.typeIs slot_list_getitem.lookup
   (wpAny_getItem_list_neg (Q:=fun r s'=>r=w/\EP X ze σ Q r s') pl.isList yw (by rw[cy]<;>omega) yw (by rw[hj];simpa using ew) ⟨rfl,fin⟩) hs
theorem FM:IxR X (pF X.K):=by
 intro ac aa ze s σ H x y v u Q I rx ry h hs;obtain⟨p,xs,i,z,rfl,rfl,hq,he,q⟩:=h;cases rx;obtain⟨t,rfl⟩:=ry;obtain⟨ae,r,pl,hz⟩:=I.tuple hq;obtain⟨j,h1,h2,h3,h4,h5⟩:=pN he;obtain⟨w,ew,ab⟩:=r.get h2;have hl:=r.length;have hn:=line63;have fin:EP X ze σ Q w s:=⟨z,H,I,ab,q⟩;exact subscriptTail_builtinR (x:=w) pl.typeIs slot_tuple_getitem.lookup
  (getItem_tuple (j:=j) (Q:=fun r s'=>r=w/\EP X ze σ Q r s') pl yw yw (by rw[cy,<- hl];exact h1) (by simpa using ew) ⟨rfl,fin⟩) hs
theorem BL:IxR X rB:=by
 intro aa ab ze s σ H x y v u Q I rx ry h hs;obtain⟨z,i,c,rfl,rfl,hz,he,q⟩:=h;obtain⟨t,rfl⟩:=rx;obtain⟨t',rfl⟩:=ry;obtain⟨j,h1,h2,h3,h4,h5⟩:=pN he;have hl:z.cps.toList.length=z.length:=by simp[Str.length]
 rw[hl]at h1 h4 h5;have hn:=line63;exact tail_any (typeIs_str s z t) slot_str_getitem.lookup (getItem_str (c:=c) (by
  have e1:decide (i < -(2 ^ 63:Int))=false:=gi yw;have e2:decide (i≥2 ^ 63)=false:=gi yw;rw[e1,e2,Bool.or_false]) (by rw[h1];simpa using h2) ⟨.str ⟨#[c]⟩,H,I.tok _,⟨_,rfl⟩,q⟩) hs
def rIx(K:cu):R2:=fun x y H Q=>qF K x y H Q\/pF K x y H Q\/rB x y H Q
theorem zu:IxR X (rIx X.K):=y9.or (FM.or BL)
theorem BE(q:List bn)(n j:Nat)(u:bn):gr (·.setIfInBounds j u) { cls:=.type "list",data:=.seq q.toArray n } = { cls:=.type "list",data:=.seq (q.set j u).toArray n }:=by
 simp[gr]
theorem Inv.lst{ze:List (Addr×Obj)}{σ:St}{H:Hp}{s:bp}{p:Addr}{xs:List V}(I:Inv X ze σ H s)(h:H p=some (.lst xs)):
  ∃(q:List bn) (n:Nat),Vals xs q/\s.heap.get? p=some { cls:=.type "list",data:=.seq q.toArray n }/\xs.length<=dw:=by
 obtain⟨z,q,n,r,e⟩:=I.hok p _ h;exact⟨q,n,r,e,z⟩
theorem Inv.lstUpd{ze:List (Addr×Obj)}{σ:St}{H:Hp}{s:bp}{p:Addr}{xs ys:List V}{z its':List bn}{n n':Nat}{f:Obj->Obj}(I:Inv X ze σ H s)(h:H p=some (.lst xs))
  (ho:s.heap.get? p=some { cls:=.type "list",data:=.seq z.toArray n }) (hf:f { cls:=.type "list",data:=.seq z.toArray n } = { cls:=.type "list",data:=.seq its'.toArray n' }) (r:Vals ys its') (hz:ys.length<=dw) (t:Nat):
  Inv X ze σ (upd H p (.lst ys)) { s with heap:=s.heap.update p f,toks:=t }:=by
 have e:(s.heap.update p f).get? p=some { cls:=.type "list",data:=.seq its'.toArray n' }:=by
  rw[nq f ho (by rw[hf]<;>rfl),hf]
 refine I.write (x:=p) (e:=p) (by rw[h];trivial) (.inl rfl) (fun b u hb q=>(ic _ _ (nn hb)).trans q) ⟨_,e⟩ ?_;exact⟨hz,its',n',r,e⟩
def uY:V->V->V->Hp->(Hp->Prop)->Prop:=fun o i v H Q=>∃p xs k j,o=.ref p/\i=.int k/\H p=some (.lst xs)/\ixN xs.length k=some j/\Q (upd H p (.lst (xs.set j v)))
theorem yA:PSet X uY:=by
 intro ze s σ H o i v ov iv u Q I ro ri rv h;obtain⟨p,xs,k,j,rfl,rfl,hp,hj,q⟩:=h;cases ro;obtain⟨t,rfl⟩:=ri;obtain⟨z,n,r,ho,hz⟩:=I.lst hp;obtain⟨h1,h2,h3,h4⟩:=uR hj;have hl:=r.length;have hn:=line63;have I':Inv X ze σ (upd H p (.lst (xs.set j v))) { s with heap:=s.heap.update p (gr (·.setIfInBounds j u)) } :=
  I.lstUpd hp ho (BE z n j u) (r.set rv j) (by rw[length_set];exact hz) s.toks
 by_cases h0:0<=k
 ·have hk:k.toNat=j:=by
   rw[seqIndex_of h0 h4]at h1;exact fx h1
  exact W.ki_setAt ho h0 yw (by rw[cy,<- hl];exact h4) (by rw[hk];exact⟨_,I',q⟩)
 ·have hk:(k+(z.toArray.size:Int)).toNat=j:=by
   rw[seqIndex_neg yw h3]at h1;rw[cy,<- hl];exact fx h1
  exact W.ki_setBack ho yw (by rw[cy,<- hl];exact h3) yw (by rw[hk];exact⟨_,I',q⟩)
theorem EG(lo hi:Option Int)(n:Nat):(ou lo hi none n).1=((HT.sIx n 0 lo:Nat):Int)/\(ou lo hi none n).2.1=((HT.sIx n n hi:Nat):Int)/\(ou lo hi none n).2.2=1:=by
 refine⟨?_,?_,rfl⟩
 ·cases lo with
  |none=>simp[ou,HT.sIx]
  |some i=>
   simp only[ou,HT.sIx,Option.getD_none,show (1:Int)>0 by decide,if_true];by_cases h:i<0
   ·simp only[h,if_true]<;>omega
   ·simp only[h,if_false]<;>omega
 ·cases hi with
  |none=>simp[ou,HT.sIx]
  |some i=>
   simp only[ou,HT.sIx,Option.getD_none,show (1:Int)>0 by decide,if_true];by_cases h:i<0
   ·simp only[h,if_true]<;>omega
   ·simp only[h,if_false]<;>omega
theorem BP(q:List bn)(lo hi:Option Int):slicePick q.toArray lo hi none=((q.drop (HT.sIx q.length 0 lo)).take (HT.sIx q.length q.length hi-HT.sIx q.length 0 lo)).toArray:=by
 obtain⟨h1,h2,h3⟩:=EG lo hi q.toArray.size;unfold slicePick;rw[h1,h2,h3];simp only[sliceRange_one,pick_run,cy]<;>rfl
def l7(K:cu):V->Option Int->Option Int->Hp->VK->Prop:=fun x lo hi H Q=>∃a xs,x=.ref a/\SqL K H a xs/\∀p,H p=none->Q (.ref p) (upd H p (.lst (bY xs lo hi)))
theorem xL:SlR X (l7 X.K):=by
 intro ze s σ H x v vl vu lo hi sl Q I rx hs pl pu h;obtain⟨a,xs,rfl,hx,q⟩:=h;cases rx;obtain⟨aa,r,ht,hz⟩:=I.list hx;have z:=r.length;refine⟨"list",_,slot_list_getitem.lookup,ht.isList.typeIs,?_⟩;refine wpAny_getItem_list_slice ht.isList hs pl pu .none yv ?_ (by rw[cy]<;>omega);rw[BP,<- z];refine⟨.ref s.heap.objs.size,_,I.laid (t':=s.toks) (o:=.lst (bY xs lo hi)) (fun b ob q=>bz _ q) (cv _) ?_,rfl,q _ (I.hok.fresh (cv _))⟩;exact⟨gq (qK xs lo hi) hz,_,0,(r.drop (HT.sIx xs.length 0 lo)).take (HT.sIx xs.length xs.length hi-HT.sIx xs.length 0 lo),cz _ rfl⟩
theorem tM:CallR X (.builtin "len") (fun xs H Q=>∃p ys,xs=[.ref p]/\(SqL X.K H p ys\/SqT X.K H p ys)/\Q (.int ys.length) H):=by
 intro ze s σ H xs us Q I r h;obtain⟨p,ys,rfl,hq,q⟩:=h;obtain⟨u,rfl,rx⟩:=vals1 r;cases rx;have hn:=line63;rcases hq with hq|hq
 ·obtain⟨aa,r',pl,hz⟩:=I.list hq;have z:=r'.length;exact Calls.call_len_list pl.isList (by simp only[cy]<;>omega) ⟨.int ys.length,H,I.tok _,⟨s.toks+1,by rw[cy,z]⟩,q⟩
 ·obtain⟨aa,r',pl,hz⟩:=I.tuple hq;have z:=r'.length;exact len_tuple pl (by simp only[cy]<;>omega) ⟨.int ys.length,H,I.tok _,⟨s.toks+1,by rw[cy,z]⟩,q⟩
theorem Ea:CallR X (.builtin "len") (fun xs H Q=>∃z,xs=[.str z]/\z.length<=dw/\Q (.int z.length) H):=by
 intro ze s σ H xs us Q I r h;obtain⟨z,rfl,hz,q⟩:=h;obtain⟨u,rfl,t,rfl⟩:=vals1 r;have hn:=line63;exact len_str yw ⟨.int z.length,H,I.tok _,⟨_,rfl⟩,q⟩
theorem CallR.or{f:bn}{r r':List V->Hp->VK->Prop}(h:CallR X f r)(h':CallR X f r'):CallR X f (fun xs H Q=>r xs H Q\/r' xs H Q):=by
 intro ze s σ H xs us Q I rs q;rcases q with q|q
 ·exact h ze s σ H xs us Q I rs q
 ·exact h' ze s σ H xs us Q I rs q
theorem rR:CallR X (.type "tuple") (fun xs H Q=>∃p ys,xs=[.ref p]/\((SqL X.K H p ys/\∀l,H l=none->Q (.ref l) (upd H l (.tup ys)))\/(SqT X.K H p ys/\Q (.ref p) H))):=by
 intro ze s σ H xs us Q I r h;obtain⟨p,ys,rfl,h⟩:=h;obtain⟨u,rfl,rx⟩:=vals1 r;cases rx;rcases h with ⟨hq,q⟩|⟨hq,q⟩
 ·obtain⟨z,r',pl,hz⟩:=I.list hq;have aa:=r'.length;refine call_tuple_list pl.isList (fun h' kp=>?_) (by simp only[cy]<;>omega);have I1:Inv X ze σ H { s with heap:=h' }:=I.kept (t':=s.toks) kp;have I2:Inv X ze σ (upd H h'.objs.size (.tup ys)) { s with heap:=h'.push { cls:=.type "tuple",data:=.seq z.toArray } } :=
   I1.laid (t':=s.toks) (fun b o e=>bz _ e) (cv _) (show ObjOk X.prog X.w _ _ _ (.tup ys)from⟨⟨hz,_,cz _ rfl,rfl⟩,z,r',IsTup.new _ _⟩)
  exact⟨.ref h'.objs.size,_,I2,rfl,q _ (I1.hok.fresh (cv _))⟩
 ·obtain⟨z,r',pl,hz⟩:=I.tuple hq;exact call_tuple_same pl ⟨.ref p,H,I,rfl,q⟩
def tyV(K:cu)(T:String)(x:V)(H:Hp):Prop:=match x with
 | .str _=>T = "str"
 | .int _=>T = "int"
 | .ref p=>(T = "list"/\∃xs,SqL K H p xs)\/(T = "tuple"/\∃o,K.lookup p=some o/\o.cls=.type "tuple"/\o.dict=none) \/
   (T = "dict"/\((∃kvs,H p=some (.dK kvs))\/∃kvs,H p=some (.dT kvs)))\/(T = "set"/\∃S n,H p=some (.set S n))
 |_=>False
theorem x6{ze:List (Addr×Obj)}{σ:St}{H:Hp}{s:bp}{T:String}{x:V}{v:bn}(I:Inv X ze σ H s)(r:RelV x v)(ty:tyV X.K T x H):
  s.TypeIs v T/\∀a,v=.ref a->∃ob,s.heap.get? a=some ob/\ob.dict=none:=by
 cases x with
 |str z=>
  obtain⟨t,rfl⟩:=r;cases (show T = "str" from ty);exact⟨typeIs_str s z t,fun _ e=>nomatch e⟩
 |int i=>
  obtain⟨t,rfl⟩:=r;cases (show T = "int" from ty);exact⟨typeIs_int s i t,fun _ e=>nomatch e⟩
 |ref p=>
  cases r;rcases ty with ⟨rfl,xs,hq⟩|⟨rfl,o,hk,hc,hd⟩|⟨rfl,hk⟩|⟨rfl,S,n,hk⟩
  ·obtain⟨q,_,pl,_⟩:=I.list hq;refine⟨pl.isList.typeIs,fun a e=>?_⟩;cases e;obtain⟨o,n,e,c,hd,_⟩:=pl;exact⟨o,e,hd⟩
  ·refine⟨⟨o,I.kIn p o hk,hc⟩,fun a e=>?_⟩;cases e;exact⟨o,I.kIn _ o hk,hd⟩
  ·have z:∃o,s.heap.get? p=some o/\o.ExactDict:=by
    rcases hk with ⟨kvs,hk⟩|⟨kvs,hk⟩
    ·obtain⟨_,_,_,_,o,_,_,e,ex,_⟩:=I.hok p _ hk;exact⟨o,e,ex⟩
    ·obtain⟨_,_,_,_,o,_,_,e,ex,_⟩:=I.hok p _ hk;exact⟨o,e,ex⟩
   obtain⟨o,e,ex⟩:=z;refine⟨⟨o,e,ex.1⟩,fun a e2=>?_⟩;cases e2;exact⟨o,e,ex.2.1⟩
  ·obtain⟨o,_,_,_,e,ex,_⟩:=I.hok p _ hk;refine⟨⟨o,e,ex.1⟩,fun a e2=>?_⟩;cases e2;exact⟨o,e,ex.2.1⟩
 |_=>exact lu ty
def tZ(K:cu)(T:String)(r:V->List V->Hp->VK->Prop)(to:TE):TE:=fun σ H Q=>to σ H fun x H1=>tyV K T x H1/\r x [] H1 Q
def tBM(K:cu)(T:String)(r:V->List V->Hp->VK->Prop)(to:TE)(t:TA):TE:=fun σ H Q=>to σ H fun x H1=>tyV K T x H1/\t σ H1 fun xs H2=>r x xs H2 Q
variable {o e:Expr}{es:List Expr}{to:TE}{t:TA}{name:Str}{apos cpos:Pos}{T id:String}{r:V->List V->Hp->VK->Prop}
theorem sS(pa:PlainAttrs T)(slot:Slot T name id)(q:typeOf (.builtin id)=pure (.type "method_descriptor"))(hm:MtR X id r)(ho:PE X o to)
  (hbase:attributeBase o name X.env (eval o X.env)=eval o X.env:=by rfl) (hline:(apos.endLine==cpos.line)=true:=by rfl):PE X (.Call (.Attribute o name apos) [] [] cpos) (tZ X.K T r to):=by
 intro ze s σ H Q I h;refine wpAny_Call_method0_late hbase hline (thn (ho ze s σ H _ I h) fun v s1 ⟨x,H1,I1,r1,ty,q1⟩=>?_);obtain⟨h1,h2⟩:=x6 I1 r1 ty;exact⟨T,id,pa,slot,q,h1,h2,Calls.callWith_builtin rfl (PySem.evalArgs_none (hm ze s1 σ H1 x [] v [] Q I1 r1 .nil q1))⟩
theorem dS(pa:PlainAttrs T)(slot:Slot T name id)(q:typeOf (.builtin id)=pure (.type "method_descriptor"))(hm:MtR X id r)(ho:PE X o to)(ha:PA X (e::es) t)
  (hbase:attributeBase o name X.env (eval o X.env)=eval o X.env:=by rfl)
  (hfew:((on cpos (fi (e::es) X.env)).all (fun x=>!x.1)&&(backToKw cpos (keywordEach [] X.env)).all (fun x=>x.1.isSome)
   && decide ((e::es).length+([]:List Keyword).length+(if ([]:List Keyword).isEmpty then 0 else 1)<30))=true:=by rfl)
  (hline:(apos.endLine==cpos.line)=true:=by rfl) (hs:fi (e::es) X.env=(false,eval e X.env)::fi es X.env:=by rfl) (hplain:(on cpos (fi es X.env)).any (·.1)=false:=by rfl):
  PE X (.Call (.Attribute o name apos) (e::es) [] cpos) (tBM X.K T r to t):=by
 intro ze s σ H Q I h;refine wpAny_Call_method_late hbase hfew hline rfl (thn (ho ze s σ H _ I h) fun v s1 ⟨x,H1,I1,r1,ty,q1⟩=>?_);obtain⟨h1,h2⟩:=x6 I1 r1 ty;refine⟨T,id,pa,slot,q,h1,h2,?_⟩;have hA:=ha cpos ze s1 σ H1 _ I1 q1;rw[hs]at hA ⊢;refine Calls.callWith_builtin (by show (false||(on cpos (fi es X.env)).any (·.1))=false;rw[hplain]<;>rfl) (Calls.evalArgs_plain ?_);exact thn hA fun us s2 ⟨vs,H2,I2,r2,q2⟩=>hm ze s2 σ H2 x vs v us Q I2 r1 r2 q2
end
end
section
def MtM(X:Cx)(id:String)(r:V->List V->Hp->VK->Prop):Prop:=
 ∀(ze:List (Addr×Obj)) (s:bp) (σ:St) (H:Hp) (x:V) (xs:List V) (v:bn) (us:List bn) (Q:VK),Inv X ze σ H s->RelV x v->Vals xs us->r x xs H Q ->
  ck (model X.prog X.w) X.A (call (.builtin id) (v::us)) (EP X ze σ Q) X.xe s
theorem Vals.one:∀{x:V}{us:List bn},Vals [x] us->∃u,us=[u]/\RelV x u
 |_,_,.cons r .nil=>⟨_,rfl,r⟩
theorem Vals.zero:∀{us:List bn},Vals [] us->us=[]
 |_,.nil=>rfl
theorem Vals.dropLast{xs:List V}{us:List bn}(h:Vals xs us):Vals xs.dropLast us.dropLast:=by
 induction h with
 |nil=>exact .nil
 |cons r t ih=>
  cases t with
  |nil=>exact .nil
  |cons q t'=>exact .cons r ih
theorem Vals.reverse{xs:List V}{us:List bn}(h:Vals xs us):Vals xs.reverse us.reverse:=by
 induction h with
 |nil=>exact .nil
 |cons r t ih=>rw[reverse_cons,reverse_cons];exact Vals.append ih (.cons r .nil)
theorem Vals.rep{xs:List V}{us:List bn}(h:Vals xs us):∀k:Nat,Vals (ci k xs).flatten (ci k us).flatten
 | 0=>.nil
 |k+1=>by
  rw[li,li,flatten_cons,flatten_cons];exact Vals.append h (Vals.rep h k)
theorem C0{α:Type}(l:List α):l.eraseIdx (l.length-1)=l.dropLast:=by
 induction l with
 |nil=>rfl
 |cons a r ih=>
  cases r with
  |nil=>rfl
  |cons b r=>
   have e:(a::b::r).length-1=((b::r).length-1)+1:=by
    have h1:(a::b::r).length=r.length+2:=rfl;have h2:(b::r).length=r.length+1:=rfl;omega
   rw[e,List.eraseIdx_cons_succ,ih]
   all_goals rfl
theorem uJ(q:List bn):∀(k:Nat) (acc:List bn),
  ly (fun x1 x2=>x1++x2) acc.toArray (ci k q.toArray)=(acc++(ci k q).flatten).toArray
 | 0,acc=>by simp
 |k+1,acc=>by
  have e:acc.toArray++q.toArray=(acc++q).toArray:=by simp
  have e2:(acc++q)++(ci k q).flatten=acc++(ci (k+1) q).flatten:=by
   rw[li,flatten_cons,io]
  rw[<- e2,<- uJ q k (acc++q),<- e,li,nk]
section
variable {X:Cx}{ze:List (Addr×Obj)}{σ:St}{H:Hp}{s:bp}{l b:Addr}{xs ys zs:List V}
theorem Inv.lset{z its':List bn}{n:Nat}{f:Array bn->Array bn}{t':Nat}(I:Inv X ze σ H s)(hH:H l=some (.lst xs))
  (e:s.heap.get? l=some { cls:=.type "list",data:=.seq z.toArray n }) (hf:f z.toArray=its'.toArray) (hv:Vals ys its') (hz:ys.length<=dw):
  Inv X ze σ (upd H l (.lst ys)) { s with heap:=s.heap.update l (gr f),toks:=t' }:=by
 have q:=PySem.IsL.update e f;rw[hf]at q;refine I.write (x:=l) (e:=l) (by rw[hH];exact trivial) (.inl rfl) (fun b' u hb hu=>(ic s.heap (gr f) (nn hb)).trans hu) ⟨_,q⟩ ?_;exact⟨hz,its',_,hv,q⟩
theorem Inv.lnew{z:List bn}{t':Nat}(I:Inv X ze σ H s)(hv:Vals ys z)(hz:ys.length<=dw):
  Inv X ze σ (upd H s.heap.objs.size (.lst ys)) { s with heap:=s.heap.push { cls:=.type "list",data:=.seq z.toArray },toks:=t' } :=
 I.laid (fun _ _ q=>bz _ q) (cv _) ⟨hz,z,0,hv,cz _ rfl⟩
theorem Inv.fresh(I:Inv X ze σ H s):H s.heap.objs.size=none:=I.hok.fresh (cv _)
theorem Inv.lstM(I:Inv X ze σ H s)(hH:H l=some (.lst xs)):xs.length<=dw/\∃(q:List bn) (n:Nat),Vals xs q/\xs.length=q.length/\s.heap.get? l=some { cls:=.type "list",data:=.seq q.toArray n }:=by
 obtain⟨z,q,n,r,e⟩:=I.hok l _ hH;exact⟨z,q,n,r,r.length,e⟩
theorem vK{n:Nat}(h:n<=dw):Builtin.List.listTooLong n=false:=by
 unfold Builtin.List.listTooLong;exact gi yw
end
section
variable {X:Cx}
def xT:V->List V->Hp->VK->Prop:=fun x vs H Q=>∃l xs y,x=.ref l/\vs=[y]/\H l=some (.lst xs)/\xs.length<dw/\Q .non (upd H l (.lst (xs++[y])))
theorem eL:MtM X "list.append" xT:=by
 intro ze s σ H x vs v us Q I rx rv h;obtain⟨l,xs,y,rfl,rfl,hH,hz,q⟩:=h;cases rx;obtain⟨u,rfl,ru⟩:=rv.one;obtain⟨z,aa,n,r,hl,e⟩:=I.lstM hH;refine call_meets F.slot_list_append ⟨_,e,rfl⟩ F.entry_list_append (F.args_list_append_2 _ _) (PySem.list_append l aa.toArray n u (by rw[cy];omega)) ⟨e,?_⟩;refine⟨.non,_,I.lset (its':=aa++[u]) hH e yv (r.append (.cons ru .nil)) ?_,rfl,q⟩;rw[cq,fr];omega
def AL:V->List V->Hp->VK->Prop:=fun x vs H Q=>∃l b xs zs,x=.ref l/\vs=[.ref b]/\H l=some (.lst xs)/\H b=some (.lst zs)/\xs.length+zs.length<=dw/\Q .non (upd H l (.lst (xs++zs)))
theorem wE:MtM X "list.extend" AL:=by
 intro ze s σ H x vs v us Q I rx rv h;obtain⟨l,b,xs,zs,rfl,rfl,hH,hB,hz,q⟩:=h;cases rx;obtain⟨u,rfl,ru⟩:=rv.one;cases ru;obtain⟨z,ab,n,r,hl,e⟩:=I.lstM hH;obtain⟨z2,aa,n2,r2,af,e2⟩:=I.lstM hB;have ae:ab.toArray.size+aa.toArray.size<=dw:=by rw[cy,cy];omega
 have ac:¬(!ab.toArray.isEmpty&&Builtin.List.listTooLong (ab.toArray.size+aa.toArray.size))=true:=by
  rw[vK ae,Bool.and_false];exact ge
 refine call_meets F.slot_list_extend ⟨_,e,rfl⟩ F.entry_list_extend (F.args_list_extend_2 _ _)
  (AutoSeq1.list_extend_list_list_0 l ab.toArray n b aa.toArray n2 ac (by rw[cy];omega) yw) ⟨e,e2,?_⟩
 refine⟨.non,_,I.lset (its':=ab++aa) hH e yv (r.append r2) ?_,rfl,q⟩;rw[cq];omega
def uM:V->List V->Hp->VK->Prop:=fun x vs H Q=>∃l xs y,x=.ref l/\vs=[]/\H l=some (.lst xs)/\xs[xs.length-1]?=some y/\Q y (upd H l (.lst xs.dropLast))
theorem Bd:MtM X "list.pop" uM:=by
 intro ze s σ H x vs v us Q I rx rv h;obtain⟨l,xs,y,rfl,rfl,hH,hy,q⟩:=h;cases rx;have ab:=rv.zero;subst ab;obtain⟨z,aa,n,r,hl,e⟩:=I.lstM hH;obtain⟨u,hu,ru⟩:=r.get hy;have ac:aa.toArray[aa.toArray.size-1]?=some u:=by
  show aa.toArray[aa.length-1]?=some u;rw[<- iq,<- hl];exact hu
 refine call_meets F.slot_list_pop ⟨_,e,rfl⟩ F.entry_list_pop (F.args_list_pop_1 _) (MeetsSeq.list_pop_last l aa.toArray n u ac (by rw[cy];omega)) ⟨e,?_⟩;refine⟨y,_,I.lset (its':=aa.dropLast) hH e ?_ r.dropLast ?_,ru,q⟩
 ·show aa.toArray.eraseIdxIfInBounds (aa.toArray.size-1)=aa.dropLast.toArray;rw[cy,List.eraseIdxIfInBounds_toArray,C0]
 ·rw[List.length_dropLast];omega
def vJ:V->List V->Hp->VK->Prop:=fun x vs H Q=>∃l xs,x=.ref l/\vs=[]/\H l=some (.lst xs)/\Q .non (upd H l (.lst xs.reverse))
theorem F5:MtM X "list.reverse" vJ:=by
 intro ze s σ H x vs v us Q I rx rv h;obtain⟨l,xs,rfl,rfl,hH,q⟩:=h;cases rx;have ab:=rv.zero;subst ab;obtain⟨z,aa,n,r,hl,e⟩:=I.lstM hH;refine call_meets F.slot_list_reverse ⟨_,e,rfl⟩ F.entry_list_reverse (F.args_list_reverse_1 _) (AutoSeq1.list_reverse_list_0 l aa.toArray n (by rw[cy];omega)) ⟨e,?_⟩;refine⟨.non,_,I.lset (its':=aa.reverse) hH e yv r.reverse ?_,rfl,q⟩;rw[List.length_reverse];omega
def iD:R2:=fun x y H Q=>∃l b xs zs,x=.ref l/\y=.ref b/\H l=some (.lst xs)/\H b=some (.lst zs)/\xs.length+zs.length<=dw/\∀p,H p=none->Q (.ref p) (upd H p (.lst (xs++zs)))
theorem qS:OpR X (jq .Add) iD:=by
 intro ze s σ H x y v u Q I rx ry h;obtain⟨l,b,xs,zs,rfl,rfl,hH,hB,hz,q⟩:=h;cases rx;cases ry;obtain⟨z,ab,n,r,hl,e⟩:=I.lstM hH;obtain⟨z2,aa,n2,r2,ac,e2⟩:=I.lstM hB;refine PySem.P.add_list e e2 ?_ (by rw[cy,cy];omega);have ea:ab.toArray++aa.toArray=(ab++aa).toArray:=by simp
 rw[ea];exact⟨.ref _,_,I.lnew (t':=s.toks) (r.append r2) (by rw[cq];omega),rfl,q _ I.fresh⟩
def x3:R2:=fun x y H Q=>∃l k xs,x=.ref l/\y=.int k/\H l=some (.lst xs)/\-(2 ^ 63)<=k/\k<2 ^ 63/\xs.length*k.toNat<=dw /\
 ∀p,H p=none->Q (.ref p) (upd H p (.lst (ci k.toNat xs).flatten))
theorem FZ{α:Type}(xs:List α)(k:Nat):(ci k xs).flatten.length=k*xs.length:=by
 induction k with
 |zero=>simp
 |succ k ih=>rw[li,flatten_cons,cq,ih,Nat.succ_mul,Nat.add_comm]
theorem BF:OpR X (jq .Mult) x3:=by
 intro ze s σ H x y v u Q I rx ry h;obtain⟨l,k,xs,rfl,rfl,hH,h1,h2,hz,q⟩:=h;cases rx;obtain⟨t,rfl⟩:=ry;obtain⟨z,aa,n,r,hl,e⟩:=I.lstM hH;have ae:aa.toArray.size*k.toNat<=dw:=by rw[cy,<- hl];exact hz
 have af:¬ aa.toArray.size*k.toNat>(2 ^ 63-1)/8:=by
  have:(dw:Nat)<=(2 ^ 63-1)/8:=by decide
  omega
 have ac:¬(!Builtin.List.listFitsIndex k)=true:=by
  rw[fitsIndex_both h1 h2];exact ge
 have ab:¬ Builtin.List.listTooLong (aa.toArray.size*k.toNat)=true:=by
  rw[vK ae];exact ge
 have ag:ly (fun x1 x2=>x1++x2) #[] (ci (if aa.toArray.isEmpty=true then 0 else k.toNat) aa.toArray)=(ci k.toNat aa).flatten.toArray:=by
  have f0:∀m:Nat,ly (fun x1 x2=>x1++x2) #[] (ci m aa.toArray)=(ci m aa).flatten.toArray:=fun m=>by
   have:=uJ aa m [];rw[nil_append]at this;exact this
  rw[f0];cases aa with
  |nil=>simp
  |cons a r'=>rw[cb yv]
 refine wpAny_binaryOp_repeat_ref (T:="list") (U:="int") dz ⟨_,e,rfl⟩ (fun s'=>typeIs_int s' k t) noFill_list_mul F.fills_int_mul F.slot_int_rmul repeat_list F.slot_int_index.lookup
  (call_meets F.slot_int_rmul (typeIs_int s k t) F.entry_int_rmul (F.args_int_rmul_2 _ _) (int___rmul___int_list k t l aa.toArray n)
   ⟨e,rfl,⟨_,e,rfl⟩,call_meets F.slot_list_mul ⟨_,e,rfl⟩ F.entry_list_mul (F.args_list_mul_2 _ _) (AutoListH.list___mul___list_int_3 l aa.toArray n k t ac af ab) ⟨e,?_⟩⟩)
 rw[ag];exact⟨.ref _,_,I.lnew (t':=s.toks) (r.rep k.toNat) (by rw[FZ,Nat.mul_comm];exact hz),rfl,q _ I.fresh⟩
end
end
section
structure M1(X:Cx)(o:Expr)(m:Str)(apos:Pos)(e:Expr)(cpos:Pos):Prop where
 base:attributeBase o m X.env (eval o X.env)=eval o X.env
 few:((on cpos (fi [e] X.env)).all (fun x=>!x.1)&&(backToKw cpos (keywordEach [] X.env)).all (fun x=>x.1.isSome)
  && decide (([e]:List Expr).length+([]:List Keyword).length+(if ([]:List Keyword).isEmpty then 0 else 1)<30))=true
 line:(apos.endLine==cpos.line)=true
 trees:on cpos (fi [e] X.env)=[(false,eval e X.env)]
structure M2(X:Cx)(o:Expr)(m:Str)(apos:Pos)(e f:Expr)(cpos:Pos):Prop where
 base:attributeBase o m X.env (eval o X.env)=eval o X.env
 few:((on cpos (fi [e,f] X.env)).all (fun x=>!x.1)&&(backToKw cpos (keywordEach [] X.env)).all (fun x=>x.1.isSome)
  && decide (([e,f]:List Expr).length+([]:List Keyword).length+(if ([]:List Keyword).isEmpty then 0 else 1)<30))=true
 line:(apos.endLine==cpos.line)=true
 trees:on cpos (fi [e,f] X.env)=[(false,eval e X.env),(false,eval f X.env)]
def obO(a:Addr)(ob:Obj):HO:=.ext fun h=>h.get? a=some ob
end
end L2
namespace Att
open PySem PySem.W PySem.Calls PyProof.Rows
theorem Aa{P:Params}{h:Heap}:∀(ns:List Int) (vs:List bn),WellAll P h vs (ns.map WData.int)->nz vs ns:=by
 intro ns;induction ns with
 |nil=>
  intro vs w;rw[map_nil]at w;cases w;exact .nil
 |cons n ns ih=>
  intro vs w;rw[lh]at w;cases w with
  |cons a b=>
   cases a;exact .cons _ _ (ih _ b)
theorem EE{l:OpenLaw}{n:Nat}(hn:l.most=some n){P:Params}{h:Heap}{args:List WData}{z:List bn}
  (hpre:l.row.toRowW.claim.pre args=true) (hwl:WellAll P h z args):
  ∃a vs ns,z=[ig a]/\args=[WData.list (ns.map WData.int)]/\h.get? a=some { cls:=.type "list",data:=.seq vs.toArray }/\nz vs ns/\ns.length<=n:=by
 have ab:WShape.hasAll [] args [.list .int]=true:=(pre_splitW hpre).1;have hc:l.pre.holds [] { args:=args } = true:=(pre_splitW hpre).2;obtain⟨d,r,rfl,h1,h2⟩:=hasAllW_cons ab;obtain rfl:=hasAllW_nil h2;obtain⟨xs,rfl,h3⟩:=hasW_list h1;obtain⟨ns,rfl⟩:=items_int h3;have aa:ns.length<=n:=by
  unfold OpenLaw.pre at hc;have h4:(WTm.not (.lt (.lit (.int (n:Int))) (.len (.arg 0)))).holds [] { args:=[.list (ns.map .int)] } = true:=by
   have h4:=(holds_andW hc).1;rw[hn]at h4;exact h4
  have h5:=condW_of h4 (w_not (w_lt w_lit (w_len_list (w_arg rfl))));rw[dj]at h5;refine Nat.le_of_not_lt fun q=>?_;have q':(n:Int)<((ns.length:Nat):Int):=yw
  first
   | (rw[decide_eq_true q']at h5;exact absurd h5 dz)
   | (simp at h5;omega)
 cases hwl with
 |cons w1 w2=>
  cases w2;cases w1 with
  |list ho hall=>exact⟨_,_,ns,rfl,rfl,ho,Aa ns _ hall,aa⟩
theorem Ap(l:OpenLaw)(args:List WData):l.row.toRowW.claim.post args (.bool true) args=true:=
 postW_of (r:=l.row.toRowW) (X:=(true==true))
  (show WShape.has [] (.bool true) .bool=true by first|rfl|decide|simp[WShape.has,WShape.arms,WShape.armsAll])
  (show (WTm.eq .res (.lit (.bool true))).value [] { args:=args,res:=some (.bool true),after:=args } = some (.bool (true==true))from w_eq_bool (w_res rfl) w_lit) rfl
theorem attach_call{l:OpenLaw}{n:Nat}{q:fe}{z:List Str}{XP:(Str->Option bn)->Heap->Prop}{YP:ft->Heap->Prop}{d:DefRec}
  (hn:l.most=some n) (hdf:d.params.defaults=[])
  (call:∀(w:ft) (s₀ s₁:bp) (mg mb:Str->Option bn) (fa:Addr) (o:Obj) (pm cd aa:bn) (a:Addr) (vs:List bn) (ns:List Int),
   Ground q z [] XP w s₀ mg mb s₁.heap->YP w s₁.heap ->
   s₁.heap.get? fa=some o->o.data=.func (docDef d.name d.params d.body d.scope pm cd aa)->s₁.heap.CodeRec cd d.name->mg d.name=some (.ref fa) ->
   s₁.heap.get? a=some { cls:=.type "list",data:=.seq vs.toArray }->nz vs ns->ns.length<=n->s₁.gens = #[] ->
   ow (model l.prog w) callerA (.call (.ref fa) ⟨[.ref a],[]⟩) (fun r s'=>r=.ok (.ret (.bool true))/\OldK s₁.heap s'.heap/\s'.os=s₁.os/\AllBare s'.gens) s₁):
  WalkO q z XP YP l.row.toRowW d [] (fun f vs=>PySem.call f vs):=by
 intro w s₀ s₁ mg mb G Y fa o pm cd aa dV kV ho hd ag hD ah hg args ak as ae aj am ai al;obtain rfl:dV=.none:=Dflts.none hD hdf;obtain rfl:kV=.none:=Dflts.noKw hD;obtain⟨a,vs,ns,rfl,rfl,af,ab,ac⟩:=EE hn ae ai;refine enter_call (codeAny_mono (call w s₀ s₁ mg mb fa o pm cd aa a vs ns G Y ho (fd_plain hd) ag ah af ab ac hg) fun r s' hq=>?_);obtain⟨rfl,h2,h3,h4⟩:=hq;exact⟨.inl ⟨.bool true,.bool true,[],rfl,fun _=>rfl,.bool true,Ap l _,fun _=>⟨List.Pairwise.nil,fun _ hm=>(nomatch hm)⟩⟩,h2,h3,h4⟩
end Att
namespace L2
open PySem PySem.Spec PyProof.Rows
section
theorem yP:∀{vs:List bn}{ns:List Int},nz vs ns->Vals (ns.map V.int) vs
 |_,_,.nil=>.nil
 |_,_,.cons n t h=>.cons ⟨t,rfl⟩ (yP h)
def Only(H:Hp):Prop:=∀b,H b=none\/(∃o xs,H b=some (.frz o (.lst xs)))\/∃q∈tabsG,q.1.2=b/\H b=some (.tbl q.2)
def b8(b:Addr):Option HO:=(tabsG.find? fun q=>q.1.2==b).map fun q=>.tbl q.2
theorem iG{b:Addr}{u:HO}(e:b8 b=some u):∃q∈tabsG,q.1.2=b/\u=.tbl q.2:=by
 unfold b8 at e;cases h:tabsG.find? fun q=>q.1.2==b with
 |none=>rw[h]at e;cases e
 |some q=>
  rw[h]at e;cases e;exact⟨q,List.mem_of_find?_eq_some h,by simpa using List.find?_some h,rfl⟩
theorem By{l:List ((Addr×Addr)×Array bn)}(nd:(l.map fun q=>q.1.2).Nodup){q:(Addr×Addr)×Array bn}(h:q∈l):l.find? (fun r=>r.1.2==q.1.2)=some q:=by
 induction l with
 |nil=>cases h
 |cons p l ih=>
  rw[lh,nodup_cons]at nd;rcases mem_cons.mp h with e|e
  ·subst e;simp
  ·have ne:¬ p.1.2=q.1.2:=fun z=>nd.1 (by rw[z];exact List.mem_map_of_mem (f:=fun q:(Addr×Addr)×Array bn=>q.1.2) e);rw[List.find?_cons_of_neg (by simpa using ne)];exact ih nd.2 e
theorem tE(nd:(tabsG.map fun q=>q.1.2).Nodup){q:(Addr×Addr)×Array bn}(h:q∈tabsG):b8 q.1.2=some (.tbl q.2):=by
 unfold b8;rw[By nd h];rfl
structure TabsOk(K:cu)(h:Heap):Prop where
 nd:(tabsG.map fun q=>q.1.2).Nodup
 hd:∀q∈tabsG,W.CodeHd h q.1.1 q.1.2
 empty:∀q∈tabsG,h.get? q.1.2=some (W.tabObj #[])
 off:∀q∈tabsG,K.lookup q.1.2=none
theorem TabsOk.none{K:cu}{h:Heap}(e:tabsG=[]):TabsOk K h:=⟨by rw[e];exact nodup_nil,fun q z=>absurd z (by rw[e];simp),fun q z=>absurd z (by rw[e];simp),fun q z=>absurd z (by rw[e];simp)⟩
theorem Cv{P:fe}{w:ft}{K:cu}{mg mb:Str->Option bn}{CX:CXT}{k:Nat}{fa a:Addr}{fd:mo}{x:Str}{sp:Sp}{s₁:bp}{vs:List bn}{ns:List Int}
  (KX:K.In s₁.heap) (TT:TabsOk K s₁.heap) (hbm:BltAt s₁.heap mg) (hns:s₁.heap.Ns kv mg) (hb:s₁.heap.Ns builtinsNs mb) (hbb:∀x:Str,x ≠ "__name__"->mb x=gg x) (hlim:s₁.heap.NoLimit) (hg:s₁.gens = #[])
  (ha:s₁.heap.get? a=some { cls:=.type "list",data:=.seq vs.toArray }) (hi:nz vs ns) (hl:ns.length<=dw) (hr:Room k callerA)
  (F:∀base:Heap,K.In base->base.Ns kv mg->FnOk P w K mg base CX k fa fd [x] sp) (hbind:∀(s:bp) (u:bn),BindsTo s fd ⟨[u],[]⟩ [(x,u)])
  (hsp:∀H:Hp,Only H->SqL K H a (ns.map V.int)->sp [.ref a] H (fun v _=>v=.bl true) fun _ _ _=>False)
  (hCX:∀H e s',CX [] H s₁ (fun _ _ _=>False) e s'->False):
  ow (model P w) callerA (.call (.ref fa) ⟨[.ref a],[]⟩) (fun r s'=>r=.ok (.ret (.bool true))/\OldK s₁.heap s'.heap/\s'.os=s₁.os/\AllBare s'.gens) s₁:=by
 have rv:=yP hi;have ai:=hi.length
 have af:∀H:Hp,Only H->SqL K H a (ns.map V.int)->HOk P w H s₁.heap->(∀b,H b≠none->b=a\/∃q∈tabsG,q.1.2=b)->(H a≠none->K.lookup a=none)->(∀q∈tabsG,H q.1.2=some (.tbl q.2)) ->
   ow (model P w) callerA (.call (.ref fa) ⟨[.ref a],[]⟩) (fun r s'=>r=.ok (.ret (.bool true))/\OldK s₁.heap s'.heap/\s'.os=s₁.os/\AllBare s'.gens) s₁:=by
  intro H hO hS hok hA hK ag;have ah:∀{b:Addr}{o:Obj},s₁.heap.get? b=some o->o.cls≠.type "list"->o.cls≠.none->H b=none:=fun {b o} e c1 c2=>by
   cases q:H b with
   |none=>rfl
   |some u=>
    rcases hA b (by rw[q];simp)with e'|⟨r,aa,e'⟩
    ·subst e';rw[ha]at e;cases e;exact absurd rfl c1
    ·have:=TT.empty r aa;rw[e',e]at this;cases this;exact absurd rfl c2
  have ab:∀{b:Addr}{o:Obj},s₁.heap.get? b=some o->H b=none->(d9 s₁.heap H).get? b=some o:=fun e n=>Cg e n;have am:∀{b:Addr}{o:Obj}{es:Array DictEntry}{ep:Nat},s₁.heap.get? b=some o->o.data=.dict es ep->H b=none:=fun {b o es ep} e d=>by
   cases q:H b with
   |none=>rfl
   |some u=>
    rcases hA b (by rw[q];simp)with e'|⟨r,aa,e'⟩
    ·subst e';rw[ha]at e;cases e;have d':Data.seq vs.toArray _=Data.dict es ep:=d;cases d'
    ·have:=TT.empty r aa;rw[e',e]at this;cases this;cases d
  have ac:∀{b:Addr}{m:Str->Option bn},s₁.heap.Ns b m->(d9 s₁.heap H).Ns b m:=fun {b m} ⟨o,es,ep,e,d,r⟩=>⟨o,es,ep,ab e (am e d),d,r⟩;have ak:K.In (d9 s₁.heap H):=fun b o e=>ab (KX b o e) (by
   cases q:H b with
   |none=>rfl
   |some u=>
    rcases hA b (by rw[q];simp)with e'|⟨r,aa,e'⟩
    ·subst e';rw[hK (by rw[q];simp)]at e;cases e
    ·rw[<- e',TT.off r aa]at e;cases e)
  have hM:Mod K mg (d9 s₁.heap H):=⟨ak,ac hns,⟨mb,ac hb,hbb⟩,let ⟨mc,h1,h2⟩:=hlim;⟨mc,ac h1,h2⟩,
   let ⟨bm,ob,b1,b2,b3,b4,b5⟩:=hbm;⟨bm,ob,b1,b2,ab b3 (ah b3 (by rw[b4];decide) (by rw[b4];decide)),b4,b5⟩,
   fun q hq=>let ⟨o,vs,file,tf,flags,tg,inF,text,tt,e1,c1,r⟩:=TT.hd q hq;⟨o,vs,file,tf,flags,tg,inF,text,tt,ab e1 (ah e1 (by rw[c1];decide) (by rw[c1];decide)),c1,r⟩⟩
  have e0:Env0 P w K mg (d9 s₁.heap H) callerA [] s₁ H:=⟨rfl,hM,fun b o e=>Ef e,le_of_eq (Du _ _),trivial,⟨fun b hb=>absurd (show b∈([]:List Addr)from hb) yv,ag⟩,hok,.of_eq hg⟩;refine codeAny_mono ((F _ ak (ac hns)).run callerA [] s₁ H ⟨[.ref a],[]⟩ [.ref a] [.ref a] _ _ hr e0 (hbind s₁ (.ref a)) (.cons rfl .nil) (hsp H hO hS)) fun r s' h=>?_;cases r with
  |error e=>exact(hCX H e s' h).elim
  |ok fl=>
   cases fl with
   |next=>exact lu h
   |brk=>exact lu h
   |cont=>exact lu h
   |ret u=>
    obtain⟨v,H',os,bare,un,ae,r',q⟩:=h;have q':v=.bl true:=q;subst q';obtain rfl:u=iu true:=r';have all:∀b o,s₁.heap.get? b=some o->s'.heap.get? b=some o\/∃q∈tabsG,q.1.2=b/\o=W.tabObj #[]/\∃ps,s'.heap.get? b=some (W.tabObj ps):=fun b o e=>by
     cases q:H b with
     |none=>exact .inl (un.keep b o e q (by intro z;exact absurd (show b∈([]:List Addr)from z) yv) yv)
     |some u=>
      rcases hO b with z|⟨ob,xs,z⟩|⟨r,aa,e',z⟩
      ·rw[q]at z;cases z
      ·have z2:=un.frzs b ob _ z;obtain⟨e1,_⟩:=hok b _ z;obtain⟨e2,_⟩:=ae b _ z2;rw[e]at e1;cases e1;exact .inl e2
      ·obtain⟨qs,e2,_⟩:=ae b _ (un.tbls b _ z);have:=TT.empty r aa;rw[e',e]at this;cases this;exact .inr ⟨r,aa,e',rfl,qs,e2⟩
    refine⟨rfl,⟨fun b o e=>?_,fun b o e=>?_⟩,os,bare⟩
    ·rcases all b o e with z|⟨r,aa,rfl,rfl,ps,z⟩
     ·exact .inl z
     ·exact .inr (.inl ⟨((TT.hd r aa).tab (TT.empty r aa)).isCodeTable,rfl,#[],ps,rfl,by rw[Array.empty_append];exact z⟩)
    ·rcases all b o e with z|⟨r,aa,rfl,rfl,ps,z⟩
     ·exact⟨o,z⟩
     ·exact⟨_,z⟩
 have al:∀q∈tabsG,q.1.2≠a:=fun q hq z=>by
  have:=TT.empty q hq;rw[z,ha]at this;cases this
 have aj:∀(H:Hp) (b:Addr) (u:HO),b8 b=some u->ObjOk P w H s₁.heap b u:=fun H b u z=>by
  obtain⟨q,hq,rfl,rfl⟩:=iG z;exact⟨#[],TT.empty q hq,.inl rfl⟩
 cases hk:K.lookup a with
 |some o=>
  have e:=KX a o hk;rw[ha]at e;cases e;refine af b8 (fun b=>?_) (.inr ⟨_,vs.toArray,_,hk,rfl,rfl,rfl,by rw[cy,ai];exact hl,by simpa using rv⟩) (aj b8) (fun b z=>?_) (fun z=>?_) fun q hq=>tE TT.nd hq
  ·cases q:b8 b with
   |none=>exact .inl rfl
   |some u=>obtain⟨r,aa,e',rfl⟩:=iG q;exact .inr (.inr ⟨r,aa,e',rfl⟩)
  ·cases q:b8 b with
   |none=>exact absurd q z
   |some u=>obtain⟨r,aa,e',_⟩:=iG q;exact .inr ⟨r,aa,e'⟩
  ·cases q:b8 a with
   |none=>exact absurd q z
   |some u=>obtain⟨r,aa,e',_⟩:=iG q;exact absurd e' (al r aa)
 |none=>
  refine af (fun b=>if b=a then some (.frz { cls:=.type "list",data:=.seq vs.toArray } (.lst (ns.map V.int)))else b8 b) (fun b=>?_) (.inl (.inr ⟨{ cls:=.type "list",data:=.seq vs.toArray },cf rfl⟩)) (fun b u z=>?_) (fun b z=>?_) (fun _=>hk) fun q hq=>(cb (al q hq)).trans (tE TT.nd hq)
  ·by_cases hb:b=a
   ·exact .inr (.inl ⟨_,_,cf hb⟩)
   ·cases q:b8 b with
    |none=>exact .inl ((cb hb).trans q)
    |some u=>obtain⟨r,aa,e',rfl⟩:=iG q;exact .inr (.inr ⟨r,aa,e',(cb hb).trans q⟩)
  ·by_cases hb:b=a
   ·have z':=(cf hb).symm.trans z;cases z';subst hb;exact⟨ha,by rw[dj];exact hl,vs,_,rv,ha⟩
   ·have z':=(cb hb).symm.trans z;exact aj _ b u z'
  ·by_cases hb:b=a
   ·exact .inl hb
   ·cases q:b8 b with
    |none=>exact absurd ((cb hb).trans q) z
    |some u=>obtain⟨r,aa,e',_⟩:=iG q;exact .inr ⟨r,aa,e'⟩
end
section
abbrev KOf {K:cu}{h:Heap} (_:K.In h):cu:=K
theorem walk_of{l:W.OpenLaw}{n k:Nat}{q:fe}{aa:List Str}{XP:(Str->Option bn)->Heap->Prop}{YP:ft->Heap->Prop}{d:DefRec}{K:Params->cu}{CX:ft->CXT}{sp:ft->Sp}{x:Str}
  (hn:l.most=some n) (hn2:n<=dw) (hdf:d.params.defaults=[]) (hr:Room k callerA)
  (hY:∀(w:ft) (h:Heap),YP w h->(K w.params).In h)
  (hT:∀(w:ft) (h:Heap),YP w h->TabsOk (K w.params) h)
  (F:∀(w:ft) (mg:Str->Option bn) (fa:Addr) (h:Heap),(K w.params).In h->h.Ns kv mg->mg d.name=some (.ref fa) ->
   ∃fd:mo,(∀(s:bp) (u:bn),BindsTo s fd ⟨[u],[]⟩ [(x,u)]) /\
    ∀base:Heap,(K w.params).In base->base.Ns kv mg->FnOk l.prog w (K w.params) mg base (CX w) k fa fd [x] (sp w))
  (hsp:∀(w:ft) (H:Hp) (a:Addr) (ns:List Int),ns.length<=n->Only H->SqL (K w.params) H a (ns.map V.int)->sp w [.ref a] H (fun v _=>v=.bl true) fun _ _ _=>False)
  (hCX:∀(w:ft) (H:Hp) (s:bp) (e:bn) (s':bp),CX w [] H s (fun _ _ _=>False) e s'->False):
  W.WalkO q aa XP YP l.row.toRowW d [] (fun f vs=>PySem.call f vs):=by
 refine Att.attach_call hn hdf fun w s₀ s₁ mg mb fa o pm cd af a vs ns G Y ho hd ag ae ac ab z hg=>?_;have KX:=hY w _ Y;obtain⟨fd,hb,hF⟩:=F w mg fa _ KX G.T.g ae;exact Cv KX (hT w _ Y) (let ⟨bm,ob,a1,a2,a3,a4,a5,a6⟩:=G.T.bmain;⟨bm,ob,a1,a2,a3,a4,a5,a6⟩) G.T.g G.T.b G.T.builtins G.T.nolimit hg ac ab (gq z hn2) hr hF hb (fun H hO hS=>hsp w H a ns z hO hS) fun H e s'=>hCX w H s₁ e s'
end
section
def gB(s:Stmt):Arguments:=match s with
 | .FunctionDef _ a _ _ _ _ _ _ _ _=>a
 |_=>{ posonlyargs:=[],args:=[],vararg:=none,kwonlyargs:=[],kw_defaults:=[],kwarg:=none,defaults:=[] }
def cD(s:Stmt):List Stmt:=match s with
 | .FunctionDef _ _ b _ _ _ _ _ _ _=>b
 |_=>[]
def zh(s:Stmt):Scope:=match s with
 | .FunctionDef _ _ _ _ _ _ sc _ _ _=>sc
 |_=>{ kind:=.function,names:=[],isGenerator:=false,isCoroutine:=false }
abbrev CX0:CXT:=fun _ _ _ _ _ _=>False
abbrev E0:XK:=fun _ _ _=>False
theorem pass0{X:Cx}:Passes CX0 X E0:=fun _ _ _ _ _ _ _ h=>h.elim
structure Fun(K:cu)(x qual:Str)(st:Stmt)(f:Addr)(fd:mo):Prop where
 ex:∃(oc:bn) (od:Option Addr) (kV doc pm:bn) (an:Option Addr) (cdv ct:bn) (osl:Array (Option bn)),
  fd=W.fnOf x qual (gB st) (cD st) (zh st) .none kV doc pm an cdv ct/\K.lookup f=some ⟨oc,od,.func fd,osl⟩/\W.codeIn K cdv qual=true
 kp:W.keepIn K (.ref f)=true
section
variable {P:fe}{w:ft}{K:cu}{mg:Str->Option bn}{base:Heap}
theorem Fun.ok{x z:Str}{st:Stmt}{f:Addr}{fd:mo}{N ps:List Str}{k:Nat}{sp:Sp}(F:Fun K x z st f fd)(S:FnScope N ps (zh st))(len:∀vs H Q E,sp vs H Q E->vs.length=ps.length)
  (hbody:∀(aa:bn) (A:fq) (outer:List Env) (s:bp) (H:Hp) (vs:List V) (Q:VK) (E:XK),Room k (A.deeper (envOfC z (zh st) s.heap.objs.size f aa))->sp vs H Q E ->
   ∃t,PSs (dR CX0 P w K mg base N z (zh st) f aa A outer s H E).nox (cD st) t/\t { nx:=fun _ H'=>Q .non H',rt:=Q } (start N vs) H):FnOk P w K mg base CX0 (k+1) f fd ps sp:=by
 obtain⟨oc,od,kV,ae,pm,an,aa,ct,af,rfl,lk,ab⟩:=F.ex;refine FX lk ab S len fun A outer s H vs Q E hr ac=>?_;obtain⟨t,h,q⟩:=hbody aa A outer s H vs Q E hr ac;exact⟨t,h.nox,q⟩
theorem Fun.binds{x q:Str}{st:Stmt}{f:Addr}{fd:mo}{ps:List Str}(F:Fun K x q st f fd)
  (h:∀(kV z pm:bn) (an:Option Addr) (aa ct:bn) (us:List bn),us.length=ps.length->bindArgs (W.fnOf x q (gB st) (cD st) (zh st) .none kV z pm an aa ct) ⟨us,[]⟩=pure (ps.zip us)):Binds K fd ps []:=by
 obtain⟨oc,od,kV,z,pm,an,aa,ct,ac,rfl,lk,ab⟩:=F.ex;exact .all (h kV z pm an aa ct)
theorem AX{x q:Str}{st:Stmt}{f:Addr}{oc:bn}{od an:Option Addr}{ab:Array (Option bn)}{kV aa pm z ct:bn}(l:K.lookup f=some ⟨oc,od,.func (W.fnOf x q (gB st) (cD st) (zh st) .none kV aa pm an z ct),ab⟩)
  (c:W.codeIn K z q=true) (k:W.keepIn K (.ref f)=true):Fun K x q st f (W.fnOf x q (gB st) (cD st) (zh st) .none kV aa pm an z ct):=⟨⟨oc,od,kV,aa,pm,an,z,ct,ab,rfl,l,c⟩,k⟩
end
theorem small1000{n:Nat}(h:n<=1000):n<dw:=Nat.lt_of_le_of_lt h dz
section
variable {X:Cx}
theorem pv(i:Nat){x:Str}{pos:Pos}(hN:X.N[i]?=some x:=by rfl)(hv:Vis X.env.scope x:=by first|exact jd rfl|exact Or.inr (jd rfl)|exact Or.inr (Or.inr rfl))(hd:(x==("__debug__":Str))=false:=by decide)
  (hcd:(x==("__classdict__":Str))=false:=by decide):PE X (.Name x pos) (eG i):=E8 hN hv hd hcd
end
theorem e7{A B:Prop}(h:B):if false=true then A else B:=by
 rw[cb ge];exact h
theorem eT{A B:Prop}(h:A):if true=true then A else B:=by
 rw[cf rfl];exact h
theorem ite2{c A B:Prop}[Decidable c](h1:c->A)(h2:¬ c->B):if c then A else B:=by
 by_cases h:c
 ·rw[cf h];exact h1 h
 ·rw[cb h];exact h2 h
def Same(H H':Hp):Prop:=∀b o,H b=some o->H' b=some o
theorem Same.refl(H:Hp):Same H H:=fun _ _ h=>h
theorem Same.trans{H H1 H2:Hp}(a:Same H H1)(b:Same H1 H2):Same H H2:=fun c o h=>b c o (a c o h)
theorem Same.seq{K:cu}{H H':Hp}{a:Addr}{xs:List V}(e:Same H H')(h:SqL K H a xs):SqL K H' a xs:=by
 rcases h with (h|⟨o,h⟩)|h
 ·exact .inl (.inl (e _ _ h))
 ·exact .inl (.inr ⟨o,e _ _ h⟩)
 ·exact .inr h
end
section
section
variable {X:Cx}
def CDivX(i j:Int):Prop:=0<j/\j.natAbs.log2<9000
theorem DK:OpR X (jq .FloorDiv) (rI CDivX fun i j=>.int (i/j)):=opI fun i j _ _ _ _ _ hc q=>by
 have h1:(0:Int)<j:=hc.1;exact floordiv_int yw (by rw[Int.fdiv_eq_ediv_of_nonneg i yw];exact q) (.inl (PyProof.noPylong_of_log2 hc.2))
theorem Bk:OpR X (jq .Mult) (rI IntMulOk fun i j=>.int (i*j)):=opI fun _ _ _ _ _ _ _ hc q=>mul_int q hc
theorem yE{k:Int}{n:Nat}(h:k.natAbs<2 ^ n):Builtin.Int.intBits k<=n:=by
 unfold Builtin.Int.intBits;split
 ·exact jo _
 ·rename_i h0;have hk:k.natAbs≠0:=by
   intro z;apply h0;rw[Int.natAbs_eq_zero.mp z];rfl
  have:=(Nat.log2_lt hk).mpr h;omega
theorem EI{i j:Int}(n m:Nat)(hi:i.natAbs<2 ^ n)(hj:j.natAbs<2 ^ m)(hn:n<=2 ^ 20:=by decide)(hm:m<=2 ^ 20:=by decide):IntMulOk i j:=
 .of_bits (gq (yE hi) hn) (gq (yE hj) hm)
theorem eC{i j:Int}(h1:-(2 ^ 64)<i)(h2:i<2 ^ 64):IntMulOk i j:=.of_left (intBits_le_64 h1 h2)
theorem hE{n:Int}{k:Nat}(h0:0<n)(h:n<2 ^ k):n.natAbs.log2<k:=by
 refine(Nat.log2_lt yw).mpr ?_;have e:((2 ^ k:Nat):Int)=(2:Int) ^ k:=by simp
 omega
end
def kD:Key->bo
 | .inl i=>.int i
 | .inr x=>.str x
def DOf(H:Hp)(a:Addr)(ks:List bo)(vs:List V):Prop:=
 (∃(ob:Obj) (m:List (Key×V)),H a=some (.frz ob (.dK m))/\ks=m.map (fun p=>kD p.1)/\vs=m.map (·.2)) \/
 ∃(ob:Obj) (p:List Key×V) (m:List (List Key×V)),H a=some (.frz ob (.dT (p::m)))/\ks=(p::m).map (fun p=>.tuple (p.1.map kD))/\vs=(p::m).map (·.2)
mutual
def Has(H:Hp):bo->V->Prop
 | .none,v=>v=.non
 | .bool b,v=>v=.bl b
 | .int i,v=>v=.int i
 | .str x,v=>v=.str x
 | .list ds,v=>∃a vs,v=.ref a/\H a=some (.lst vs)/\HasL H ds vs
 | .tuple ds,v=>∃a vs,v=.ref a/\H a=some (.tup vs)/\HasL H ds vs
 | .dict kvs,v=>∃a vs,v=.ref a/\DOf H a (kvs.map (·.1)) vs/\HasV H kvs vs
def HasL(H:Hp):List bo->List V->Prop
 | [],vs=>vs=[]
 |d::ds,vs=>∃v r,vs=v::r/\Has H d v/\HasL H ds r
def HasV(H:Hp):List (bo×bo)->List V->Prop
 | [],vs=>vs=[]
 |p::ps,vs=>∃v r,vs=v::r/\HasP H p v/\HasV H ps r
def HasP(H:Hp):bo×bo->V->Prop
 | (_,d),v=>Has H d v
end
mutual
theorem Has.mono{H H':Hp}(s:Same H H'):∀(d:bo) (v:V),Has H d v->Has H' d v
 | .none,_,h=>by simp only[Has]at h ⊢;exact h
 | .bool _,_,h=>by simp only[Has]at h ⊢;exact h
 | .int _,_,h=>by simp only[Has]at h ⊢;exact h
 | .str _,_,h=>by simp only[Has]at h ⊢;exact h
 | .list ds,v,h=>by
  simp only[Has]at h ⊢;obtain⟨a,vs,e,q,l⟩:=h;exact⟨a,vs,e,s _ _ q,HasL.mono s ds vs l⟩
 | .tuple ds,v,h=>by
  simp only[Has]at h ⊢;obtain⟨a,vs,e,q,l⟩:=h;exact⟨a,vs,e,s _ _ q,HasL.mono s ds vs l⟩
 | .dict kvs,v,h=>by
  simp only[Has]at h ⊢;obtain⟨a,vs,e,q,l⟩:=h;refine⟨a,vs,e,?_,HasV.mono s kvs vs l⟩;rcases q with ⟨ob,m,e1,e2⟩|⟨ob,p,m,e1,e2⟩
  ·exact .inl ⟨ob,m,s _ _ e1,e2⟩
  ·exact .inr ⟨ob,p,m,s _ _ e1,e2⟩
theorem HasL.mono{H H':Hp}(s:Same H H'):∀(ds:List bo) (vs:List V),HasL H ds vs->HasL H' ds vs
 | [],_,h=>by simp only[HasL]at h ⊢;exact h
 |d::ds,vs,h=>by
  simp only[HasL]at h ⊢;obtain⟨v,r,e,q,l⟩:=h;exact⟨v,r,e,Has.mono s d v q,HasL.mono s ds r l⟩
theorem HasV.mono{H H':Hp}(s:Same H H'):∀(ds:List (bo×bo)) (vs:List V),HasV H ds vs->HasV H' ds vs
 | [],_,h=>by simp only[HasV]at h ⊢;exact h
 |d::ds,vs,h=>by
  simp only[HasV]at h ⊢;obtain⟨v,r,e,q,l⟩:=h;exact⟨v,r,e,HasP.mono s d v q,HasV.mono s ds r l⟩
theorem HasP.mono{H H':Hp}(s:Same H H'):∀(p:bo×bo) (v:V),HasP H p v->HasP H' p v
 | (_,d),v,h=>by
  simp only[HasP]at h ⊢;exact Has.mono s d v h
end
section
variable {H:Hp}{v:V}
theorem hG:Has H .none v↔v=.non:=by simp only[Has]
theorem eH{b:Bool}:Has H (.bool b) v↔v=.bl b:=by simp only[Has]
theorem fA{i:Int}:Has H (.int i) v↔v=.int i:=by simp only[Has]
theorem fK{x:Str}:Has H (.str x) v↔v=.str x:=by simp only[Has]
theorem cB{ds:List bo}:Has H (.list ds) v↔∃a vs,v=.ref a/\H a=some (.lst vs)/\HasL H ds vs:=by simp only[Has]
theorem cN{ds:List bo}:Has H (.tuple ds) v↔∃a vs,v=.ref a/\H a=some (.tup vs)/\HasL H ds vs:=by simp only[Has]
theorem EY{q:List (bo×bo)}:Has H (.dict q) v↔∃a vs,v=.ref a/\DOf H a (q.map (·.1)) vs/\HasV H q vs:=by simp only[Has]
theorem zp{vs:List V}:HasL H [] vs↔vs=[]:=by simp only[HasL]
theorem zm{d:bo}{ds:List bo}{vs:List V}:HasL H (d::ds) vs↔∃v r,vs=v::r/\Has H d v/\HasL H ds r:=by simp only[HasL]
theorem HasL.length:∀{ds:List bo}{vs:List V},HasL H ds vs->vs.length=ds.length
 | [],_,h=>by rw[zp.mp h];rfl
 |d::ds,vs,h=>by
  obtain⟨v,r,e,_,l⟩:=zm.mp h;rw[e,fj,fj,HasL.length l]
theorem HasL.get:∀{ds:List bo}{vs:List V}{i:Nat}{d:bo},HasL H ds vs->ds[i]?=some d->∃v,vs[i]?=some v/\Has H d v
 | [],_,_,_,_,e=>by simp at e
 |c::ds,vs,0,d,h,e=>by
  obtain⟨v,r,rfl,q,_⟩:=zm.mp h;simp at e;subst e;exact⟨v,rfl,q⟩
 |c::ds,vs,i+1,d,h,e=>by
  obtain⟨v,r,rfl,_,l⟩:=zm.mp h;obtain⟨u,e1,e2⟩:=HasL.get (i:=i) (d:=d) l (by simpa using e);exact⟨u,by simpa using e1,e2⟩
theorem HasL.append:∀{ds es:List bo}{vs us:List V},HasL H ds vs->HasL H es us->HasL H (ds++es) (vs++us)
 | [],es,vs,us,h,h'=>by rw[zp.mp h];exact h'
 |d::ds,es,vs,us,h,h'=>by
  obtain⟨v,r,rfl,q,l⟩:=zm.mp h;exact zm.mpr ⟨v,r++us,rfl,q,HasL.append l h'⟩
end
def tyD:bo->String
 | .none=>"NoneType" | .bool _=>"bool" | .int _=>"int" | .str _=>"str" | .list _=>"list" | .tuple _=>"tuple" | .dict _=>"dict"
theorem Has.ty{K:cu}{H:Hp}{d:bo}{v:V}(h:Has H d v):TyOf K H v (.type (tyD d)):=by
 cases d with
 |none=>rw[hG.mp h];exact .non
 |bool b=>rw[eH.mp h];exact .bl b
 |int i=>rw[fA.mp h];exact .int i
 |str x=>rw[fK.mp h];exact .str x
 |list ds=>obtain⟨a,vs,rfl,e,_⟩:=cB.mp h;exact .lst e
 |tuple ds=>obtain⟨a,vs,rfl,e,_⟩:=cN.mp h;exact .tup e
 |dict kvs=>
  obtain⟨a,vs,rfl,e,_⟩:=EY.mp h;rcases e with ⟨ob,m,e,_⟩|⟨ob,p,m,e,_⟩
  ·exact .dK (.inr ⟨ob,e⟩)
  ·exact .dT (.inr ⟨ob,e⟩)
def n9:List String:=["NoneType","bool","int","str","list","tuple","dict"]
def eA:List String:=["int","bool","str","list","tuple","dict"]
def cU(t c:String):Bool:=t==c||(t == "bool" && c == "int")
def fW(d:bo)(c:String):Bool:=cU (tyD d) c
theorem BU(d:bo):tyD d∈n9:=by cases d<;>simp[tyD,n9]
theorem CF(K:cu){t c:String}(ht:t∈n9)(hc:c∈eA):W.kitOne K (.type t) (.type c)=some (cU t c):=by
 simp only[n9,eA,ji,ie,or_false]at ht hc;rcases ht with rfl|rfl|rfl|rfl|rfl|rfl|rfl<;>rcases hc with rfl|rfl|rfl|rfl|rfl|rfl<;>rfl
def qW:List V->Hp->VK->Prop
 | [x,.ty c],H,Q=>∃d,Has H d x/\c∈eA/\Q (.bl (fW d c)) H
 |_,_,_=>False
theorem A3{H:Hp}{d:bo}{x:V}{c:String}{Q:VK}(h:Has H d x)(hc:c∈eA)(q:Q (.bl (fW d c)) H):qW [x,.ty c] H Q:=⟨d,h,hc,q⟩
section
variable {X:Cx}
theorem nG:CallR X (.builtin "isinstance") qW:=by
 intro ze s σ H xs us Q I r h
 match xs,h with
 | [x,.ty c],h=>
  obtain⟨d,hx,hc,q⟩:=h;obtain⟨u,w',rfl,ru,z⟩:=vals2 r;cases (show w'=pf c from z);exact DP I ru hx.ty (CF X.K (BU d) hc) fun tk=>⟨.bl _,H,I.tok tk,rfl,q⟩
end
def sp1(p:V->Hp->VK->Prop):Sp:=fun vs H Q _=>match vs with | [x]=>p x H Q|_=>False
def sp2(p:V->V->Hp->VK->Prop):Sp:=fun vs H Q _=>match vs with | [x,y]=>p x y H Q|_=>False
theorem tW{p:V->Hp->VK->Prop}:∀(vs:List V) (H:Hp) (Q:VK) (E:XK),sp1 p vs H Q E->∃x,vs=[x]/\p x H Q:=by
 intro vs H Q E h
 match vs,h with
 | [x],h=>exact⟨x,rfl,h⟩
theorem vL{p:V->V->Hp->VK->Prop}:∀(vs:List V) (H:Hp) (Q:VK) (E:XK),sp2 p vs H Q E->∃x y,vs=[x,y]/\p x y H Q:=by
 intro vs H Q E h
 match vs,h with
 | [x,y],h=>exact⟨x,y,rfl,h⟩
structure Dd(K:cu)(mg:Str->Option bn)(x:Str)(st:Stmt)(ps:List Str):Prop where
 ex:∃f fd,Fun K x x st f fd/\mg x=some (.ref f)/\Binds K fd ps []
structure Df(P:fe)(w:ft)(K:cu)(mg:Str->Option bn)(base:Heap)(x:Str)(ps:List Str)(k:Nat)(sp:Sp):Prop where
 ex:∃f fd,FnOk P w K mg base CX0 k f fd ps sp/\mg x=some (.ref f)/\W.keepIn K (.ref f)=true/\Binds K fd ps []
section
variable {P:fe}{w:ft}{K:cu}{mg:Str->Option bn}{base:Heap}{x a b c d e:Str}{st:Stmt}{N:List Str}{k:Nat}
theorem Df.of{ps:List Str}{sp:Sp}(D:Dd K mg x st ps)(S:FnScope N ps (zh st))(len:∀vs H Q E,sp vs H Q E->vs.length=ps.length)
  (hbody:∀(f:Addr) (cdv:bn) (A:fq) (outer:List Env) (s:bp) (H:Hp) (vs:List V) (Q:VK) (E:XK),Room k (A.deeper (envOfC x (zh st) s.heap.objs.size f cdv))->sp vs H Q E ->
   ∃t,PSs (dR CX0 P w K mg base N x (zh st) f cdv A outer s H E).nox (cD st) t/\t { nx:=fun _ H'=>Q .non H',rt:=Q } (start N vs) H):Df P w K mg base x ps (k+1) sp:=by
 obtain⟨f,fd,F,hm,hb⟩:=D.ex;exact⟨f,fd,F.ok S len (hbody f),hm,F.kp,hb⟩
theorem Df.of2{p:V->V->Hp->VK->Prop}(D:Dd K mg x st [a,b])(S:FnScope N [a,b] (zh st))(σ0:V->V->St)(hs:∀v u,start N [v,u]=σ0 v u)
  (hbody:∀(f:Addr) (q:bn) (A:fq) (outer:List Env) (s:bp) (H:Hp) (v u:V) (Q:VK) (E:XK),Room k (A.deeper (envOfC x (zh st) s.heap.objs.size f q))->p v u H Q ->
   ∃t,PSs (dR CX0 P w K mg base N x (zh st) f q A outer s H E).nox (cD st) t/\t { nx:=fun _ H'=>Q .non H',rt:=Q } (σ0 v u) H):Df P w K mg base x [a,b] (k+1) (sp2 p):=by
 refine Df.of D S (fun vs H Q E h=>?_) fun f q A outer s H vs Q E hr h=>?_
 ·obtain⟨x,y,rfl,_⟩:=vL vs H Q E h;rfl
 ·obtain⟨x,y,rfl,h⟩:=vL vs H Q E h;rw[hs];exact hbody f q A outer s H x y Q E hr h
end
def tC2(p:V->V->Hp->VK->Prop)(ta tb:TE):TE:=fun σ H Q=>ta σ H fun x H1=>tb σ H1 fun y H2=>p x y H2 Q
section
variable {X:Cx}{x a b c d e':Str}{k j:Nat}{pos pos':Pos}{e1 e2 e3 e4 e5:Expr}{t1 t2 t3 t4 t5:TE}
theorem B6{p:V->V->Hp->VK->Prop}(D:Df X.prog X.w X.K X.mg X.base x [a,b] k (sp2 p))(hr:Room j X.A)(hk:k<=j)(h1:PE X e1 t1)(h2:PE X e2 t2)(hg:Gl X x:=by rfl)(q:(x==("__debug__":Str))=false:=by decide)
  (q1:fi [e1,e2] X.env=(false,eval e1 X.env)::fi [e2] X.env:=by rfl) (q2:fi [e2] X.env=(false,eval e2 X.env)::fi [] X.env:=by rfl)
  (hpl:(on pos (fi [e2] X.env)).any (·.1)=false:=by rfl):PE X (.Call (.Name x pos') [e1,e2] [] pos) (tC2 p t1 t2):=by
 obtain⟨f,fd,F,hm,kp,hb⟩:=D.ex;intro ze s σ H Q I h;exact sZ (dvs:=[]) (ds:=[]) (E:=E0) F (hr.mono hk) hg hm kp hb .nil pass0 (za h1 (za h2 zd q2) q1) q q1 hpl ze s σ H Q I h
end
theorem Dd.mk'{K:cu}{h:Heap}{mg:Str->Option bn}(X:K.In h)(G:h.Ns kv mg){x:Str}{st:Stmt}{ps:List Str}{f:Addr}{oc:bn}{od an:Option Addr}{aa:Array (Option bn)}{kV z pm q ct:bn}
  (a:W.nsIn K kv x=some (some (.ref f))) (l:K.lookup f=some ⟨oc,od,.func (W.fnOf x x (gB st) (cD st) (zh st) .none kV z pm an q ct),aa⟩)
  (c:W.codeIn K q x=true) (k:W.keepIn K (.ref f)=true)
  (hb:∀(kV z pm:bn) (an:Option Addr) (q ct:bn) (us:List bn),us.length=ps.length->bindArgs (W.fnOf x x (gB st) (cD st) (zh st) .none kV z pm an q ct) ⟨us,[]⟩=pure (ps.zip us)):Dd K mg x st ps:=
 ⟨f,_,AX (st:=st) l c k,W.mg_of X G a,(AX (st:=st) l c k).binds hb⟩
theorem b6:gg "len" = some (.builtin "len"):=by decide +kernel
theorem nU:gg "isinstance" = some (.builtin "isinstance"):=by decide +kernel
theorem oD:gg "max" = some (.builtin "max"):=by decide +kernel
theorem E3:gg "min" = some (.builtin "min"):=by decide +kernel
theorem pC:gg "int" = some (.type "int"):=by decide +kernel
theorem BB:gg "bool" = some (.type "bool"):=by decide +kernel
theorem A6:gg "list" = some (.type "list"):=by decide +kernel
theorem nY:gg "tuple" = some (.type "tuple"):=by decide +kernel
section
variable {H:Hp}{Q:VK}
theorem EC{i:Nat}{σ:St}:eG i σ H Q↔match σ[i]? with|some (some v)=>Q v H|_=>False:=by
 unfold eG;constructor
 ·rintro⟨v,e,q⟩;rw[e];exact q
 ·intro h;split at h
  ·rename_i v e;exact⟨v,e,h⟩
  ·exact h.elim
theorem xY{g:Int->Int->V}{i j:Int}:rI0 g (.int i) (.int j) H Q↔Q (g i j) H:=
 ⟨fun⟨_,_,e1,e2,q⟩=>by cases e1;cases e2;exact q,fun q=>⟨i,j,rfl,rfl,q⟩⟩
theorem El{p:Bool->Prop}{b:Bool}:(∃c,V.bl b=V.bl c/\p c)↔p b:=⟨fun⟨_,e,q⟩=>by cases e;exact q,fun q=>⟨b,rfl,q⟩⟩
end
section
variable {K:cu}{H:Hp}{Q:VK}{x y:V}{d:bo}{ds:List bo}
def rK(K:cu):List V->Hp->VK->Prop:=fun xs H Q=>∃p ys,xs=[.ref p]/\(SqL K H p ys\/SqT K H p ys)/\Q (.int ys.length) H
end
section
variable {X:Cx}
theorem D7:CallR X (.builtin "len") (rK X.K):=tM
end
def hid(a:Addr)(H:Hp):Hp:=fun b=>if b=a then none else H b
theorem F6{a b:Addr}{H:Hp}(h:b≠a):hid a H b=H b:=cb h
theorem EK{a:Addr}{H:Hp}:hid a H a=none:=cf rfl
theorem Same.laid{H:Hp}{p:Addr}{o:HO}(h:H p=none):Same H (upd H p o):=fun b u e=>by
 rw[zV (zL e h)];exact e
end
section
theorem mO(d:bo):fW d "int" = match d with | .int _=>true | .bool _=>true|_=>false:=by cases d<;>first|rfl|(show cU _ _=_;simp[cU,tyD])
theorem iM(d:bo):fW d "bool" = match d with | .bool _=>true|_=>false:=by cases d<;>first|rfl|(show cU _ _=_;simp[cU,tyD])
theorem kP(d:bo):fW d "tuple" = match d with | .tuple _=>true|_=>false:=by cases d<;>first|rfl|(show cU _ _=_;simp[cU,tyD])
theorem mB(d:bo):fW d "list" = match d with | .list _=>true|_=>false:=by cases d<;>first|rfl|(show cU _ _=_;simp[cU,tyD])
def vw:List Addr->Hp->Hp
 | [],H=>H
 |a::r,H=>hid a (vw r H)
def pD(K:cu):V->V->Hp->VK->Prop:=fun x y H Q=>∃(a:Addr) (ns:List Int) (i:Int),x=.ref a/\y=.int i/\SqL K H a (ns.map V.int)/\0<=i/\∀n,Q (.int n) H
theorem Cq{ns:List Int}{i:Int}(h0:0<=i)(h1:i<((ns.map V.int).length:Int)):∃n,atI (ns.map V.int) i=some (.int n):=by
 obtain⟨k,rfl⟩:=gp h0;have hk:k<ns.length:=by rw[dj]at h1;omega
 exact⟨ns[k],dW (by rw[gh,cp hk];rfl)⟩
theorem Ct{ns:List Int}{lo hi:Option Int}{x:V}(h:x∈bY (ns.map V.int) lo hi):∃n,x=.int n:=by
 have h1:=mem_of_mem_drop (mq h);obtain⟨n,_,e⟩:=mem_map.mp h1;exact⟨n,e.symm⟩
theorem Fun.bind1{K:cu}{x a:Str}{st:Stmt}{f:Addr}{fd:mo}(F:Fun K x x st f fd)
  (h:∀(kV q pm:bn) (an:Option Addr) (z ct:bn) (u:bn),bindArgs (W.fnOf x x (gB st) (cD st) (zh st) .none kV q pm an z ct) ⟨[u],[]⟩=pure [(a,u)]):∀(s:bp) (u:bn),BindsTo s fd ⟨[u],[]⟩ [(a,u)]:=by
 obtain⟨oc,od,kV,q,pm,an,z,ct,ab,rfl,lk,aa⟩:=F.ex;exact fun s u=>.of_eq (h kV q pm an z ct u)
def rW(K:cu):V->Hp->VK->Prop:=fun x H Q=>∃(a:Addr) (ns:List Int),x=.ref a/\SqL K H a (ns.map V.int)/\ns.length<=63/\∀H',Q (.bl true) H'
theorem walk_law{l:W.OpenLaw}{k:Nat}{q:fe}{aa:List Str}{XP:(Str->Option bn)->Heap->Prop}{YP:ft->Heap->Prop}{d:DefRec}{K:Params->cu}(hn:l.most=some 63)(ab:d.params.defaults=[])
  (hr:Room k callerA) (hY:∀(w:ft) (h:Heap),YP w h->(K w.params).In h) (hT:∀(w:ft) (h:Heap),YP w h->TabsOk (K w.params) h)
  (F:∀(w:ft) (mg:Str->Option bn) (fa:Addr) (h:Heap),(K w.params).In h->h.Ns kv mg->mg d.name=some (.ref fa) ->
   ∃fd:mo,(∀(s:bp) (u:bn),BindsTo s fd ⟨[u],[]⟩ [("script",u)])/\∀base:Heap,(K w.params).In base->base.Ns kv mg->FnOk l.prog w (K w.params) mg base CX0 k fa fd ["script"] (sp1 (rW (K w.params)))):
  W.WalkO q aa XP YP l.row.toRowW d [] (fun f vs=>PySem.call f vs):=
 L2.walk_of (n:=63) (k:=k) (x:="script") (CX:=fun _=>CX0) (sp:=fun w=>sp1 (rW (K w.params))) hn dz ab hr hY hT F (fun _ _ a ns hl _ hS=>⟨a,ns,rfl,hS,hl,fun _=>rfl⟩) fun _ _ _ _ _ z=>z
theorem Fun.ok1{P:fe}{w:ft}{K:cu}{mg:Str->Option bn}{base:Heap}{x a:Str}{st:Stmt}{f:Addr}{fd:mo}{N:List Str}{k:Nat}{p:V->Hp->VK->Prop}(F:Fun K x x st f fd)(S:FnScope N [a] (zh st))(σ0:V->St)(hs:∀v,start N [v]=σ0 v)
  (hbody:∀(q:bn) (A:fq) (outer:List Env) (s:bp) (H:Hp) (v:V) (Q:VK) (E:XK),Room k (A.deeper (envOfC x (zh st) s.heap.objs.size f q))->p v H Q ->
   ∃t,PSs (dR CX0 P w K mg base N x (zh st) f q A outer s H E).nox (cD st) t/\t { nx:=fun _ H'=>Q .non H',rt:=Q } (σ0 v) H):FnOk P w K mg base CX0 (k+1) f fd [a] (sp1 p):=by
 refine F.ok S (fun vs H Q E h=>?_) fun q A outer s H vs Q E hr h=>?_
 ·obtain⟨x,rfl,_⟩:=tW vs H Q E h;rfl
 ·obtain⟨x,rfl,h⟩:=tW vs H Q E h;rw[hs];exact hbody q A outer s H x Q E hr h
end
section
mutual
theorem Has.reads{X:Cx}{ze:List (Addr×Obj)}{σ:St}{H:Hp}{s:bp}(I:Inv X ze σ H s):∀(d:bo) (v:V) (u:bn),Has H d v->d.canLay0=true->RelV v u->∃as,Reads s.heap u d as
 | .none,v,u,h,_,r=>by
  rw[hG.mp h]at r;cases (show u=Value.none from r);exact⟨_,.none⟩
 | .bool b,v,u,h,_,r=>by
  rw[eH.mp h]at r;cases (show u=iu b from r);exact⟨_,.bool b⟩
 | .int i,v,u,h,_,r=>by
  rw[fA.mp h]at r;obtain⟨t,q⟩:=(show ∃t,u=Value.int i t from r);cases q;exact⟨_,.int i t⟩
 | .str x,v,u,h,_,r=>by
  rw[fK.mp h]at r;obtain⟨t,q⟩:=(show ∃t,u=Value.str x t from r);cases q;exact⟨_,.str x t⟩
 | .list ds,v,u,h,c,r=>by
  obtain⟨a,vs,rfl,e,l⟩:=cB.mp h;cases (show u=ig a from r);obtain⟨_,z,n,rv,e1⟩:=(show ObjOk X.prog X.w H s.heap a (.lst vs)from I.hok a _ e);obtain⟨as,q⟩:=HasL.reads I ds vs z l (by simpa only[kh]using c) rv;exact⟨_,.list e1 rfl rfl (by simpa using q)⟩
 | .tuple ds,v,u,h,c,r=>by
  obtain⟨a,vs,rfl,e,l⟩:=cN.mp h;cases (show u=ig a from r);obtain⟨_,z,rv,o,e1,e2,n,e3⟩:=(show ObjOk X.prog X.w H s.heap a (.tup vs)from I.hok a _ e);obtain⟨as,q⟩:=HasL.reads I ds vs z l (by simpa only[kh]using c) rv;exact⟨_,.tuple e1 e2 e3 (by simpa using q)⟩
 | .dict _,_,_,_,c,_=>by simp[kh]at c
theorem HasL.reads{X:Cx}{ze:List (Addr×Obj)}{σ:St}{H:Hp}{s:bp}(I:Inv X ze σ H s):∀(ds:List bo) (vs:List V) (us:List bn),HasL H ds vs->ju ds=true->Vals vs us->∃as,ReadsAll s.heap us ds as
 | [],vs,us,h,_,r=>by
  rw[zp.mp h]at r;cases r;exact⟨_,.nil⟩
 |d::ds,vs,us,h,c,r=>by
  obtain⟨v,w',rfl,h1,h2⟩:=zm.mp h;have c':d.canLay0=true/\ju ds=true:=by simpa[ju]using c
  cases r with
  |cons r1 r2=>
   obtain⟨as,q1⟩:=Has.reads I d v _ h1 c'.1 r1;obtain⟨bs,q2⟩:=HasL.reads I ds w' _ h2 c'.2 r2;exact⟨_,.cons q1 q2⟩
end
def sX:R2:=fun x y H Q=>∃d e,Has H d x/\Has H e y/\dy d=true/\dy e=true/\Q (.bl (gm d e)) H
def wN:R2:=fun x y H Q=>∃d e,Has H d x/\Has H e y/\dy d=true/\dy e=true/\Q (.bl (!PyData.eqv d e)) H
section
variable {X:Cx}
theorem b7(hu:X.A.units+64<cLine):OpR X (jt .Eq) sX:=by
 intro ze s σ H x y v u Q I rx ry h;obtain⟨d,e,hd,he,sd,se,q⟩:=h;obtain⟨as,q1⟩:=Has.reads I d x v hd (gc sd) rx;obtain⟨bs,q2⟩:=Has.reads I e y u he (gc se) ry;exact eq_dataH q1 q2 sd se hu ⟨.bl _,H,I,rfl,q⟩
theorem qY(hu:X.A.units+64<cLine):OpR X (jt .NotEq) wN:=by
 intro ze s σ H x y v u Q I rx ry h;obtain⟨d,e,hd,he,sd,se,q⟩:=h;obtain⟨as,q1⟩:=Has.reads I d x v hd (gc sd) rx;obtain⟨bs,q2⟩:=Has.reads I e y u he (gc se) ry;exact ne_dataH q1 q2 sd se hu ⟨.bl _,H,I,rfl,q⟩
end
section
variable {prog:fe}{w:ft}{A:fq}{E:bn->bp->Prop}{s:bp}{l:Addr}
theorem C9{xs:Array (Int×Tok)}{Q:bn->bp->Prop}(hh:A.handled=none)(hl:s.heap.IsTuple l (mw xs))(z:0<xs.size)
  (h:∀v h' tk,(mw xs)[lc (fun i j=>decide (numAt xs i<numAt xs j)) (xs.size-1)]?=some v->(∀b o,s.heap.get? b=some o->h'.get? b=some o)->Q v { s with heap:=h',toks:=tk }):
  ck (model prog w) A (call (.builtin "min") [.ref l]) Q E s:=by
 have q:l<s.heap.objs.size:=by obtain⟨o,e,_⟩:=hl;exact ff e
 refine call_min_walk (wpAny_pyIter_tuple hl ?_);refine⟨_,[_,l],[_],_,_,_,_,rfl,Walks.tuple (A:=A.in1) hh _ l (fy q) (mw xs),⟨⟨_,cz _ rfl,rfl,rfl⟩,hl.push _⟩,fun c hc=>?_,by simpa[mw]using z,CmpOf.ints_lt (numAt xs) (fun _ _=>intItems_at),fun v h' tk hP hk=>?_⟩
 ·show c<(s.heap.push _).objs.size;rw[size_push];rcases mem_cons.mp hc with rfl|hc
  ·exact Nat.lt_succ_self _
  ·rcases mem_cons.mp hc with rfl|hc
   ·exact lt_succ_of_lt q
   ·cases hc
 ·refine h v h' tk (by simpa[mw]using hP) fun b o e=>hk b o (fun hm=>?_) (bz _ e);rcases mem_cons.mp hm with e1|hm
  ·exact absurd (e1▸ff e) (lg _)
  ·cases hm
theorem FH{xs:Array (Int×Tok)}{Q:bn->bp->Prop}(hh:A.handled=none)(hl:s.heap.IsTuple l (mw xs))(z:0<xs.size)
  (h:∀v h' tk,(mw xs)[lc (fun i j=>decide (numAt xs i>numAt xs j)) (xs.size-1)]?=some v->(∀b o,s.heap.get? b=some o->h'.get? b=some o)->Q v { s with heap:=h',toks:=tk }):
  ck (model prog w) A (call (.builtin "max") [.ref l]) Q E s:=by
 have q:l<s.heap.objs.size:=by obtain⟨o,e,_⟩:=hl;exact ff e
 refine call_max_walk (wpAny_pyIter_tuple hl ?_);refine⟨_,[_,l],[_],_,_,_,_,rfl,Walks.tuple (A:=A.in1) hh _ l (fy q) (mw xs),⟨⟨_,cz _ rfl,rfl,rfl⟩,hl.push _⟩,fun c hc=>?_,by simpa[mw]using z,CmpOf.ints_gt (numAt xs) (fun _ _=>intItems_at),fun v h' tk hP hk=>?_⟩
 ·show c<(s.heap.push _).objs.size;rw[size_push];rcases mem_cons.mp hc with rfl|hc
  ·exact Nat.lt_succ_self _
  ·rcases mem_cons.mp hc with rfl|hc
   ·exact lt_succ_of_lt q
   ·cases hc
 ·refine h v h' tk (by simpa[mw]using hP) fun b o e=>hk b o (fun hm=>?_) (bz _ e);rcases mem_cons.mp hm with e1|hm
  ·exact absurd (e1▸ff e) (lg _)
  ·cases hm
theorem iQ{vs:List bn}{ns:List Int}(hi:nz vs ns):∃xs:Array (Int×Tok),vs.toArray=mw xs/\ns=xs.toList.map (·.1):=by
 obtain⟨xs,e⟩:=hi.allInts.items;exact⟨xs,e,by rw[<- hi.numsOf,<- nums_intItems,<- e]⟩
end
def sD(K:cu):List V->Hp->VK->Prop:=fun xs H Q=>∃p ns,xs=[.ref p]/\(SqL K H p (ns.map V.int)\/SqT K H p (ns.map V.int))/\ns≠[]/\∀m,m∈ns->(∀a,a∈ns->m<=a)->Q (.int m) H
def w6(K:cu):List V->Hp->VK->Prop:=fun xs H Q=>∃p ns,xs=[.ref p]/\(SqL K H p (ns.map V.int)\/SqT K H p (ns.map V.int))/\ns≠[]/\∀m,m∈ns->(∀a,a∈ns->a<=m)->Q (.int m) H
section
variable {X:Cx}
theorem CJ(hc:X.calm=true):CallR X (.builtin "min") (sD X.K):=by
 intro ze s σ H xs us Q I r h;obtain⟨p,ns,rfl,hq,ab,q⟩:=h;obtain⟨u,rfl,rx⟩:=vals1 r;cases (show u=ig p from rx);have done:∀(ys:Array (Int×Tok)) (v:bn) (h':Heap) (tk:Nat),ns=ys.toList.map (·.1)->0<ys.size->(mw ys)[lc (fun i j=>decide (numAt ys i<numAt ys j)) (ys.size-1)]?=some v ->
   (∀b o,s.heap.get? b=some o->h'.get? b=some o)->EP X ze σ Q v { s with heap:=h',toks:=tk }:=by
  intro ys v h' tk z aa hv hk;obtain⟨t,rfl⟩:=intItems_at hv;obtain⟨h1,h2⟩:=argBest_lt (numAt ys) (ys.size-1);refine⟨.int _,H,I.kept (t':=tk) hk,⟨t,rfl⟩,q _ ?_ fun a ha=>?_⟩
  ·rw[z,numAt_eq];exact getD_mem (by rw[dj,fc];omega)
  ·rw[z]at ha;obtain⟨j,hj,rfl⟩:=mem_getD ha;rw[dj,fc]at hj;rw[<- numAt_eq];exact h2 j yw
 rcases hq with hq|hq
 ·obtain⟨ac,rv,pl,_⟩:=I.list hq;obtain⟨ys,e,z⟩:=iQ (f6 rv);have aa:0<ys.size:=by
   cases ys with
   |mk l=>cases l with
    |nil=>exact absurd z ab
    |cons _ _=>exact Nat.succ_pos _
  exact min_intList (I.ok.hd hc) (by rw[<- e];exact pl.isList) aa fun v h' tk hv hk=>done ys v h' tk z aa hv hk
 ·obtain⟨ac,rv,pl,_⟩:=I.tuple hq;obtain⟨ys,e,z⟩:=iQ (f6 rv);have aa:0<ys.size:=by
   cases ys with
   |mk l=>cases l with
    |nil=>exact absurd z ab
    |cons _ _=>exact Nat.succ_pos _
  exact C9 (I.ok.hd hc) (by rw[<- e];exact pl) aa fun v h' tk hv hk=>done ys v h' tk z aa hv hk
theorem vB(hc:X.calm=true):CallR X (.builtin "max") (w6 X.K):=by
 intro ze s σ H xs us Q I r h;obtain⟨p,ns,rfl,hq,ab,q⟩:=h;obtain⟨u,rfl,rx⟩:=vals1 r;cases (show u=ig p from rx);have done:∀(ys:Array (Int×Tok)) (v:bn) (h':Heap) (tk:Nat),ns=ys.toList.map (·.1)->0<ys.size->(mw ys)[lc (fun i j=>decide (numAt ys i>numAt ys j)) (ys.size-1)]?=some v ->
   (∀b o,s.heap.get? b=some o->h'.get? b=some o)->EP X ze σ Q v { s with heap:=h',toks:=tk }:=by
  intro ys v h' tk z aa hv hk;obtain⟨t,rfl⟩:=intItems_at hv;obtain⟨h1,h2⟩:=argBest_gt (numAt ys) (ys.size-1);refine⟨.int _,H,I.kept (t':=tk) hk,⟨t,rfl⟩,q _ ?_ fun a ha=>?_⟩
  ·rw[z,numAt_eq];exact getD_mem (by rw[dj,fc];omega)
  ·rw[z]at ha;obtain⟨j,hj,rfl⟩:=mem_getD ha;rw[dj,fc]at hj;rw[<- numAt_eq];exact h2 j yw
 rcases hq with hq|hq
 ·obtain⟨ac,rv,pl,_⟩:=I.list hq;obtain⟨ys,e,z⟩:=iQ (f6 rv);have aa:0<ys.size:=by
   cases ys with
   |mk l=>cases l with
    |nil=>exact absurd z ab
    |cons _ _=>exact Nat.succ_pos _
  exact max_intList (I.ok.hd hc) (by rw[<- e];exact pl.isList) aa fun v h' tk hv hk=>done ys v h' tk z aa hv hk
 ·obtain⟨ac,rv,pl,_⟩:=I.tuple hq;obtain⟨ys,e,z⟩:=iQ (f6 rv);have aa:0<ys.size:=by
   cases ys with
   |mk l=>cases l with
    |nil=>exact absurd z ab
    |cons _ _=>exact Nat.succ_pos _
  exact FH (I.ok.hd hc) (by rw[<- e];exact pl) aa fun v h' tk hv hk=>done ys v h' tk z aa hv hk
end
section
variable {K:cu}{o:List Addr}{σ:St}{H0:Hp}{t t1 t2 t3 t4 t5:TE}{ta:TA}{tt tu:TT}{d d1 d2 d3 d4 d5:bo}{ds:List bo}{b c:Bool}
def gR:bo->Bool
 | .none=>true
 |_=>false
end
def spD(a b:Int):bo:=.tuple [.int a,.int b]
end
section
theorem Bx{K:cu}{a:Addr}{ns:List Int}{N:Int}{j:Nat}{tb:TS}{D:Ends}{σ:St}{H:Hp}(P:St->Prop)(h0:σ[0]?=some (some (.ref a)))(hS:SqL K H a (ns.map V.int))(q:ns.length<=63)(hP:P σ)
  (turn:∀(n:Int) (σ:St) (H1 H2:Hp),P σ->Same H H1->Same H1 H2->tb { D with nx:=fun σ' H'=>Same H1 H'/\P σ',ct:=fun σ' H'=>Same H1 H'/\P σ',bk:=D.nx } (σ.set j (some (.int n))) H2)
  (done:∀(σ:St) (H1:Hp),P σ->Same H H1->D.nx σ H1):
  oM (qG K (tOp iD (g4 (g7 (tC2 (pD K) (eG 0) (tC (.int 0))) gX)) (tSl (l7 K) (eG 0) (g0 (tC (.int 1))) (g0 (tC (.int N)))))) (iB j) tb D σ H:=by
 refine⟨_,h0,a,ns,0,rfl,rfl,hS,by decide,fun n0=>⟨by show 1<=dw;decide,fun p hp=>?_⟩⟩;have s1:Same H (upd H p (.lst [.int n0])):=Same.laid hp;refine⟨_,h0,_,rfl,_,rfl,a,_,rfl,s1.seq hS,fun p2 z=>?_⟩;have s2:=s1.trans (Same.laid (o:=.lst (bY (ns.map V.int) (some 1) (some N))) z);have np:p≠p2:=zL cX z;have hz:(bY (ns.map V.int) (some 1) (some N)).length<=63:=gq (qK _ _ _) (by rw[dj];exact q);refine⟨p,p2,_,_,rfl,rfl,by rw[zV np,cX],cX,jp (small1000 (by simp only[fj,length_nil];omega)),fun p3 aa=>?_⟩;have s3:=s2.trans (Same.laid (o:=.lst ([V.int n0]++bY (ns.map V.int) (some 1) (some N))) aa);refine⟨p3,rfl,⟨_,.of cX⟩,Al (K:=K) (a:=p3) (xs:=[V.int n0]++bY (ns.map V.int) (some 1) (some N)) (fun i σ' H'=>Same _ H'/\P σ') ⟨Same.refl _,hP⟩ (fun i σ H4 _ ⟨s4,_⟩=>.of (s4 _ _ cX)) ?_ ?_⟩
 ·rintro i x σ' H4 hi ⟨s4,p4⟩;obtain⟨n,rfl⟩:∃n,x=.int n:=by
   rcases mem_append.mp (bq hi)with m|m
   ·exact⟨n0,mem_singleton.mp m⟩
   ·exact Ct m
  exact turn n σ' _ H4 p4 s3 s4
 ·rintro σ' H4 ⟨s4,p4⟩;exact done σ' H4 p4 (s3.trans s4)
end
section
section
variable {prog:fe}{w:ft}{A:fq}{E:bn->bp->Prop}{R:Result->bp->Prop}{s:bp}
theorem DF{elt aa iter:Expr}{ifs:List Expr}{scope:Scope}{pos:Pos}{it acc:bn}{env:Env}(I:Nat->bp->Prop)
  (turn:∀n s,I n s->ck (model prog w) A (lv it) (fun r s₁=>match r with
   |none=>R (.ok .next) s₁
   |some v=>ck (model prog w) A (letOwnedTupleGo aa it v) (fun _ s₀=>ck (model prog w) A (assign aa env v) (fun _ s₂=>
     ck (model prog w) A (forIn ifs true fun c r=>if r=true then do let ok <- isTrue c env (eval c env);pure (nc ok)else pure (nc r)) (fun ok s₃=>
      if ok=true then ck (model prog w) A (eval elt env) (fun x s₄=>
       ck (model prog w) A (call (.builtin "list.append") [acc,x]) (fun _ s₅=>∃m,m<n/\I m s₅) (fun _ _=>False) s₄) (fun _ _=>False) s₃
      else ∃m,m<n/\I m s₃) (fun _ _=>False) s₂) (fun _ _=>False) s₀) (fun _ _=>False) s₁) (fun _ _=>False) s)
  (n:Nat) (h:I n s):
  ow (model prog w) A (.compLoop (.ListComp elt [⟨aa,iter,ifs,0⟩] scope pos) 0 it acc env) R s:=by
 have up:∀{α:Type}{t:Sem α}{Q:α->bp->Prop}{E':bn->bp->Prop}{s':bp},ck (model prog w) A t Q (fun _ _=>False) s'->ck (model prog w) A t Q E' s':=fun h=>oo h (fun _ _ q=>q) fun _ _ z=>z.elim;refine codeAny_loop rfl I (fun n s hI=>?_) n h;show ck _ A ((compTurn (.ListComp elt [⟨aa,iter,ifs,0⟩] scope pos) 0 it acc env).onRaise (fun x=>do noteFrame x env;theTreesLotGoes x)) _ _ s;refine wpAny_noted ?_;rw[compTurn_list];refine bj (wpAny_standAt (bj (thn (up (turn n s hI)) fun r s₁ h₁=>?_)));cases r with
 |none=>exact br h₁
 |some v=>
  refine bj (thn (up h₁) fun _ s₀ h₀=>?_);refine bj (thn (up h₀) fun _ s₂ h₂=>bj (thn (up h₂) fun ok s₃ h₃=>?_));cases ok with
  |false=>exact br ⟨rfl,h₃⟩
  |true=>
   exact bj (bj (thn (up h₃) fun x s₄ h₄=>bj (thn (up h₄) fun _ s₅ h₅=>br (br ⟨rfl,h₅⟩))))
end
def bN(X:Cx)(scope:Scope)(cl:List (Str×Addr))(C:Addr)(s₃:bp)(H₃:Hp)(fp:List Addr)(N:List Str):Cx where
 prog:=X.prog
 w:=X.w
 K:=X.K
 mg:=X.mg
 base:=X.base
 A:=X.A
 N:=N
 s₀:=s₃
 H₀:=H₃
 env:=compEnvC scope cl C X.env
 outer:=X.stack
 stack:=X.stack
 ex:=fp
 fn:=fun _=>false
 calm:=X.calm
 pn:=[]
 xe:=fun _ _=>False
def PTs(X:Cx)(ifs:List Expr)(t:TT):Prop:=
 ∀(ze:List (Addr×Obj)) (s:bp) (σ:St) (H:Hp) (Q:Bool->Hp->Prop),Inv X ze σ H s->t σ H Q ->
  ck (model X.prog X.w) X.A (forIn ifs true fun c r=>if r=true then do let ok <- isTrue c X.env (eval c X.env);pure (nc ok)else pure (nc r)) (TP X ze σ Q) X.xe s
def xM:TT:=fun _ H Q=>Q true H
theorem dH{X:Cx}:PTs X [] xM:=fun _ _ _ H _ I h=>wpAny_tests_nil ⟨H,I,h⟩
theorem xH{X:Cx}{c:Expr}{t:TT}(h:PT X c t):PTs X [c] t:=fun ze s σ H Q I hw=>wpAny_tests_one (h ze s σ H Q I hw)
def tau(caps:List (Option Nat))(σ:St):St:=caps.map fun o=>o.bind fun i=>(σ[i]?).join
def iW(caps:List (Option Nat))(wi:TI)(g:TG)(tt:TT)(te:TE):TE:=fun σ H Q=>wi σ H fun J H1=>∀D,H1 D=none->∃W:Nat->Nat->St->Hp->Prop,(∃m,W 0 m (tau caps σ) (upd H1 D (.lst []))) /\
 ∀i m τ H2,W i m τ H2->(J.stop i H2/\Q (.ref D) H2)\/(J.go i H2/\∀x H3,J.yld i H2 x H3->g x τ H3 fun τ4 H4=>tt τ4 H4 fun b H5=>
  if b=true then te τ4 H5 fun v H6=>∃xs,H6 D=some (.lst xs)/\xs.length<dw/\∃m',m'<m/\W (i+1) m' τ4 (upd H6 D (.lst (xs++[v])))else ∃m',m'<m/\W (i+1) m' τ4 H5)
structure CompOk(X:Cx)(scope:Scope)(cl:List (Str×Addr))(N:List Str)(caps:List (Option Nat)):Prop where
 clos:closureFor scope X.env=pure cl
 sub:∀x c,cl.lookup x=some c->X.env.cells.lookup x=some c
 kind:scope.kind=.function
 cell:∀y∈scope.names,y.2≠.cell
 names:∀y∈scope.names,y.2=.local->scope.names.lookup y.1=some .local
 has:∀x,((relabel scope X.env).names.lookup x=some .cell\/(relabel scope X.env).names.lookup x=some .free)->∃c,cl.lookup x=some c
 cap:∀(j i:Nat) (x:Str),caps[j]?=some (some i)->N[j]?=some x->X.N[i]?=some x/\Vis X.env.scope x/\¬ X.env.kindOf x=some .local/\∃c,cl.lookup x=some c/\((relabel scope X.env).names.lookup x=some .cell\/(relabel scope X.env).names.lookup x=some .free)
 len:caps.length=N.length
section
variable {X:Cx}{scope:Scope}{cl:List (Str×Addr)}{N:List Str}{caps:List (Option Nat)}{tg iter elt:Expr}{ifs:List Expr}{pos:Pos}{wi:TI}{g:TG}{tt:TT}{te:TE}
theorem BV{ze:List (Addr×Obj)}{σ:St}{H:Hp}{s:bp}{fp:List Addr}{h₁:Heap}{t':Nat}(c:CompOk X scope cl N caps)(I:Inv X ze σ H s)(f:∀b∈fp,FpOk X ze H b)(fo:∀b∈fp,∃o,s.heap.get? b=some o)
  (hns:h₁.Ns s.heap.objs.size (fun _=>none)) (hk:∀b o,s.heap.get? b=some o->h₁.get? b=some o):
  Inv (bN X scope cl s.heap.objs.size s H fp N) [] (tau caps σ) H { s with heap:=h₁,toks:=t' }:=by
 have lt:∀b∈fp,b<s.heap.objs.size:=fun b hb=>by obtain⟨o,e⟩:=fo b hb;exact ff e
 have ab:∀x k,cl.lookup x=some k->∃v,s.heap.IsCell k v:=fun x k e=>I.cell x k (c.sub x k e);refine⟨⟨I.ok.mod,c.kind,I.ok.glob,I.ok.blt,cv _,fun x y k h1 h2=>I.ok.inj x y k (c.sub x k h1) (c.sub y k h2),fun x hx=>c.has x hx,fun x k h _=>absurd (show false=true from h) dz,I.ok.hd,I.ok.frames,.inl rfl,
  fun b hb=>⟨fy (lt b hb),fun x k e=>(f b hb).2.2.2.2.1 x k (c.sub x k e)⟩,I.bs,gq I.ok.bsz I.sz,fun b o e hb=>?_,fun b hb z=>?_,I.stack,I.stkFree⟩,
  rfl,I.bare,Un.kept hk,⟨_,hns,fun j x v h1 h2 h3=>?_⟩,fun x k e=>?_,I.hok.fresh (cv _),fun x k e=>I.freeC x k (c.sub x k e),fun p hp=>absurd (show p∈([]:List (Addr×Obj))from hp) yv,I.hok.kept hk,?_⟩
 ·rcases(f b hb).2.2.2.1 with q|q
  ·exact I.ok.noex b o e q
  ·exact absurd (fz (ff e) (gq I.ok.bsz q)) (lg _)
 ·rcases mem_cons.mp (I.stkSub b z)with q|q
  ·exact(f b hb).2.1 q
  ·exact(f b hb).2.2.1 q
 ·have aa:(caps.map fun o=>o.bind fun i=>(σ[i]?).join)[j]?=some (some v):=h2;rw[gh]at aa;cases e:caps[j]? with
  |none=>rw[e]at aa;cases aa
  |some oi=>
   rw[e]at aa;have h2'':(oi.bind fun i=>(σ[i]?).join)=some v:=fx aa;cases oi with
   |none=>cases h2''
   |some i=>
    have h4:(σ[i]?).join=some v:=h2'';have h5:σ[i]?=some (some v):=by
     cases q:σ[i]? with
     |none=>rw[q]at h4;cases h4
     |some w'=>rw[q]at h4;exact congrArg some h4
    obtain⟨k1,k2,k3,cc,k4,k5⟩:=c.cap j i x e h1;obtain⟨m,hn,hl⟩:=I.loc;obtain⟨u,r,l⟩:=hl i x v k1 h5 k2;refine⟨u,r,.inr ⟨k5,cc,k4,?_⟩⟩;rcases l with ⟨q,_⟩|⟨_,c',hc',hcell⟩
    ·exact(k3 q).elim
    ·rw[c.sub x cc k4]at hc';cases hc';exact hcell.keeps hk
 ·obtain⟨v,q⟩:=ab x k e;exact⟨v,q.keeps hk⟩
 ·show (caps.map _).length=N.length;rw[dj];exact c.len
theorem B1{ze:List (Addr×Obj)}{σ τ:St}{H H':Hp}{s s':bp}{h':Heap}{fp:List Addr}(I:Inv X ze σ H s)(f:∀b∈fp,FpOk X ze H b)(J:Inv (bN X scope cl s.heap.objs.size s H fp N) [] τ H' s')(hs:jn s.heap.objs.size s'.heap h'):
  Inv X ze σ H' { s' with heap:=h' }:=by
 have hC:H' s.heap.objs.size=none:=J.free;have keep:∀b o,b≠s.heap.objs.size->s'.heap.get? b=some o->h'.get? b=some o:=fun b o nb e=>hs.extBut b o nb e;have u1:Un (frs X.stack) (s.heap.objs.size::fp) H H' s.heap s'.heap:=Un.mono J.base (fun b hb=>hb) (fun b hb=>cr _ hb);have u2:Un (frs X.stack) (s.heap.objs.size::fp) H' H' s'.heap h':=
  ⟨fun b o e _ _ hx=>keep b o (fun z=>hx (by rw[z];exact dh)) e,fun b o e _ _ hx=>⟨o.slots,keep b o (fun z=>hx (by rw[z];exact dh)) e⟩,fun _ _ _ n _=>n,fun b o e hx=>⟨o,keep b o (fun z=>hx (by rw[z];exact dh)) e⟩,fun _ _ q=>q,fun _ _ _ q=>q,fun _ _ q=>q⟩
 have hok:HOk X.prog X.w H' h':=fun a o e=>(J.hok a o e).stay (fun b u hb q=>keep b u (fun z=>by
  rcases hb with hb|hb
  ·rw[<- hb,z,hC]at e;cases e
  ·rw[z,hC]at hb;cases hb) q) (fun b q=>q) fun b xs q=>q
 refine I.call' (s':={ s' with heap:=h' }) (ch:=s.heap.objs.size::fp) J.os (u1.trans u2) hok J.bare fun b hb=>?_;rcases mem_cons.mp hb with rfl|hb
 ·refine⟨.inr I.sz,ne_of_gt I.lt,fun x k e z=>?_,fun p hp z=>?_⟩
  ·obtain⟨v,q⟩:=I.cell x k e;exact absurd q.lt (by rw[z];exact lg _)
  ·exact absurd (ff (I.pin p hp).1) (by rw[z];exact lg _)
 ·obtain⟨f0,f1,f2,f3,f4,f5⟩:=f b hb;exact⟨f3,f1,f4,f5⟩
theorem vD{ze:List (Addr×Obj)}{σ:St}{H2:Hp}{s2:bp}{it:Addr}{fp:List Addr}{tn:Nat->Heap->Prop}{J:It}{RR:bn->Addr->Result->bp->Prop}{E:bn->bp->Prop}(hc:X.calm=true)(c:CompOk X scope cl N caps)
  (I2:Inv X ze σ H2 s2) (T:Turn X.prog X.w X.K tg J fp it tn) (st2:tn 0 s2.heap) (f2:∀b∈fp,FpOk X ze H2 b)
  (hg:∀C s H fp,PG (bN X scope cl C s H fp N) tg g) (ht:∀C s H fp,PTs (bN X scope cl C s H fp N) ifs tt) (he:∀C s H fp,PE (bN X scope cl C s H fp N) elt te)
  (Q:VK) (hq:∀D,H2 D=none->∃W:Nat->Nat->St->Hp->Prop,(∃m,W 0 m (tau caps σ) (upd H2 D (.lst []))) /\
   ∀i m τ H2,W i m τ H2->(J.stop i H2/\Q (.ref D) H2)\/(J.go i H2/\∀x H3,J.yld i H2 x H3->g x τ H3 fun τ4 H4=>tt τ4 H4 fun b H5=>
    if b=true then te τ4 H5 fun v H6=>∃xs,H6 D=some (.lst xs)/\xs.length<dw/\∃m',m'<m/\W (i+1) m' τ4 (upd H6 D (.lst (xs++[v])))else ∃m',m'<m/\W (i+1) m' τ4 H5))
  (hRR:∀(D C:Addr) (H':Hp) (s':bp) (m:Str->Option bn),s'.heap.Ns C m->FpOk X ze H' C->(∀h',jn C s'.heap h'->Inv X ze σ H' { s' with heap:=h' })->Q (.ref D) H'->RR (.ref D) C (.ok .next) s'):
  ck (model X.prog X.w) X.A (newList []) (fun acc s₃=>ck (model X.prog X.w) X.A (newFunctionEnv scope X.env.globals cl [] X.env.qual none .none (some X.env)) (fun ac s₄=>
   ow (model X.prog X.w) X.A (.compStart (.ListComp elt [⟨tg,iter,ifs,0⟩] scope pos) 0 (.ref it) acc { ac with scope:=relabel scope X.env }) (RR acc ac.locals) s₄) E s₃) E s2:=by
 have hD:H2 s2.heap.objs.size=none:=I2.hok.fresh (cv _);obtain⟨W,⟨m0,w0⟩,ag⟩:=hq s2.heap.objs.size hD;have I3:Inv X ze σ (upd H2 s2.heap.objs.size (.lst [])) { s2 with heap:=s2.heap.push { cls:=.type "list",data:=.seq ([]:List bn).toArray } }:=I2.laid (t':=s2.toks) (fun b u e=>bz _ e) (cv _) ⟨jo _,[],0,.nil,cz _ rfl⟩;have fo:∀b∈fp,∃o,s2.heap.get? b=some o:=fun b hb=>by obtain⟨o,e,_⟩:=T.obj 0 _ st2 b hb;exact⟨o,e⟩
 have f3:∀b∈fp,FpOk X ze (upd H2 s2.heap.objs.size (.lst [])) b:=fun b hb=>by
  obtain⟨o,e⟩:=fo b hb;refine⟨?_,(f2 b hb).2⟩;rw[zV (fy (ff e))];exact(f2 b hb).1
 refine ga (wpAny_newFunctionEnv c.cell (by intro y hy;simp at hy) (fun h₁ al ah=>?_) c.kind);have hk:∀b o,(s2.heap.push { cls:=.type "list",data:=.seq ([]:List bn).toArray }).get? b=some o->h₁.get? b=some o:=fun b o e=>ah.extBut b o (fy (ff e)) (bz _ e);have ai:tn 0 h₁:=T.keep 0 _ _ st2 fun b _ o e=>hk b o (bz _ e);have I4:=BV (t':=s2.toks+([]:List (Str×bn)).length) c I3 f3 (fun b hb=>by obtain⟨o,e⟩:=fo b hb;exact⟨o,bz _ e⟩) al hk;have ab:∀{H':Hp},(∀b∈fp,H' b=none)->∀b∈fp,FpOk (bN X scope cl (s2.heap.push { cls:=.type "list",data:=.seq ([]:List bn).toArray }).objs.size { s2 with heap:=s2.heap.push { cls:=.type "list",data:=.seq ([]:List bn).toArray } } (upd H2 s2.heap.objs.size (.lst [])) fp N) [] H' b:=fun hn b hb=>
  ⟨hn b hb,(I4.ok.exf b hb).1,I4.ok.exfs b hb,.inl hb,(I4.ok.exf b hb).2,fun p hp=>absurd (show p∈([]:List (Addr×Obj))from hp) yv⟩
 have ae:ow (model X.prog X.w) X.A (.compLoop (.ListComp elt [⟨tg,iter,ifs,0⟩] scope pos) 0 (.ref it) (.ref s2.heap.objs.size) (compEnvC scope cl (s2.heap.push { cls:=.type "list",data:=.seq ([]:List bn).toArray }).objs.size X.env))
   (RR (.ref s2.heap.objs.size) (s2.heap.push { cls:=.type "list",data:=.seq ([]:List bn).toArray }).objs.size) { s2 with heap:=h₁,toks:=s2.toks+([]:List (Str×bn)).length }:=by
  refine DF (fun n s'=>∃i τ H',Inv (bN X scope cl (s2.heap.push { cls:=.type "list",data:=.seq ([]:List bn).toArray }).objs.size { s2 with heap:=s2.heap.push { cls:=.type "list",data:=.seq ([]:List bn).toArray } } (upd H2 s2.heap.objs.size (.lst [])) fp N) [] τ H' s'/\tn i s'.heap/\(∀b∈fp,H' b=none)/\W i n τ H') ?_ m0 ⟨0,_,_,I4,ai,fun b hb=>(f3 b hb).1,w0⟩;rintro n s5 ⟨i,τ,H5,I5,aj,ak,w5⟩;rcases ag i n τ H5 w5 with ⟨stop,qn⟩|⟨go,step⟩
  ·refine thn (T.done (bN X scope cl (s2.heap.push { cls:=.type "list",data:=.seq ([]:List bn).toArray }).objs.size { s2 with heap:=s2.heap.push { cls:=.type "list",data:=.seq ([]:List bn).toArray } } (upd H2 s2.heap.objs.size (.lst [])) fp N) rfl rfl rfl hc i [] s5 τ H5 (fun _ _=>False) I5 (ab ak) aj stop) fun r s6 ⟨hr,I6⟩=>?_;subst hr;obtain⟨m,hn,_⟩:=id I6.loc;exact hRR _ _ H5 s6 m hn (I3.fpOk (cv _) I6.free) (fun h' hs=>B1 I3 f3 I6 hs) qn
  ·refine thn (T.item (bN X scope cl (s2.heap.push { cls:=.type "list",data:=.seq ([]:List bn).toArray }).objs.size { s2 with heap:=s2.heap.push { cls:=.type "list",data:=.seq ([]:List bn).toArray } } (upd H2 s2.heap.objs.size (.lst [])) fp N) rfl rfl rfl hc i [] s5 τ H5 (fun _ _=>False) I5 (ab ak) aj go) fun r s6 ⟨u,hr,h6⟩=>?_;subst hr;refine thn h6 fun _ s7 ⟨x,H7,I7,r7,y7,af,ap⟩=>?_;have I7':=I7.pinned (ab ap) (T.obj _ _ af);refine thn (hg _ _ _ _ _ s7 τ H7 x u _ I7' r7 (step x H7 y7)) fun _ s8 ⟨τ8,H8,I8,q8⟩=>?_;refine thn (ht _ _ _ _ _ s8 τ8 H8 _ I8 q8) fun ok s9 ⟨H9,I9,q9⟩=>?_;have aa:∀{H':Hp}{s':bp}{m:Nat},Inv (bN X scope cl (s2.heap.push { cls:=.type "list",data:=.seq ([]:List bn).toArray }).objs.size { s2 with heap:=s2.heap.push { cls:=.type "list",data:=.seq ([]:List bn).toArray } } (upd H2 s2.heap.objs.size (.lst [])) fp N) ([]++iX fp s7.heap) τ8 H' s'->(m<n/\W (i+1) m τ8 H') ->
     ∃m,m<n/\∃i τ H',Inv (bN X scope cl (s2.heap.push { cls:=.type "list",data:=.seq ([]:List bn).toArray }).objs.size { s2 with heap:=s2.heap.push { cls:=.type "list",data:=.seq ([]:List bn).toArray } } (upd H2 s2.heap.objs.size (.lst [])) fp N) [] τ H' s'/\tn i s'.heap/\(∀b∈fp,H' b=none)/\W i m τ H':=fun {H' s' m} I' q=>by
    refine⟨m,q.1,i+1,τ8,H',I'.unpinned,T.keep _ _ _ af fun b hb o e=>(I'.pin (b,o) (fh _ (fh _ (nF hb e)))).1,fun b hb=>?_,q.2⟩;obtain⟨o,e,d⟩:=T.obj _ _ af b hb;exact(I'.pin (b,o) (fh _ (fh _ (nF hb e)))).2.1
   cases ok with
   |false=>
    rw[cb ge]at q9 ⊢;obtain⟨m',hm,w9⟩:=q9;exact aa I9 ⟨hm,w9⟩
   |true=>
    rw[cf rfl]at q9 ⊢;refine thn (he _ _ _ _ _ s9 τ8 H9 _ I9 q9) fun v an ⟨z,H10,I10,ao,xs,hx,hz,m',hm,aq⟩=>?_;refine thn (eL _ an τ8 H10 (.ref s2.heap.objs.size) [z] (.ref s2.heap.objs.size) [v] (fun _ H11=>W (i+1) m' τ8 H11) I10 rfl (.cons ao .nil) ⟨_,xs,z,rfl,rfl,hx,hz,aq⟩) fun _ ar ⟨_,H11,I11,_,am⟩=>?_;exact aa I11 ⟨hm,am⟩
 exact codeAny_compStart_list ae (T.self _ 0 _ _ _ ai ae)
theorem fN(hx:∀e s,X.xe e s->False)(hc:X.calm=true)(c:CompOk X scope cl N caps)(hi:PI X tg iter wi)(hg:∀C s H fp,PG (bN X scope cl C s H fp N) tg g)(ht:∀C s H fp,PTs (bN X scope cl C s H fp N) ifs tt)(he:∀C s H fp,PE (bN X scope cl C s H fp N) elt te)
  (hs:∀x,foldedSetIterable iter X.env x=pure x:=by intro _;rfl):PE X (.ListComp elt [⟨tg,iter,ifs,0⟩] scope pos) (iW caps wi g tt te):=by
 intro ze s σ H Q I h;rw[eval_ListComp];refine wpAny_comprehension_free (use:=none) rfl hs c.clos c.kind c.names (thn (hi ze s σ H _ I h) fun v s1 h1=>thn h1 fun aa s2 h2=>?_);obtain⟨it,fp,tn,J,H2,e,I2,T,z,f2,q2⟩:=h2;subst e;exact vD (RR:=fun acc C=>compPost (model X.prog X.w) X.A X.xe none (EP X ze σ Q) acc C) hc c I2 T z f2 hg ht he Q q2 fun D C H' s' m hn _ hb q=>⟨m,hn,fun h' hs=>⟨.ref D,H',hb h' hs,rfl,q⟩⟩
theorem iT{i:Nat}{y:Str}{py aa:Pos}(hx:∀e s,X.xe e s->False)(hc:X.calm=true)(c:CompOk X scope cl N caps)(hN:X.N.Nodup)(ac:X.N[i]?=some y)(hl:X.env.scope.names.lookup y=some .local)(hi:PI X tg iter wi)(hg:∀C s H fp,PG (bN X scope cl C s H fp N) tg g)
  (ht:∀C s H fp,PTs (bN X scope cl C s H fp N) ifs tt) (he:∀C s H fp,PE (bN X scope cl C s H fp N) elt te)
  (hsw:swapsWith (.ListComp elt [⟨tg,iter,ifs,0⟩] scope pos) (some (.Name y py)) aa.line X.env=pure true:=by rfl)
  (hs:∀x,foldedSetIterable iter X.env x=pure x:=by intro _;rfl):PS X (.Assign [.Name y py] (.ListComp elt [⟨tg,iter,ifs,0⟩] scope pos) aa) (oE (iW caps wi g tt te) (iB i)):=by
 intro ze s σ H D I h;rw[exec_Assign_Name_used _ _ _ _ hsw];refine bj (wpAny_standAt (bj ?_));show ck _ X.A (do let _ <- comprehension (.ListComp elt [⟨tg,iter,ifs,0⟩] scope pos) scope X.env _ (newList []) false (eval iter X.env) (some (assign (.Name y py) X.env))) _ _ s;refine bj (oo (wpAny_comprehension_free (use:=some (assign (.Name y py) X.env)) (Q:=fun _ s'=>SP X ze D .next s') rfl hs c.clos c.kind c.names (thn (hi ze s σ H _ I h) fun v s1 h1=>thn h1 fun ae s2 h2=>?_)) (fun _ s' hq=>br (br hq)) fun _ _ e=>e);obtain⟨it,fp,tn,J,H2,e,I2,T,ab,f2,q2⟩:=h2;subst e;refine vD (RR:=fun acc C=>compPost (model X.prog X.w) X.A X.xe (some (assign (.Name y py) X.env)) (fun _ s'=>SP X ze D .next s') acc C) hc c I2 T ab f2 hg ht he (fun v H'=>D.nx (σ.set i (some v)) H') q2 fun Da C H' s' m hn f hb q=>?_;obtain⟨o,es,ep,ho,hd,r⟩:=hn;have I':Inv X ze σ H' s':=hb s'.heap (Heap.SameBut.refl _ _);have I'':Inv X (ze++[(C,o)]) σ H' s':=I'.pins_of fun p hp=>(mem_append.mp hp).elim (fun z=>I'.pin p (fh _ z)) fun z=>by
  cases mem_singleton.mp z;exact⟨ho,f.1,f.2.1,f.2.2.1,fun v e=>by rw[hd]at e;cases e⟩
 refine wpAny_assign_Name (qB I'' hN ac (.inl hl) (show RelV (V.ref Da) (ig Da)from rfl) (fun s2 J2=>?_) (.inr hl));refine⟨m,⟨o,es,ep,(J2.pin (C,o) (fh _ (fh _ (mem_singleton.mpr rfl)))).1,hd,r⟩,fun h' hs=>?_⟩;exact⟨_,H',J2.unpinned.turned (t':=s2.toks) (fun b ob nb e=>hs.extBut b ob nb e) f.1 f.2.1 f.2.2.2.1 f.2.2.2.2.1 f.2.2.2.2.2,q⟩
end
def cO(env:Env):List (Str×kw)->List (Str×Addr)->List (Str×Addr)
 | [],acc=>acc
 | (n,k)::r,acc=>cO env r (if k==.free then (n,(env.cells.lookup n).getD 0)::acc else acc)
theorem uH{env:Env}{x:Str}{c:Addr}:∀{names:List (Str×kw)}{acc:List (Str×Addr)},(x,c)∈cO env names acc->(x,c)∈acc\/((x,NameKind.free)∈names/\c=(env.cells.lookup x).getD 0)
 | [],_,h=>.inl h
 | (n,k)::r,acc,h=>by
  rcases uH (names:=r) h with h|⟨h,e⟩
  ·by_cases hk:k==.free
   ·rw[cf hk]at h;rcases mem_cons.mp h with h|h
    ·cases h;have:k=.free:=by simpa using hk
     subst this;exact .inr ⟨dh,rfl⟩
    ·exact .inl h
   ·rw[cb hk]at h;exact .inl h
  ·exact .inr ⟨cr _ h,e⟩
theorem AI{env:Env}{p:Str×Addr}:∀{names:List (Str×kw)}{acc:List (Str×Addr)},p∈acc->p∈cO env names acc
 | [],_,h=>h
 | (n,k)::r,acc,h=>AI (names:=r) (by split<;>first|exact cr _ h|exact h)
theorem qJ{env:Env}{x:Str}:∀{names:List (Str×kw)}{acc:List (Str×Addr)},(x,NameKind.free)∈names->∃c,(x,c)∈cO env names acc
 | (n,k)::r,acc,h=>by
  rcases mem_cons.mp h with h|h
  ·cases h;exact⟨_,AI (names:=r) (by rw[cf dz];exact dh)⟩
  ·exact qJ (names:=r) h
theorem rD{β:Type}{x:Str}{c:β}:∀{l:List (Str×β)},(x,c)∈l->∃c',l.lookup x=some c'
 | (n,v)::r,h=>by
  cases e:x==n with
  |true=>exact⟨v,by rw[jz,e]⟩
  |false=>
   rcases mem_cons.mp h with h|h
   ·cases h;simp at e
   ·obtain⟨c',q⟩:=rD (l:=r) h;exact⟨c',by rw[jz,e];exact q⟩
theorem FW{env:Env}{scope:Scope}(h:∀y∈scope.names,y.2=.free->(env.cells.lookup y.1).isSome=true):closureFor scope env=pure (cO env scope.names []):=by
 have go:∀(names:List (Str×kw)) (acc:List (Str×Addr)),(∀y∈names,y.2=.free->(env.cells.lookup y.1).isSome=true) ->
   (forIn names acc (fun(x:Str×kw) (cs:List (Str×Addr))=>(if x.2==.free then (do let c <- cellOf env x.1;pure (nc ((x.1,c)::cs)))else pure (nc cs):Sem (ForInStep (List (Str×Addr))))))=(pure (cO env names acc):Sem (List (Str×Addr))):=by
  intro names;induction names with
  |nil=>intro acc _;rfl
  |cons y r ih=>
   intro acc hy;obtain⟨n,k⟩:=y;rw[List.forIn_cons];by_cases hk:k==.free
   ·have hs:=hy (n,k) dh (by simpa using hk);obtain⟨c,hc⟩:=isSome_iff_exists.mp hs;have z:env.cells.lookup n=some c:=hc;simp only[hk,if_true,cellOf,z,pure_bind,cO,Option.getD_some];exact ih _ fun y q=>hy y (cr _ q)
   ·simp only[hk,cw,if_false,pure_bind,cO];exact ih _ fun y q=>hy y (cr _ q)
 have g:=go scope.names [] h;exact(bind_pure _).trans g
def bX(DN:List Str)(dsc sc:List (Str×kw))(N:List Str)(caps:List (Option Nat)):Bool:=
 (caps.length==N.length)&&sc.all (fun y=>y.2 != .cell&&(y.2 != .free||dsc.lookup y.1==some .cell)&&(y.2 != .local||sc.lookup y.1==some .local)) &&
 (caps.zip N).all fun p=>match p.1 with|none=>true|some i=>DN[i]?==some p.2&&dsc.lookup p.2==some .cell&&sc.lookup p.2==some .free
theorem rZ{dsc:List (Str×kw)}{env:Env}{x:Str}{k:kw}:∀{names:List (Str×kw)},(names.map fun(n,k)=>if (k==.free&&env.scope.kind==.function&&env.kindOf n==some .cell)then (n,.cell)else (n,k)).lookup x=some k ->
  ∃k',names.lookup x=some k'/\(k'=k\/(k'=.free/\k=.cell))
 | [],h=>by simp at h
 | (n,k0)::r,h=>by
  cases e:x==n with
  |true=>
   refine⟨k0,by rw[jz,e],?_⟩;rw[lh]at h;dsimp only at h;split at h
   ·rename_i hc;rw[jz,e]at h;have:k0=.free:=by simp at hc;exact hc.1.1
    cases h;exact .inr ⟨this,rfl⟩
   ·rw[jz,e]at h;cases h;exact .inl rfl
  |false=>
   rw[lh]at h;dsimp only at h;have h':(r.map fun(n,k)=>if (k==NameKind.free&&env.scope.kind==.function&&env.kindOf n==some .cell)then (n,NameKind.cell)else (n,k)).lookup x=some k:=by
    split at h<;>(rw[jz,e]at h;exact h)
   obtain⟨k',q,z⟩:=rZ (dsc:=dsc) h';exact⟨k',by rw[jz,e];exact q,z⟩
theorem AJ{env:Env}{x:Str}(h1:env.scope.kind=.function)(h2:env.kindOf x=some .cell):∀{names:List (Str×kw)},names.lookup x=some .free ->
  (names.map fun(n,k)=>if (k==.free&&env.scope.kind==.function&&env.kindOf n==some .cell)then (n,.cell)else (n,k)).lookup x=some .cell
 | [],h=>by simp at h
 | (n,k0)::r,h=>by
  rw[lh];cases e:x==n with
  |true=>
   rw[jz,e]at h;cases h;have en:x=n:=by simpa using e
   subst en;dsimp only;rw[cf (by rw[h1,h2];decide),jz,e]
  |false=>
   rw[jz,e]at h;have ih:=AJ h1 h2 (names:=r) h;dsimp only;split<;>(rw[jz,e];exact ih)
theorem cH{X:Cx}{dsc:Scope}{L:Nat}{scope:Scope}{N:List Str}{caps:List (Option Nat)}(hd:X.env.scope=dsc)(hc:X.env.cells=cellsFrom L dsc.names [])(ag:dsc.kind=.function)(hk:scope.kind=.function)(h:bX X.N dsc.names scope.names N caps=true):
  CompOk X scope (cO X.env scope.names []) N caps:=by
 subst hd;simp only[bX,iy,all_eq_true,beq_iff_eq]at h;obtain⟨⟨hl,hs⟩,hz⟩:=h;have ab:∀y∈scope.names,y.2=.free->X.env.scope.names.lookup y.1=some .cell:=fun y hy e=>by
  have q:=(hs y hy).1.2;rw[e]at q;simpa using q
 have aa:∀y∈scope.names,y.2≠.cell:=fun y hy e=>by
  have q:=(hs y hy).1.1;rw[e]at q;simp at q
 have ac:∀x,X.env.scope.names.lookup x=some .cell->(X.env.cells.lookup x).isSome=true:=fun x e=>by
  rw[hc];exact W.cellsFrom_some _ _ _ (.inl e)
 have sub:∀x c,(cO X.env scope.names []).lookup x=some c->X.env.cells.lookup x=some c:=fun x c e=>by
  rcases uH (PySem.mem_of_lookup e)with q|⟨q,ec⟩
  ·cases q
  ·obtain⟨c',ae⟩:=isSome_iff_exists.mp (ac x (ab _ q rfl));rw[ec,ae];rfl
 refine⟨FW fun y hy e=>ac y.1 (ab y hy e),sub,hk,aa,fun y hy e=>?_,fun x hx=>?_,fun j i x h1 h2=>?_,hl⟩
 ·have q:=(hs y hy).2;rw[e]at q;simpa using q
 ·have fin:(x,NameKind.free)∈scope.names->∃c,(cO X.env scope.names []).lookup x=some c:=fun m=>by
   obtain⟨c,hm⟩:=qJ (env:=X.env) (acc:=[]) m;exact rD hm
  rcases hx with hx|hx
  ·obtain⟨k',q,z⟩:=rZ (dsc:=[]) hx;rcases z with rfl|⟨rfl,_⟩
   ·exact absurd rfl (aa _ (PySem.mem_of_lookup q))
   ·exact fin (PySem.mem_of_lookup q)
  ·obtain⟨k',q,z⟩:=rZ (dsc:=[]) hx;rcases z with rfl|⟨_,z⟩
   ·exact fin (PySem.mem_of_lookup q)
   ·cases z
 ·have hm:(some i,x)∈caps.zip N:=by
   have:(caps.zip N)[j]?=some (some i,x):=by rw[List.getElem?_zip_eq_some];exact⟨h1,h2⟩
   exact bq this
  have q:=hz _ hm;simp only[iy,beq_iff_eq]at q;obtain⟨⟨q1,q2⟩,q3⟩:=q;obtain⟨c,af⟩:=qJ (env:=X.env) (acc:=[]) (PySem.mem_of_lookup q3);obtain⟨c',ae⟩:=rD af;refine⟨q1,.inr (.inl q2),fun z=>?_,c',ae,.inl (AJ ag q2 q3)⟩;have z':X.env.scope.names.lookup x=some .local:=z;rw[q2]at z';cases z'
end
section
section
variable {X:Cx}
def wH:R2:=fun x y H Q=>∃z n,x=.str z/\y=.int n/\z.length<=1000/\n<=1000/\-1000<=n/\Q (.str (PySem.Txt.mul z n)) H
theorem BI{z:Str}{n:Int}(h1:z.length<=1000)(h2:n<=1000)(h3:-1000<=n):PySem.MulOk z n:=by
 refine⟨by simp;omega,fun a _ b=>?_,fun a _=>?_⟩
 ·have e:(1000:Int)<=(2 ^ 63-1)/n:=by
   rw[Int.le_ediv_iff_mul_le yw];have:=Int.mul_le_mul_of_nonneg_left h2 (show (0:Int)<=1000 by decide);omega
  omega
 ·have e:z.length*n.toNat<=1000*1000:=Nat.mul_le_mul h1 yw;unfold Builtin.Str.tooLong;simp only[decide_eq_false_iff_not,Nat.not_lt];exact gq e dz
theorem Ar:OpR X (jq .Mult) wH:=by
 intro ze s σ H x y v u Q I rx ry h;obtain⟨z,n,rfl,rfl,h1,h2,h3,q⟩:=h;obtain⟨t,rfl⟩:=rx;obtain⟨t',rfl⟩:=ry;exact PySem.SB.mul (BI h1 h2 h3) fun _ k=>⟨.str _,H,I.tok _,⟨_,rfl⟩,q⟩
def yQ:V->Option Int->Option Int->Hp->VK->Prop:=fun x lo hi H Q=>∃z,x=.str z/\z.length<=dw/\Q (.str (PySem.Txt.slice z lo hi)) H
theorem FI:SlR X yQ:=by
 intro ze s σ H x v vl vu lo hi sl Q I rx hs pl pu h;obtain⟨z,rfl,hz,q⟩:=h;obtain⟨t,rfl⟩:=rx;refine⟨"str",_,F.slot_str_getitem.lookup,typeIs_str _ _ _,?_⟩;have fin:∀(a b:Option (Int×Tok)),a.map (·.1)=lo->b.map (·.1)=hi->s.heap.IsSlice sl a b none->ck (model X.prog X.w) X.A (getItem (.str z t) (.ref sl)) (EP X ze σ Q) X.xe s:=fun a b e1 e2 aa=>by
  subst e1 e2;exact wpAny_getItem_str_slice (l:=a) (u:=b) (st:=none) aa rfl (post_val_or_str ⟨gq (PySem.Txt.slice_le z _ _) hz,fun _ k=>⟨.str _,H,I.tok _,⟨_,rfl⟩,q⟩⟩)
 cases pl with
 |none=>
  cases pu with
  |none=>exact fin none none rfl rfl hs
  |int j tj=>exact fin none (some (j,tj)) rfl rfl hs
 |int i ti=>
  cases pu with
  |none=>exact fin (some (i,ti)) none rfl rfl hs
  |int j tj=>exact fin (some (i,ti)) (some (j,tj)) rfl rfl hs
theorem tU:∀{zs:List Str}{us:List bn},Vals (zs.map V.str) us->StrsAre us zs
 | [],_,.nil=>.nil
 |z::zs,_,.cons r t=>by
  obtain⟨tk,rfl⟩:=r;exact .cons z tk (tU t)
def tI(K:cu):V->List V->Hp->VK->Prop:=fun x vs H Q=>∃z a zs,x=.str z/\vs=[.ref a]/\SqL K H a (zs.map V.str)/\z.length<=16/\zs.length<=1000/\(∀y∈zs,y.length<=1000)/\Q (.str (PySem.Txt.join z zs)) H
theorem AR{zs:List Str}(h:∀y∈zs,y.length<=1000):(zs.map (·.length)).sum<=zs.length*1000:=by
 induction zs with
 |nil=>simp
 |cons z zs ih=>
  have h1:=h z dh;have h2:=ih fun y hy=>h y (cr _ hy);simp only[lh,sum_cons,fj,add_mul,Nat.one_mul];omega
theorem DJ:MtR X "str.join" (tI X.K):=by
 intro ze s σ H x vs v us Q I rx rv h;obtain⟨z,a,zs,rfl,rfl,hq,hz,hn,hl,q⟩:=h;obtain⟨t,rfl⟩:=rx;obtain⟨u,rfl,r1⟩:=rv.one;cases r1;obtain⟨ab,r,pl,aa⟩:=I.list hq;have hs:=AR hl;refine join_listW pl.isList (by simpa using tU r) hz yw fun _ k=>⟨.str _,H,I.tok _,⟨_,rfl⟩,q⟩
end
section
variable {K:cu}{o:List Addr}{σ:St}{H0:Hp}{t:TE}{ta:TA}{ds:List bo}
def fC(lo:Int)(n:Nat):List bo:=(fu n).map fun k:Nat=>.int (lo+k)
theorem gA{lo:Int}{n:Nat}:(fC lo n).length=n:=by simp[fC]
theorem iO{lo:Int}{n i:Nat}{d:bo}(h:(fC lo n)[i]?=some d):i<n/\d=.int (lo+i):=by
 have hi:i<n:=by
  have:=List.getElem?_eq_some_iff.mp h;obtain⟨hl,_⟩:=this
  rwa [gA]at hl
 refine⟨hi,?_⟩;simp only[fC,gh,List.getElem?_range hi,map_some,Option.some.injEq]at h;exact h.symm
end
theorem Bn{y:Str}{zs:List Str}(hy:y.length<=16)(hz:∀z∈zs,z.length<=1000):(PySem.Txt.join y zs).length<=zs.length*1016:=by
 show (Builtin.Str.glued y zs).length<=_;rw[StrLaws.glued_eq_join];cases zs with
 |nil=>exact jo _
 |cons a r=>
  rw[len_join_cons];have h1:=AR hz;have h2:r.length*y.length<=r.length*16:=Nat.mul_le_mul_left _ hy;simp only[fj]at h1 ⊢;omega
def aH{α:Type}(xs:List α)(lo hi:Option Int):List α:=(xs.drop (HT.sIx xs.length 0 lo)).take (HT.sIx xs.length xs.length hi-HT.sIx xs.length 0 lo)
theorem HasL.drop{H:Hp}:∀{ds:List bo}{vs:List V} (n:Nat),HasL H ds vs->HasL H (ds.drop n) (vs.drop n)
 |ds,vs,0,h=>h
 | [],vs,n+1,h=>by rw[zp.mp h];exact zp.mpr rfl
 |d::ds,vs,n+1,h=>by
  obtain⟨v,r,rfl,_,l⟩:=zm.mp h;exact HasL.drop n l
theorem HasL.take{H:Hp}:∀{ds:List bo}{vs:List V} (n:Nat),HasL H ds vs->HasL H (ds.take n) (vs.take n)
 |ds,vs,0,h=>zp.mpr rfl
 | [],vs,n+1,h=>by rw[zp.mp h];exact zp.mpr rfl
 |d::ds,vs,n+1,h=>by
  obtain⟨v,r,rfl,q,l⟩:=zm.mp h;exact zm.mpr ⟨v,_,rfl,q,HasL.take n l⟩
theorem HasL.cut{H:Hp}{ds:List bo}{vs:List V}(lo hi:Option Int)(h:HasL H ds vs):HasL H (aH ds lo hi) (bY vs lo hi):=by
 unfold aH bY;rw[h.length];exact(h.drop _).take _
theorem HasL.rev{H:Hp}:∀{ds:List bo}{vs:List V},HasL H ds vs->HasL H ds.reverse vs.reverse
 | [],vs,h=>by rw[zp.mp h];exact zp.mpr rfl
 |d::ds,vs,h=>by
  obtain⟨v,r,rfl,q,l⟩:=zm.mp h;rw[reverse_cons,reverse_cons];exact(HasL.rev l).append (zm.mpr ⟨v,[],rfl,q,zp.mpr rfl⟩)
end
section
theorem sM:∀{l:List Addr}{H:Hp}{b:Addr}{u:HO},vw l H b=some u↔b∉l/\H b=some u
 | [],H,b,u=>by simp[vw]
 |a::r,H,b,u=>by
  show hid a (vw r H) b=some u↔_;by_cases h:b=a
  ·subst h;simp[EK]
  ·rw[F6 h,sM];simp[h]
def vx(h o:List Addr)(H:Hp):Hp:=vw (h++o) H
theorem zS{h o:List Addr}{H:Hp}{b:Addr}{u:HO}:vx h o H b=some u↔b∉h/\b∉o/\H b=some u:=by
 unfold vx;rw[sM];simp[and_assoc]
theorem bH{h o:List Addr}{H:Hp}:Same (vx h o H) H:=fun b u e=>(zS.mp e).2.2
theorem nE{h o:List Addr}{H H':Hp}(s:Same H H'):Same (vx h o H) (vx h o H'):=fun b u e=>by
 obtain⟨h1,h2,h3⟩:=zS.mp e;exact zS.mpr ⟨h1,h2,s b u h3⟩
structure Ex(o:List Addr)(H:Hp)(o':List Addr)(H':Hp):Prop where
 pre:∃r,o'=o++r
 kp:∀b u,b∉o->H b=some u->b∉o'/\H' b=some u
section
variable {h o o' o'':List Addr}{H H' H'':Hp}{S:List (List bo)}{p a:Addr}
theorem Ex.refl:Ex o H o H:=⟨⟨[],yv⟩,fun _ _ a b=>⟨a,b⟩⟩
theorem Ex.trans(a:Ex o H o' H')(b:Ex o' H' o'' H''):Ex o H o'' H'':=by
 obtain⟨⟨r,e⟩,ka⟩:=a;obtain⟨⟨t,e'⟩,kb⟩:=b;refine⟨⟨r++t,by rw[e',e,io]⟩,fun b u h1 h2=>?_⟩;obtain⟨h3,h4⟩:=ka b u h1 h2;exact kb b u h3 h4
theorem Ex.vx(e:Ex o H o' H'):Same (L2.vx h o H) (L2.vx h o' H'):=fun b u q=>by
 obtain⟨h1,h2,h3⟩:=zS.mp q;obtain⟨h4,h5⟩:=e.kp b u h2 h3;exact zS.mpr ⟨h1,h4,h5⟩
structure ExH(h o:List Addr)(H:Hp)(o':List Addr)(H':Hp):Prop where
 pre:∃r,o'=o++r
 kp:∀b u,b∉h->b∉o->H b=some u->b∉o'/\H' b=some u
theorem Ex.hid(e:Ex o H o' H'):ExH h o H o' H':=⟨e.pre,fun b u _=>e.kp b u⟩
theorem ExH.vx(e:ExH h o H o' H'):Same (L2.vx h o H) (L2.vx h o' H'):=fun b u q=>by
 obtain⟨h1,h2,h3⟩:=zS.mp q;obtain⟨h4,h5⟩:=e.kp b u h1 h2 h3;exact zS.mpr ⟨h1,h4,h5⟩
theorem Ex.of_same(s:Same H H'):Ex o H o H':=⟨⟨[],yv⟩,fun b u h e=>⟨h,s b u e⟩⟩
theorem eE{α:Type}{l t:List α}{k:Nat}{a:α}(q:l[k]?=some a):(l++t)[k]?=some a:=by
 obtain⟨hk,_⟩:=List.getElem?_eq_some_iff.mp q;rw[cx hk];exact q
def exO(a C:Addr)(d:Option Addr):HO:=.ext fun h=>∃o,h.get? a=some o/\o.cls=.ref C/\o.dict=d/\∃vs,o.data=.fields vs
def xw(dx:Addr)(fs:List (Str×V)):HO:=.ext fun h=>∃mA,h.Ns1 dx mA/\(∀f,RelO (fs.lookup f) (mA f))/\PySem.Within mA (fs.map (·.1))
def HasE(H:Hp)(C:Addr)(fs:List (Str×bo))(v:V):Prop:=∃a d,v=.ref a/\H a=some (exO a C d)/\∀f dt,fs.lookup f=some dt->∃dx vs u,d=some dx/\H dx=some (xw dx vs)/\vs.lookup f=some u/\Has H dt u
theorem HasE.mono{H H':Hp}{C:Addr}{fs:List (Str×bo)}{v:V}(s:Same H H')(q:HasE H C fs v):HasE H' C fs v:=by
 obtain⟨a,d,e,ha,hf⟩:=q;refine⟨a,d,e,s _ _ ha,fun f dt l=>?_⟩;obtain⟨dx,vs,u,e1,e2,e3,e4⟩:=hf f dt l;exact⟨dx,vs,u,e1,s _ _ e2,e3,Has.mono s _ _ e4⟩
inductive XV where
 |d (d:bo)
 |l (k:Nat)
 |o (v:V)
 |x (C:Addr) (fs:List (Str×bo))
 |p (k:Nat) (d:bo)
def HasLP(h o:List Addr)(H:Hp)(k:Nat)(d:bo)(v:V):Prop:=∃t a u,v=.ref t/\o[k]?=some a/\vx h o H t=some (.tup [.ref a,u])/\Has (vx h o H) d u
theorem HasLP.to{h':List Addr}{k:Nat}{d:bo}{v:V}(s:Same (vx h o H) (vx h' o' H'))(e:∀a,o[k]?=some a->o'[k]?=some a)(q:HasLP h o H k d v):HasLP h' o' H' k d v:=by
 obtain⟨t,a,u,e1,e2,e3,e4⟩:=q;exact⟨t,a,u,e1,e a e2,s _ _ e3,Has.mono s _ _ e4⟩
def HasX(h o:List Addr)(H:Hp):XV->V->Prop
 | .d d,v=>Has (vx h o H) d v
 | .l k,v=>∃a,o[k]?=some a/\v=.ref a
 | .o w,v=>v=w
 | .x C fs,v=>HasE (vx h o H) C fs v
 | .p k d,v=>HasLP h o H k d v
theorem HasX.mono(e:Ex o H o' H'):∀{x:XV}{v:V},HasX h o H x v->HasX h o' H' x v
 | .d d,v,q=>Has.mono e.vx d v q
 | .l k,v,⟨a,q,r⟩=>by
  obtain⟨t,rfl⟩:=e.pre;exact⟨a,eE q,r⟩
 | .o w,v,q=>q
 | .x C fs,v,q=>HasE.mono e.vx q
 | .p k d,v,q=>by
  have ev:=e.vx (h:=h);obtain⟨t,rfl⟩:=e.pre;exact HasLP.to ev (fun a z=>eE z) q
def HasXs(h o:List Addr)(H:Hp):List XV->List V->Prop
 | [],vs=>vs=[]
 |x::xs,vs=>∃v r,vs=v::r/\HasX h o H x v/\HasXs h o H xs r
abbrev Sto:=List (List bo)
inductive MO where
 |l (vs:List V)
 |k (m:List (Key×V))
 |t (m:List (List Key×V))
 |x (a:Addr) (ob:Obj)
def MO.ho:MO->HO
 | .l vs=>.lst vs
 | .k m=>.dK m
 | .t m=>.dT m
 | .x a ob=>obO a ob
structure RepS(h o:List Addr)(H:Hp)(S:Sto):Prop where
 len:S.length=o.length
 nd:o.Nodup
 dis:∀a∈o,a∉h
 hal:∀b∈h,∃u:MO,H b=some u.ho
 cont:∀(k:Nat) (a:Addr) (ds:List bo),o[k]?=some a->S[k]?=some ds->∃vs,H a=some (.lst vs)/\HasL (vx h o H) ds vs
theorem CQ{α β:Type}{l:List α}{t:List β}{k:Nat}{a:α}(hl:t.length=l.length)(q:l[k]?=some a):∃b,t[k]?=some b:=by
 obtain⟨hk,_⟩:=List.getElem?_eq_some_iff.mp q;exact⟨t[k]'yw,cp _⟩
theorem RepS.oal(r:RepS h o H S):∀a∈o,∃u,H a=some (.lst u):=fun a ha=>by
 obtain⟨k,hk⟩:=mem_iff_getElem?.mp ha;obtain⟨ds,e⟩:=CQ r.len hk;obtain⟨vs,e',_⟩:=r.cont k a ds hk e;exact⟨_,e'⟩
theorem RepS.oam(r:RepS h o H S):∀a∈o,∃u:MO,H a=some u.ho:=fun a ha=>let ⟨u,e⟩:=r.oal a ha;⟨.l u,e⟩
theorem RepS.fresh(r:RepS h o H S)(hp:H p=none):p∉h/\p∉o:=by
 constructor
 ·intro m;obtain⟨u,e⟩:=r.hal p m;rw[hp]at e;cases e
 ·intro m;obtain⟨u,e⟩:=r.oal p m;rw[hp]at e;cases e
theorem RepS.same(r:RepS h o H S)(s:Same H H'):RepS h o H' S where
 len:=r.len
 nd:=r.nd
 dis:=r.dis
 hal:=fun b m=>by obtain⟨u,e⟩:=r.hal b m;exact⟨u,s b _ e⟩
 cont:=fun k a ds e1 e2=>by
  obtain⟨vs,e3,l⟩:=r.cont k a ds e1 e2;exact⟨vs,s _ _ e3,HasL.mono (nE s) _ _ l⟩
theorem RepS.laid{u:HO}(r:RepS h o H S)(hp:H p=none):vx h o (upd H p u) p=some u:=by
 obtain⟨h1,h2⟩:=r.fresh hp;exact zS.mpr ⟨h1,h2,cX⟩
theorem Ex.new{u:HO}(r:RepS h o H S)(hp:H p=none):Ex o H (o++[p]) (upd H p u):=by
 refine⟨⟨[p],rfl⟩,fun b w hb e=>?_⟩;have ne:b≠p:=zL e hp;exact⟨by simp[hb,ne],by rw[zV ne];exact e⟩
theorem mJ{α:Type}{l:List α}{a:α}(h:l.Nodup)(n:a∉l):(l++[a]).Nodup:=by
 rw[nodup_append];refine⟨h,yv,fun x hx y hy e=>?_⟩;rw[mem_singleton]at hy;subst hy;subst e;exact n hx
theorem RepS.new{ds:List bo}{vs:List V}(r:RepS h o H S)(hp:H p=none)(l:HasL (vx h o H) ds vs):RepS h (o++[p]) (upd H p (.lst vs)) (S++[ds]):=by
 obtain⟨h1,h2⟩:=r.fresh hp;have ex:Ex o H (o++[p]) (upd H p (.lst vs)):=Ex.new r hp;refine⟨by simp[r.len],mJ r.nd h2,fun a ha=>?_,fun b hb=>?_,fun k a es e1 e2=>?_⟩
 ·rcases mem_append.mp ha with ha|ha
  ·exact r.dis a ha
  ·rw[mem_singleton.mp ha];exact h1
 ·obtain⟨u,e⟩:=r.hal b hb;exact⟨u,by rw[zV (zL e hp)];exact e⟩
 ·by_cases hk:k<o.length
  ·rw[cx hk]at e1;rw[cx (by rw[r.len];exact hk)]at e2;obtain⟨ws,e3,l3⟩:=r.cont k a es e1 e2;refine⟨ws,?_,l3.mono ex.vx⟩;rw[zV (zL e3 hp)];exact e3
  ·have z:k=o.length:=by
    obtain⟨q,_⟩:=List.getElem?_eq_some_iff.mp e1;rw[cq,fr]at q;omega
   subst z;rw[ca]at e1;rw[<- r.len,ca]at e2;cases e1;cases e2;exact⟨vs,cX,l.mono ex.vx⟩
theorem Ex.upd{k:Nat}{u:HO}(e:o[k]?=some a):Ex o H o (L2.upd H a u):=
 ⟨⟨[],yv⟩,fun b w hb eb=>⟨hb,by rw[zV (fun z=>hb (by rw[z];exact bq e))];exact eb⟩⟩
theorem kW{l:List Addr}(h:l.Nodup){i j:Nat}{a:Addr}(e1:l[i]?=some a)(e2:l[j]?=some a):i=j:=by
 obtain⟨hi,e1⟩:=List.getElem?_eq_some_iff.mp e1;obtain⟨hj,e2⟩:=List.getElem?_eq_some_iff.mp e2;exact(List.getElem_inj h).mp (e1.trans e2.symm)
theorem RepS.upd{k:Nat}{ds:List bo}{vs:List V}(r:RepS h o H S)(e:o[k]?=some a)(l:HasL (vx h o H) ds vs):RepS h o (L2.upd H a (.lst vs)) (S.set k ds):=by
 have ex:Ex o H o (L2.upd H a (.lst vs)):=Ex.upd e;refine⟨by simp[r.len],r.nd,r.dis,fun b hb=>?_,fun j b es e1 e2=>?_⟩
 ·obtain⟨u,eb⟩:=r.hal b hb;have ne:b≠a:=fun z=>r.dis a (bq e) (z▸hb);exact⟨u,by rw[zV ne];exact eb⟩
 ·by_cases hj:j=k
  ·subst hj;rw[e1]at e;cases e;obtain⟨hk,_⟩:=List.getElem?_eq_some_iff.mp e1;rw[jr (by rw[r.len];exact hk)]at e2;cases e2;exact⟨vs,cX,l.mono ex.vx⟩
  ·rw[mn (nn hj)]at e2;obtain⟨ws,e3,l3⟩:=r.cont j b es e1 e2;have ne:b≠a:=fun z=>hj (kW r.nd e1 (z▸e));exact⟨ws,by rw[zV ne];exact e3,l3.mono ex.vx⟩
abbrev XE:=List (Option XV)
structure RepE(h o:List Addr)(H:Hp)(δ:XE)(σ:St):Prop where
 len:δ.length=σ.length
 get:∀(i:Nat) x,δ[i]?=some (some x)->∃v,σ[i]?=some (some v)/\HasX h o H x v
variable {δ:XE}{σ:St}
theorem RepE.mono(r:RepE h o H δ σ)(e:Ex o H o' H'):RepE h o' H' δ σ:=⟨r.len,fun i x q=>by
 obtain⟨v,e1,e2⟩:=r.get i x q;exact⟨v,e1,e2.mono e⟩⟩
theorem RepE.set{i:Nat}{x:XV}{v:V}(r:RepE h o H δ σ)(q:HasX h o H x v):RepE h o H (δ.set i (some x)) (σ.set i (some v)):=by
 refine⟨by simp[r.len],fun j y e=>?_⟩;rw[List.getElem?_set]at e ⊢;by_cases hij:i=j
 ·rw[cf hij]at e ⊢;by_cases hl:i<δ.length
  ·rw[cf hl]at e;rw[cf (by rw[<- r.len];exact hl)];cases e;exact⟨v,rfl,q⟩
  ·rw[cb hl]at e;cases e
 ·rw[cb hij]at e ⊢;exact r.get j y e
def cR(caps:List (Option Nat))(δ:XE):XE:=caps.map fun o=>o.bind fun i=>(δ[i]?).join
theorem RepE.tau{caps:List (Option Nat)}(r:RepE h o H δ σ):RepE h o H (cR caps δ) (L2.tau caps σ):=by
 refine⟨by simp[cR,L2.tau],fun i x e=>?_⟩;unfold cR at e;unfold L2.tau;rw[gh]at e ⊢;cases hc:caps[i]? with
 |none=>rw[hc]at e;cases e
 |some c=>
  rw[hc]at e;cases c with
  |none=>cases e
  |some j=>
   have e':(δ[j]?).join=some x:=by simpa using e
   have e2:δ[j]?=some (some x):=by
    cases hd:δ[j]? with
    |none=>rw[hd]at e';cases e'
    |some y=>rw[hd]at e';exact congrArg some (by simpa using e')
   obtain⟨v,e3,e4⟩:=r.get j x e2;exact⟨v,by simp[e3],e4⟩
end
abbrev RX:=XV->Sto->Prop
abbrev DE:=XE->Sto->RX->Prop
abbrev DT:=XE->Sto->(Bool->Sto->Prop)->Prop
abbrev DA:=XE->Sto->(List XV->Sto->Prop)->Prop
abbrev D2:=XV->XV->Sto->RX->Prop
def Cn(h o:List Addr)(H:Hp)(R:RX)(Q:VK):Prop:=∀o' H' S' x v,Ex o H o' H'->RepS h o' H' S'->HasX h o' H' x v->R x S'->Q v H'
theorem Cn.pre{h o o':List Addr}{H H':Hp}{R:RX}{Q:VK}(c:Cn h o H R Q)(e:Ex o H o' H'):Cn h o' H' R Q:=fun o2 H2 S2 x v e2=>c o2 H2 S2 x v (e.trans e2)
def RE(t:TE)(dt:DE):Prop:=∀(h o:List Addr) (H:Hp) (δ:XE) (σ:St) (S:Sto) (R:RX) (Q:VK),RepE h o H δ σ->RepS h o H S->dt δ S R->Cn h o H R Q->t σ H Q
def RT(t:TT)(dt:DT):Prop:=∀(h o:List Addr) (H:Hp) (δ:XE) (σ:St) (S:Sto) (R:Bool->Sto->Prop) (Q:Bool->Hp->Prop),RepE h o H δ σ->RepS h o H S->dt δ S R ->
 (∀o' H' S' b,Ex o H o' H'->RepS h o' H' S'->R b S'->Q b H')->t σ H Q
def RA(t:TA)(dt:DA):Prop:=∀(h o:List Addr) (H:Hp) (δ:XE) (σ:St) (S:Sto) (R:List XV->Sto->Prop) (Q:List V->Hp->Prop),RepE h o H δ σ->RepS h o H S->dt δ S R ->
 (∀o' H' S' xs vs,Ex o H o' H'->RepS h o' H' S'->HasXs h o' H' xs vs->R xs S'->Q vs H')->t σ H Q
def RO(r:R2)(rd:D2):Prop:=∀(h o:List Addr) (H:Hp) (S:Sto) (x y:XV) (v u:V) (R:RX) (Q:VK),RepS h o H S->HasX h o H x v->HasX h o H y u->rd x y S R->Cn h o H R Q->r v u H Q
def RU(r:V->Hp->VK->Prop)(rd:XV->Sto->RX->Prop):Prop:=∀(h o:List Addr) (H:Hp) (S:Sto) (x:XV) (v:V) (R:RX) (Q:VK),RepS h o H S->HasX h o H x v->rd x S R->Cn h o H R Q->r v H Q
def RC(r:List V->Hp->VK->Prop)(rd:List XV->Sto->RX->Prop):Prop:=∀(h o:List Addr) (H:Hp) (S:Sto) (xs:List XV) (vs:List V) (R:RX) (Q:VK),RepS h o H S->HasXs h o H xs vs->rd xs S R->Cn h o H R Q->r vs H Q
def asI:XV->(Int->Prop)->Prop
 | .d (.int i),k=>k i
 |_,_=>False
def asB:XV->(Bool->Prop)->Prop
 | .d (.bool i),k=>k i
 |_,_=>False
def asS:XV->(Str->Prop)->Prop
 | .d (.str i),k=>k i
 |_,_=>False
def asT:XV->(List bo->Prop)->Prop
 | .d (.tuple i),k=>k i
 |_,_=>False
def dE(S:Sto):XV->Option (List bo)
 | .d (.list ds)=>some ds
 | .l k=>S[k]?
 |_=>none
def asL(S:Sto)(x:XV)(k:List bo->Prop):Prop:=∃ds,dE S x=some ds/\k ds
def aT(S:Sto):XV->Option bo
 | .d d=>some d
 | .l k=>(S[k]?).map .list
 | .o _=>none
 | .x _ _=>none
 | .p k d=>(S[k]?).map fun l=>.tuple [.list l,d]
def asD(x:XV)(k:bo->Prop):Prop:=match x with
 | .d d=>k d
 |_=>False
theorem aU{x:XV}{k:Int->Prop}(h:asI x k):∃i,x=.d (.int i)/\k i:=by
 unfold asI at h;split at h
 ·exact⟨_,rfl,h⟩
 ·exact h.elim
theorem nP{x:XV}{k:Bool->Prop}(h:asB x k):∃i,x=.d (.bool i)/\k i:=by
 unfold asB at h;split at h
 ·exact⟨_,rfl,h⟩
 ·exact h.elim
theorem qA{x:XV}{k:Str->Prop}(h:asS x k):∃i,x=.d (.str i)/\k i:=by
 unfold asS at h;split at h
 ·exact⟨_,rfl,h⟩
 ·exact h.elim
theorem iA{x:XV}{k:List bo->Prop}(h:asT x k):∃i,x=.d (.tuple i)/\k i:=by
 unfold asT at h;split at h
 ·exact⟨_,rfl,h⟩
 ·exact h.elim
theorem pI{x:XV}{k:bo->Prop}(h:asD x k):∃i,x=.d i/\k i:=by
 unfold asD at h;split at h
 ·exact⟨_,rfl,h⟩
 ·exact h.elim
section
variable {h o:List Addr}{H:Hp}{S:Sto}{x:XV}{v:V}{i:Int}{b:Bool}{z:Str}{ds:List bo}{d:bo}
theorem aV(q:HasX h o H (.d (.int i)) v):v=.int i:=(fA (H:=vx h o H)).mp q
theorem gP(q:HasX h o H (.d (.bool b)) v):v=.bl b:=(eH (H:=vx h o H)).mp q
theorem cQ(q:HasX h o H (.d (.str z)) v):v=.str z:=(fK (H:=vx h o H)).mp q
theorem c8(q:HasX h o H (.d (.tuple ds)) v):∃a vs,v=.ref a/\H a=some (.tup vs)/\HasL (vx h o H) ds vs:=by
 obtain⟨a,vs,e,q,l⟩:=cN.mp (show Has _ _ _ from q);exact⟨a,vs,e,bH _ _ q,l⟩
theorem aY(r:RepS h o H S)(e:dE S x=some ds)(q:HasX h o H x v):∃a vs,v=.ref a/\H a=some (.lst vs)/\HasL (vx h o H) ds vs:=by
 unfold dE at e;split at e
 ·cases e;obtain⟨a,vs,e,q,l⟩:=cB.mp (show Has _ _ _ from q);exact⟨a,vs,e,bH _ _ q,l⟩
 ·obtain⟨a,e1,rfl⟩:=q;obtain⟨vs,e2,l⟩:=r.cont _ a ds e1 e;exact⟨a,vs,rfl,e2,l⟩
 ·cases e
theorem d8(r:RepS h o H S)(e:aT S x=some d)(q:HasX h o H x v):Has H d v:=by
 unfold aT at e;split at e
 ·cases e;exact Has.mono bH _ _ q
 ·rename_i k;obtain⟨a,e1,rfl⟩:=q;cases hs:S[k]? with
  |none=>rw[hs]at e;cases e
  |some es=>
   rw[hs]at e;cases e;obtain⟨vs,e2,l⟩:=r.cont k a es e1 hs;exact cB.mpr ⟨a,vs,rfl,e2,HasL.mono bH _ _ l⟩
 ·cases e
 ·cases e
 ·rename_i k d';obtain⟨t,a,u,rfl,e1,e3,e4⟩:=q;cases hs:S[k]? with
  |none=>rw[hs]at e;cases e
  |some es=>
   rw[hs]at e;cases e;obtain⟨vs,e2,l⟩:=r.cont k a es e1 hs;exact cN.mpr ⟨t,_,rfl,bH _ _ e3,zm.mpr ⟨_,_,rfl,cB.mpr ⟨a,vs,rfl,e2,HasL.mono bH _ _ l⟩,zm.mpr ⟨u,_,rfl,Has.mono bH _ _ e4,zp.mpr rfl⟩⟩⟩
theorem xI(i:Int):HasX h o H (.d (.int i)) (.int i):=(fA (H:=vx h o H)).mpr rfl
theorem xB(i:Bool):HasX h o H (.d (.bool i)) (.bl i):=(eH (H:=vx h o H)).mpr rfl
theorem xS(i:Str):HasX h o H (.d (.str i)) (.str i):=(fK (H:=vx h o H)).mpr rfl
theorem xN:HasX h o H (.d .none) .non:=(hG (H:=vx h o H)).mpr rfl
theorem kT{vs:List V}{R:RX}{Q:VK}(r:RepS h o H S)(l:HasL (vx h o H) ds vs)(c:Cn h o H R Q)(q:R (.d (.tuple ds)) S):∀p,H p=none->Q (.ref p) (upd H p (.tup vs)):=fun p hp=>
 c o _ S (.d (.tuple ds)) _ (Ex.of_same (Same.laid hp)) (r.same (Same.laid hp)) (cN.mpr ⟨p,vs,rfl,r.laid hp,l.mono (nE (Same.laid hp))⟩) q
theorem k9{vs:List V}{R:RX}{Q:VK}(r:RepS h o H S)(l:HasL (vx h o H) ds vs)(c:Cn h o H R Q)(q:R (.d (.list ds)) S):∀p,H p=none->Q (.ref p) (upd H p (.lst vs)):=fun p hp=>
 c o _ S (.d (.list ds)) _ (Ex.of_same (Same.laid hp)) (r.same (Same.laid hp)) (cB.mpr ⟨p,vs,rfl,r.laid hp,l.mono (nE (Same.laid hp))⟩) q
theorem AU{vs:List V}{R:RX}{Q:VK}(r:RepS h o H S)(l:HasL (vx h o H) ds vs)(c:Cn h o H R Q)(q:R (.l S.length) (S++[ds])):∀p,H p=none->Q (.ref p) (upd H p (.lst vs)):=fun p hp=>
 c (o++[p]) _ (S++[ds]) (.l S.length) _ (Ex.new r hp) (r.new hp l) ⟨p,by rw[r.len,ca],rfl⟩ q
theorem nV:∀{xs:List XV}{vs:List V}{ds:List bo},HasXs h o H xs vs->xs=ds.map XV.d->HasL (vx h o H) ds vs
 | [],vs,[],q,_=>zp.mpr q
 |x::xs,vs,d::ds,⟨v,r,e,q,l⟩,e2=>by
  rw[lh]at e2;cases e2;exact zm.mpr ⟨v,r,e,q,nV l rfl⟩
 |x::xs,vs,[],_,e2=>by cases e2
 | [],vs,d::ds,_,e2=>by cases e2
end
def datas:List XV->Option (List bo)
 | []=>some []
 | .d d::r=>(datas r).map (d :: ·)
 |_::_=>none
theorem eM:∀{xs:List XV}{ds:List bo},datas xs=some ds->xs=ds.map XV.d
 | [],ds,e=>by cases e;rfl
 | .d d::r,ds,e=>by
  unfold datas at e;cases hr:datas r with
  |none=>rw[hr]at e;cases e
  |some es=>
   rw[hr]at e;cases e;rw[eM hr];rfl
 | .l _::_,_,e=>by cases e
 | .o _::_,_,e=>by cases e
 | .x _ _::_,_,e=>by cases e
 | .p _ _::_,_,e=>by cases e
def zi(i:Nat):DE:=fun δ S R=>∃x,δ[i]?=some (some x)/\R x S
def dC(d:bo):DE:=fun _ S R=>R (.d d) S
def dO(v:V):DE:=fun _ S R=>R (.o v) S
def dOp(rd:D2)(a b:DE):DE:=fun δ S R=>a δ S fun x S1=>b δ S1 fun y S2=>rd x y S2 R
def dUn(rd:XV->Sto->RX->Prop)(a:DE):DE:=fun δ S R=>a δ S fun x S1=>rd x S1 R
def zt:DA:=fun _ S R=>R [] S
def zb(a:DE)(b:DA):DA:=fun δ S R=>a δ S fun x S1=>b δ S1 fun xs S2=>R (x::xs) S2
def dCB(rd:List XV->Sto->RX->Prop)(a:DA):DE:=fun δ S R=>a δ S fun xs S1=>rd xs S1 R
def aQ(a:DA):DE:=fun δ S R=>a δ S fun xs S1=>∃ds,datas xs=some ds/\ds.length<=1000/\R (.d (.tuple ds)) S1
def aM(a:DA):DE:=fun δ S R=>a δ S fun xs S1=>∃ds,datas xs=some ds/\ds.length<=1000/\R (.d (.list ds)) S1
def bF(a:DA):DE:=fun δ S R=>a δ S fun xs S1=>∃ds,datas xs=some ds/\ds.length<=1000/\R (.l S1.length) (S1++[ds])
section
variable {t ta tb tc:TE}{da db dc:DE}{tl:TA}{dl:DA}{tt tu:TT}{dt du:DT}
theorem zl{i:Nat}:RE (eG i) (zi i):=fun h o H δ σ S R Q he hs ⟨x,e,q⟩ c=>by
 obtain⟨v,e1,e2⟩:=he.get i x e;exact⟨v,e1,c o H S x v Ex.refl hs e2 q⟩
theorem zN{i:Int}:RE (tC (.int i)) (dC (.int i)):=fun h o H δ σ S R Q he hs q c=>c o H S _ _ Ex.refl hs (xI i) q
theorem hZ{i:Bool}:RE (tC (.bl i)) (dC (.bool i)):=fun h o H δ σ S R Q he hs q c=>c o H S _ _ Ex.refl hs (xB i) q
theorem nC{i:Str}:RE (tC (.str i)) (dC (.str i)):=fun h o H δ σ S R Q he hs q c=>c o H S _ _ Ex.refl hs (xS i) q
theorem Cs{v:V}:RE (tC v) (dO v):=fun h o H δ σ S R Q he hs q c=>c o H S (.o v) v Ex.refl hs rfl q
theorem zU{r:R2}{rd:D2}(hr:RO r rd)(ha:RE ta da)(hb:RE tb db):RE (tOp r ta tb) (dOp rd da db):=fun h o H δ σ S R Q he hs q c=>
 ha h o H δ σ S _ _ he hs q fun o1 H1 S1 x v e1 s1 x1 d1=>hb h o1 H1 δ σ S1 _ _ (he.mono e1) s1 d1 fun o2 H2 S2 y u e2 s2 y2 d2=>
  hr h o2 H2 S2 x y v u R Q s2 (x1.mono e2) y2 d2 (c.pre (e1.trans e2))
theorem E2{r:V->Hp->VK->Prop}{rd:XV->Sto->RX->Prop}(hr:RU r rd)(ha:RE ta da):RE (tUn r ta) (dUn rd da):=fun h o H δ σ S R Q he hs q c=>
 ha h o H δ σ S _ _ he hs q fun o1 H1 S1 x v e1 s1 x1 d1=>hr h o1 H1 S1 x v R Q s1 x1 d1 (c.pre e1)
theorem zB:RA gX zt:=fun h o H δ σ S R Q he hs q c=>c o H S [] [] Ex.refl hs rfl q
theorem zj(ha:RE ta da)(hb:RA tl dl):RA (g7 ta tl) (zb da dl):=fun h o H δ σ S R Q he hs q c=>
 ha h o H δ σ S _ _ he hs q fun o1 H1 S1 x v e1 s1 x1 d1=>hb h o1 H1 δ σ S1 _ _ (he.mono e1) s1 d1 fun o2 H2 S2 xs vs e2 s2 x2 d2=>
  c o2 H2 S2 (x::xs) (v::vs) (e1.trans e2) s2 ⟨v,vs,rfl,x1.mono e2,x2⟩ d2
theorem dY{r:List V->Hp->VK->Prop}{rd:List XV->Sto->RX->Prop}(hr:RC r rd)(ha:RA tl dl):RE (tCB r tl) (dCB rd dl):=fun h o H δ σ S R Q he hs q c=>
 ha h o H δ σ S _ _ he hs q fun o1 H1 S1 xs vs e1 s1 x1 d1=>hr h o1 H1 S1 xs vs R Q s1 x1 d1 (c.pre e1)
theorem gT(ha:RA tl dl):RE (pQ tl) (aQ dl):=fun h o H δ σ S R Q he hs q c=>
 ha h o H δ σ S _ _ he hs q fun o1 H1 S1 xs vs e1 s1 x1 ⟨ds,e,hl,d1⟩=>by
  have l:=nV x1 (eM e);exact⟨by rw[l.length];exact jp (small1000 hl),kT s1 l (c.pre e1) d1⟩
theorem y4(ha:RA tl dl):RE (g4 tl) (aM dl):=fun h o H δ σ S R Q he hs q c=>
 ha h o H δ σ S _ _ he hs q fun o1 H1 S1 xs vs e1 s1 x1 ⟨ds,e,hl,d1⟩=>by
  have l:=nV x1 (eM e);exact⟨by rw[l.length];exact jp (small1000 hl),k9 s1 l (c.pre e1) d1⟩
theorem Au(ha:RA tl dl):RE (g4 tl) (bF dl):=fun h o H δ σ S R Q he hs q c=>
 ha h o H δ σ S _ _ he hs q fun o1 H1 S1 xs vs e1 s1 x1 ⟨ds,e,hl,d1⟩=>by
  have l:=nV x1 (eM e);exact⟨by rw[l.length];exact jp (small1000 hl),AU s1 l (c.pre e1) d1⟩
def dB(a:DE):DT:=fun δ S R=>a δ S fun x S1=>asB x fun b=>R b S1
def cI(a:DT):DT:=fun δ S R=>a δ S fun b S1=>R (!b) S1
def fE(a b:DT):DT:=fun δ S R=>a δ S fun x S1=>if x=true then b δ S1 R else R false S1
def dOr(a b:DT):DT:=fun δ S R=>a δ S fun x S1=>if x=true then R true S1 else b δ S1 R
def gH(a b:DE):DE:=fun δ S R=>a δ S fun x S1=>asB x fun c=>if c=true then b δ S1 R else R (.d (.bool false)) S1
def l5(a b:DE):DE:=fun δ S R=>a δ S fun x S1=>asB x fun c=>if c=true then R (.d (.bool true)) S1 else b δ S1 R
def fP(a:DE):DE:=fun δ S R=>a δ S fun x S1=>asB x fun c=>R (.d (.bool (!c))) S1
def dIf(c:DT)(a b:DE):DE:=fun δ S R=>c δ S fun x S1=>if x=true then a δ S1 R else b δ S1 R
theorem jX(ha:RE ta da):RT (qU ta) (dB da):=fun h o H δ σ S R Q he hs q c=>
 ha h o H δ σ S _ _ he hs q fun o1 H1 S1 x v e1 s1 x1 d1=>by
  replace d1:=nP d1;obtain⟨b,rfl,d1⟩:=d1;exact⟨b,gP x1,c o1 H1 S1 b e1 s1 d1⟩
theorem hV(ha:RT tt dt):RT (AG tt) (cI dt):=fun h o H δ σ S R Q he hs q c=>
 ha h o H δ σ S _ _ he hs q fun o1 H1 S1 b e1 s1 d1=>c o1 H1 S1 _ e1 s1 d1
theorem sP(ha:RT tt dt)(hb:RT tu du):RT (wJ tt tu) (fE dt du):=fun h o H δ σ S R Q he hs q c=>
 ha h o H δ σ S _ _ he hs q fun o1 H1 S1 b e1 s1 d1=>by
  cases b with
  |true=>exact eT (hb h o1 H1 δ σ S1 R Q (he.mono e1) s1 (by simpa using d1) fun o2 H2 S2 b e2=>c o2 H2 S2 b (e1.trans e2))
  |false=>exact e7 (c o1 H1 S1 false e1 s1 (by simpa using d1))
theorem wF(ha:RT tt dt)(hb:RT tu du):RT (tOr tt tu) (dOr dt du):=fun h o H δ σ S R Q he hs q c=>
 ha h o H δ σ S _ _ he hs q fun o1 H1 S1 b e1 s1 d1=>by
  cases b with
  |false=>exact e7 (hb h o1 H1 δ σ S1 R Q (he.mono e1) s1 (by simpa using d1) fun o2 H2 S2 b e2=>c o2 H2 S2 b (e1.trans e2))
  |true=>exact eT (c o1 H1 S1 true e1 s1 (by simpa using d1))
theorem EM(ha:RE ta da)(hb:RE tb db):RE (x4 ta tb) (gH da db):=fun h o H δ σ S R Q he hs q c=>
 ha h o H δ σ S _ _ he hs q fun o1 H1 S1 x v e1 s1 x1 d1=>by
  replace d1:=nP d1;obtain⟨b,rfl,d1⟩:=d1;refine⟨b,gP x1,?_⟩;cases b with
  |true=>exact eT (hb h o1 H1 δ σ S1 R Q (he.mono e1) s1 (by simpa using d1) (c.pre e1))
  |false=>exact e7 (c o1 H1 S1 _ _ e1 s1 (xB false) (by simpa using d1))
theorem Bw(ha:RE ta da):RE (wS ta) (fP da):=fun h o H δ σ S R Q he hs q c=>
 ha h o H δ σ S _ _ he hs q fun o1 H1 S1 x v e1 s1 x1 d1=>by
  replace d1:=nP d1;obtain⟨b,rfl,d1⟩:=d1;exact⟨b,gP x1,c o1 H1 S1 _ _ e1 s1 (xB _) d1⟩
def fZ(rd q:D2)(a b e:DE):DE:=fun δ S R=>a δ S fun x S1=>b δ S1 fun y S2=>rd x y S2 fun z S3=>asB z fun k=>if k=true then e δ S3 fun u S4=>q y u S4 R else R (.d (.bool false)) S3
theorem Ca{r r':R2}{rd aa:D2}(hr:RO r rd)(ab:RO r' aa)(ha:RE ta da)(hb:RE tb db)(hc:RE tc dc):RE (yM r r' ta tb tc) (fZ rd aa da db dc):=fun h o H δ σ S R Q he hs q c=>
 ha h o H δ σ S _ _ he hs q fun o1 H1 S1 x v e1 s1 x1 d1=>hb h o1 H1 δ σ S1 _ _ (he.mono e1) s1 d1 fun o2 H2 S2 y u e2 s2 y2 d2=>
  hr h o2 H2 S2 x y v u _ _ s2 (x1.mono e2) y2 d2 fun o3 H3 S3 z w e3 s3 z3 d3=>by
   replace d3:=nP d3;obtain⟨b,rfl,d3⟩:=d3;refine⟨b,gP z3,?_⟩;cases b with
   |false=>exact e7 (c o3 H3 S3 _ _ ((e1.trans e2).trans e3) s3 (xB false) (by simpa using d3))
   |true=>exact eT (hc h o3 H3 δ σ S3 _ _ (((he.mono e1).mono e2).mono e3) s3 (by simpa using d3) fun o4 H4 S4 k w' e4 s4 k4 d4=>ab h o4 H4 S4 y k u w' R Q s4 ((y2.mono e3).mono e4) k4 d4 (c.pre (((e1.trans e2).trans e3).trans e4)))
end
def dI(C:Int->Int->Prop)(g:Int->Int->Int):D2:=fun x y S R=>asI x fun i=>asI y fun j=>C i j/\R (.d (.int (g i j))) S
def dI0(g:Int->Int->Int):D2:=fun x y S R=>asI x fun i=>asI y fun j=>R (.d (.int (g i j))) S
def dIb(g:Int->Int->Bool):D2:=fun x y S R=>asI x fun i=>asI y fun j=>R (.d (.bool (g i j))) S
def dUI(g:Int->Int):XV->Sto->RX->Prop:=fun x S R=>asI x fun i=>R (.d (.int (g i))) S
def aW:D2:=fun x y S R=>∃d,aT S x=some d/\∃e,aT S y=some e/\dy d=true/\dy e=true/\R (.d (.bool (gm d e))) S
def dX:D2:=fun x y S R=>∃d,aT S x=some d/\∃e,aT S y=some e/\dy d=true/\dy e=true/\R (.d (.bool (!PyData.eqv d e))) S
def mM:D2:=fun x _ S R=>asD x fun d=>R (.d (.bool (gR d))) S
def FQ:D2:=fun x y S R=>asT x fun ds=>asI y fun i=>∃d,atI ds i=some d/\R (.d d) S
def EU:D2:=fun x y S R=>asL S x fun ds=>asI y fun i=>∃d,atI ds i=some d/\R (.d d) S
def FJ:D2:=fun x y S R=>asL S x fun ds=>asL S y fun es=>ds.length+es.length<=1000/\R (.d (.list (ds++es))) S
def Ev:D2:=fun x y S R=>asT x fun ds=>asT y fun es=>ds≠[]/\ds.length+es.length<=1000/\R (.d (.tuple (ds++es))) S
section
theorem eX{C:Int->Int->Prop}{g:Int->Int->Int}:RO (rI C fun i j=>.int (g i j)) (dI C g):=fun h o H S x y v u R Q hs hx hy q c=>by
 replace q:=aU q;obtain⟨i,rfl,q⟩:=q;replace q:=aU q;obtain⟨j,rfl,hc,q⟩:=q;exact⟨i,j,aV hx,aV hy,hc,c o H S _ _ Ex.refl hs (xI _) q⟩
theorem pZ{g:Int->Int->Int}:RO (rI0 fun i j=>.int (g i j)) (dI0 g):=fun h o H S x y v u R Q hs hx hy q c=>by
 replace q:=aU q;obtain⟨i,rfl,q⟩:=q;replace q:=aU q;obtain⟨j,rfl,q⟩:=q;exact⟨i,j,aV hx,aV hy,c o H S _ _ Ex.refl hs (xI _) q⟩
theorem u6{g:Int->Int->Bool}:RO (rI0 fun i j=>.bl (g i j)) (dIb g):=fun h o H S x y v u R Q hs hx hy q c=>by
 replace q:=aU q;obtain⟨i,rfl,q⟩:=q;replace q:=aU q;obtain⟨j,rfl,q⟩:=q;exact⟨i,j,aV hx,aV hy,c o H S _ _ Ex.refl hs (xB _) q⟩
theorem BJ{g:Int->Int}:RU (rU fun i=>.int (g i)) (dUI g):=fun h o H S x v R Q hs hx q c=>by
 replace q:=aU q;obtain⟨i,rfl,q⟩:=q;exact⟨i,aV hx,c o H S _ _ Ex.refl hs (xI _) q⟩
theorem tS:RO sX aW:=fun h o H S x y v u R Q hs hx hy q c=>by
 obtain⟨d,q1,e,q2,q3,q4,q⟩:=q;exact⟨d,e,d8 hs q1 hx,d8 hs q2 hy,q3,q4,c o H S _ _ Ex.refl hs (xB _) q⟩
theorem u9:RO wN dX:=fun h o H S x y v u R Q hs hx hy q c=>by
 obtain⟨d,q1,e,q2,q3,q4,q⟩:=q;exact⟨d,e,d8 hs q1 hx,d8 hs q2 hy,q3,q4,c o H S _ _ Ex.refl hs (xB _) q⟩
theorem HasL.atI{H:Hp}{ds:List bo}{vs:List V}{i:Int}{d:bo}(l:HasL H ds vs)(e:L2.atI ds i=some d):∃v,L2.atI vs i=some v/\Has H d v:=by
 unfold L2.atI at e ⊢;rw[l.length];cases hn:ixN ds.length i with
 |none=>rw[hn]at e;cases e
 |some j=>
  rw[hn]at e;exact l.get (show ds[j]?=some d from e)
theorem C2{K:cu}:RO (pF K) FQ:=fun h o H S x y v u R Q hs hx hy q c=>by
 replace q:=iA q;obtain⟨ds,rfl,q⟩:=q;replace q:=aU q;obtain⟨i,rfl,d,e,q⟩:=q;obtain⟨a,vs,rfl,ea,l⟩:=c8 hx;obtain⟨w,ew,hw⟩:=l.atI e;exact⟨a,vs,i,w,rfl,aV hy,.of ea,ew,c o H S (.d d) w Ex.refl hs hw q⟩
theorem yO{K:cu}:RO (qF K) EU:=fun h o H S x y v u R Q hs hx hy q c=>by
 obtain⟨ds,e0,q⟩:=q;replace q:=aU q;obtain⟨i,rfl,d,e,q⟩:=q;obtain⟨a,vs,rfl,ea,l⟩:=aY hs e0 hx;obtain⟨w,ew,hw⟩:=l.atI e;exact⟨a,vs,i,w,rfl,aV hy,.of ea,ew,c o H S (.d d) w Ex.refl hs hw q⟩
theorem DH:RO iD FJ:=fun h o H S x y v u R Q hs hx hy q c=>by
 obtain⟨ds,e0,es,e1,hl,q⟩:=q;obtain⟨a,vs,rfl,ea,la⟩:=aY hs e0 hx;obtain⟨b,us,rfl,eb,lb⟩:=aY hs e1 hy;exact⟨a,b,vs,us,rfl,rfl,ea,eb,by rw[la.length,lb.length];exact jp (small1000 hl),k9 hs (la.append lb) c q⟩
theorem A5{K:cu}:RO (pX K) Ev:=fun h o H S x y v u R Q hs hx hy q c=>by
 replace q:=iA q;obtain⟨ds,rfl,q⟩:=q;replace q:=iA q;obtain⟨es,rfl,hn,hl,q⟩:=q;obtain⟨a,vs,rfl,ea,la⟩:=c8 hx;obtain⟨b,us,rfl,eb,lb⟩:=c8 hy;refine⟨a,b,vs,us,rfl,rfl,.of ea,.of eb,fun z=>?_,by rw[la.length,lb.length];exact jp (small1000 hl),fun z=>?_,fun _=>kT hs (la.append lb) c q⟩
 ·subst z;have:=la.length;exact hn (fw this.symm)
 ·subst z;have e:es=[]:=fw lb.length.symm;subst e;rw[jb]at q;exact c o H S (.d (.tuple ds)) _ Ex.refl hs hx q
end
abbrev DO:=XE->Sto->(Option Int->Sto->Prop)->Prop
def RP(t:TO)(dt:DO):Prop:=∀(h o:List Addr) (H:Hp) (δ:XE) (σ:St) (S:Sto) (R:Option Int->Sto->Prop) (Q:Option Int->Hp->Prop),RepE h o H δ σ->RepS h o H S->dt δ S R ->
 (∀o' H' S' b,Ex o H o' H'->RepS h o' H' S'->R b S'->Q b H')->t σ H Q
def dG:DO:=fun _ S R=>R none S
def dA(a:DE):DO:=fun δ S R=>a δ S fun x S1=>asI x fun i=>R (some i) S1
theorem oZ:RP AC dG:=fun h o H δ σ S R Q he hs q c=>c o H S none Ex.refl hs q
theorem qT{t:TE}{da:DE}(ha:RE t da):RP (g0 t) (dA da):=fun h o H δ σ S R Q he hs q c=>
 ha h o H δ σ S _ _ he hs q fun o1 H1 S1 x v e1 s1 x1 d1=>by
  replace d1:=aU d1;obtain⟨i,rfl,d1⟩:=d1;exact⟨i,aV x1,c o1 H1 S1 _ e1 s1 d1⟩
abbrev D3:=XV->Option Int->Option Int->Sto->RX->Prop
def RL(r:V->Option Int->Option Int->Hp->VK->Prop)(rd:D3):Prop:=∀(h o:List Addr) (H:Hp) (S:Sto) (x:XV) (v:V) (a b:Option Int) (R:RX) (Q:VK),RepS h o H S->HasX h o H x v->rd x a b S R->Cn h o H R Q->r v a b H Q
def dSl(rd:D3)(e:DE)(a b:DO):DE:=fun δ S R=>e δ S fun x S1=>a δ S1 fun i S2=>b δ S2 fun j S3=>rd x i j S3 R
theorem o7{r:V->Option Int->Option Int->Hp->VK->Prop}{rd:D3}{te:TE}{de:DE}{ta tb:TO}{da db:DO}(hr:RL r rd)(z:RE te de)(ha:RP ta da)(hb:RP tb db):RE (tSl r te ta tb) (dSl rd de da db):=fun h o H δ σ S R Q he hs q c=>
 z h o H δ σ S _ _ he hs q fun o1 H1 S1 x v e1 s1 x1 d1=>ha h o1 H1 δ σ S1 _ _ (he.mono e1) s1 d1 fun o2 H2 S2 i e2 s2 d2=>hb h o2 H2 δ σ S2 _ _ ((he.mono e1).mono e2) s2 d2 fun o3 H3 S3 j e3 s3 d3=>
  hr h o3 H3 S3 x v i j R Q s3 ((x1.mono e2).mono e3) d3 (c.pre ((e1.trans e2).trans e3))
def Ep:D3:=fun x i j S R=>asL S x fun ds=>R (.d (.list (aH ds i j))) S
def A4:D3:=fun x i j S R=>asT x fun ds=>¬(HT.sIx ds.length 0 i=0/\HT.sIx ds.length ds.length j=ds.length)/\R (.d (.tuple (aH ds i j))) S
theorem vO{K:cu}:RL (l7 K) Ep:=fun h o H S x v a b R Q hs hx q c=>by
 obtain⟨ds,e0,q⟩:=q;obtain⟨p,vs,rfl,ea,l⟩:=aY hs e0 hx;exact⟨p,vs,rfl,.of ea,k9 hs (l.cut a b) c q⟩
theorem BT{K:cu}:RL (qO K) A4:=fun h o H S x v a b R Q hs hx q c=>by
 replace q:=iA q;obtain⟨ds,rfl,hn,q⟩:=q;obtain⟨p,vs,rfl,ea,l⟩:=c8 hx;exact⟨p,vs,rfl,.of ea,by rw[l.length];exact hn,kT hs (l.cut a b) c q⟩
def asQ(S:Sto):XV->Option (List bo)
 | .d (.tuple ds)=>some ds
 | .d (.list ds)=>some ds
 | .l k=>S[k]?
 |_=>none
theorem nA{h o:List Addr}{H:Hp}{S:Sto}{x:XV}{v:V}{ds:List bo}(r:RepS h o H S)(e:asQ S x=some ds)(q:HasX h o H x v):∃a vs,v=.ref a/\(H a=some (.tup vs)\/H a=some (.lst vs))/\HasL (vx h o H) ds vs:=by
 unfold asQ at e;split at e
 ·cases e;obtain⟨a,vs,e,q,l⟩:=c8 q;exact⟨a,vs,e,.inl q,l⟩
 ·cases e;obtain⟨a,vs,e,q,l⟩:=aY (x:=.d (.list ds)) (ds:=ds) r rfl q;exact⟨a,vs,e,.inr q,l⟩
 ·rename_i k;obtain⟨a,vs,e,q,l⟩:=aY (x:=.l k) r e q;exact⟨a,vs,e,.inr q,l⟩
 ·cases e
def arg1:List XV->(XV->Prop)->Prop
 | [x],k=>k x
 |_,_=>False
def arg2:List XV->(XV->XV->Prop)->Prop
 | [x,y],k=>k x y
 |_,_=>False
theorem bZ{xs:List XV}{k:XV->Prop}(h:arg1 xs k):∃x,xs=[x]/\k x:=by
 unfold arg1 at h;split at h
 ·exact⟨_,rfl,h⟩
 ·exact h.elim
theorem tD{xs:List XV}{k:XV->XV->Prop}(h:arg2 xs k):∃x y,xs=[x,y]/\k x y:=by
 unfold arg2 at h;split at h
 ·exact⟨_,_,rfl,h⟩
 ·exact h.elim
theorem hxs1{h o:List Addr}{H:Hp}{x:XV}{vs:List V}(q:HasXs h o H [x] vs):∃v,vs=[v]/\HasX h o H x v:=by
 obtain⟨v,r,e,hx,hr⟩:=q;cases hr;exact⟨v,e,hx⟩
theorem hxs2{h o:List Addr}{H:Hp}{x y:XV}{vs:List V}(q:HasXs h o H [x,y] vs):∃v u,vs=[v,u]/\HasX h o H x v/\HasX h o H y u:=by
 obtain⟨v,r,e,hx,q⟩:=q;obtain⟨u,e',hy⟩:=hxs1 q;subst e';exact⟨v,u,e,hx,hy⟩
def qH:XV->(String->Prop)->Prop
 | .o v,k=>∃c,v=.ty c/\k c
 |_,_=>False
def n6:XV->(Int->Prop)->Prop
 | .d d,k=>match d with
  | .int i=>k i
  | .bool b=>k (if b then 1 else 0)
  |_=>False
 |_,_=>False
theorem DR{x:XV}{k:String->Prop}(h:qH x k):∃c,x=.o (.ty c)/\k c:=by
 cases x with
 |o v=>
  obtain⟨c,rfl,h⟩:=h;exact⟨c,rfl,h⟩
 |d d=>exact h.elim
 |l j=>exact h.elim
 |x _ _=>exact h.elim
 |p _ _=>exact h.elim
theorem FP{x:XV}{k:Int->Prop}(h:n6 x k):(∃i,x=.d (.int i)/\k i)\/∃b,x=.d (.bool b)/\k (if b then 1 else 0):=by
 cases x with
 |d d=>
  cases d with
  |int i=>exact .inl ⟨i,rfl,h⟩
  |bool b=>exact .inr ⟨b,rfl,h⟩
  |_=>exact h.elim
 |_=>exact h.elim
def Dv:List XV->Sto->RX->Prop:=fun xs S R=>arg1 xs fun x=>∃ds,asQ S x=some ds/\R (.d (.int ds.length)) S
theorem p0{K:cu}:RC (rK K) Dv:=fun h o H S xs vs R Q hs hx q c=>by
 obtain⟨x,rfl,ds,hd,q1⟩:=bZ q;obtain⟨v,rfl,aa⟩:=hxs1 hx;obtain⟨a,ws,rfl,ea,l⟩:=nA hs hd aa;refine⟨a,ws,rfl,ea.elim (fun z=>.inr (.of z)) (fun z=>.inl (.of z)),?_⟩;rw[l.length];exact c o H S _ _ Ex.refl hs (xI _) q1
def cW:List XV->Sto->RX->Prop:=fun xs S R=>arg2 xs fun x y=>qH y fun cl=>∃d,aT S x=some d/\cl∈eA/\R (.d (.bool (fW d cl))) S
theorem EB:RC qW cW:=fun h o H S xs vs R Q hs hx q c=>by
 obtain⟨x,y,rfl,q1⟩:=tD q;obtain⟨cl,rfl,d,hd,hc,q2⟩:=DR q1;obtain⟨v,u,rfl,z,hu⟩:=hxs2 hx;cases hu;exact A3 (d8 hs hd z) hc (c o H S _ _ Ex.refl hs (xB _) q2)
def eQ:List XV->Sto->RX->Prop:=fun xs S R=>arg1 xs fun x=>n6 x fun i=>R (.d (.int i)) S
theorem BW:RC (fun xs H Q=>(∃i,xs=[.int i]/\Q (.int i) H)\/∃k,xs=[.bl k]/\Q (.int (if k then 1 else 0)) H) eQ:=fun h o H S xs vs R Q hs hx q c=>by
 obtain⟨x,rfl,q1⟩:=bZ q;obtain⟨v,rfl,z⟩:=hxs1 hx;rcases FP q1 with ⟨i,rfl,q2⟩|⟨b,rfl,q2⟩
 ·exact .inl ⟨_,by rw[aV z],c o H S _ _ Ex.refl hs (xI _) q2⟩
 ·exact .inr ⟨_,by rw[gP z],c o H S _ _ Ex.refl hs (xI _) q2⟩
def dI2(g:Int->Int->Int):List XV->Sto->RX->Prop:=fun xs S R=>arg2 xs fun x y=>asI x fun i=>asI y fun j=>R (.d (.int (g i j))) S
theorem Em{g:Int->Int->Int}:RC (fun xs H Q=>∃i j,xs=[.int i,.int j]/\Q (.int (g i j)) H) (dI2 g):=fun h o H S xs vs R Q hs hx q c=>by
 obtain⟨x,y,rfl,q1⟩:=tD q;obtain⟨v,u,rfl,z,hu⟩:=hxs2 hx;obtain⟨i,rfl,q2⟩:=aU q1;obtain⟨j,rfl,q3⟩:=aU q2;exact⟨i,j,by rw[aV z,aV hu],c o H S _ _ Ex.refl hs (xI _) q3⟩
def cZ:List XV->Sto->RX->Prop:=fun xs S R=>arg1 xs fun x=>∃ds,asQ S x=some ds/\R (.d (.tuple ds)) S
theorem B5{K:cu}:RC (fun xs H Q=>∃p ys,xs=[.ref p]/\((SqL K H p ys/\∀l,H l=none->Q (.ref l) (upd H l (.tup ys)))\/(SqT K H p ys/\Q (.ref p) H))) cZ:=fun h o H S xs vs R Q hs hx q c=>by
 obtain⟨x,rfl,ds,hd,q1⟩:=bZ q;obtain⟨v,rfl,aa⟩:=hxs1 hx;obtain⟨a,ws,rfl,ea,l⟩:=nA hs hd aa;refine⟨a,ws,rfl,ea.elim (fun z=>.inr ⟨.of z,?_⟩) (fun z=>.inl ⟨.of z,kT hs l c q1⟩)⟩;have hh:HasX h o H (.d (.tuple ds)) (.ref a):=by
  unfold asQ at hd;split at hd
  ·cases hd;exact aa
  ·obtain⟨a',us,e1,e2,_⟩:=aY (x:=.d (.list _)) hs rfl aa;cases e1;rw[z]at e2;cases e2
  ·rename_i k;obtain⟨a',us,e1,e2,_⟩:=aY (x:=.l k) hs hd aa;cases e1;rw[z]at e2;cases e2
  ·cases hd
 exact c o H S _ _ Ex.refl hs hh q1
theorem jH{H:Hp}:∀{ns:List Int}{vs:List V},HasL H (ns.map df) vs->vs=ns.map V.int
 | [],vs,h=>zp.mp h
 |n::ns,vs,h=>by
  obtain⟨v,r,rfl,h1,h2⟩:=zm.mp h;rw[fA.mp h1,jH h2];rfl
def uI:List XV->Sto->RX->Prop:=fun xs S R=>arg1 xs fun x=>∃ds,asQ S x=some ds/\∃ns,ds=ns.map df/\ns≠[]/\∀m,m∈ns->(∀a,a∈ns->m<=a)->R (.d (.int m)) S
def nJ:List XV->Sto->RX->Prop:=fun xs S R=>arg1 xs fun x=>∃ds,asQ S x=some ds/\∃ns,ds=ns.map df/\ns≠[]/\∀m,m∈ns->(∀a,a∈ns->a<=m)->R (.d (.int m)) S
theorem CU{K:cu}:RC (sD K) uI:=fun h o H S xs vs R Q hs hx q c=>by
 obtain⟨x,rfl,ds,hd,ns,rfl,hn,q1⟩:=bZ q;obtain⟨v,rfl,aa⟩:=hxs1 hx;obtain⟨a,ws,rfl,ea,l⟩:=nA hs hd aa;rw[jH l]at ea;exact⟨a,ns,rfl,ea.elim (fun z=>.inr (.of z)) (fun z=>.inl (.of z)),hn,fun m m1 m2=>c o H S _ _ Ex.refl hs (xI _) (q1 m m1 m2)⟩
theorem A2{K:cu}:RC (w6 K) nJ:=fun h o H S xs vs R Q hs hx q c=>by
 obtain⟨x,rfl,ds,hd,ns,rfl,hn,q1⟩:=bZ q;obtain⟨v,rfl,aa⟩:=hxs1 hx;obtain⟨a,ws,rfl,ea,l⟩:=nA hs hd aa;rw[jH l]at ea;exact⟨a,ns,rfl,ea.elim (fun z=>.inr (.of z)) (fun z=>.inl (.of z)),hn,fun m m1 m2=>c o H S _ _ Ex.refl hs (xI _) (q1 m m1 m2)⟩
def dBM(rd:XV->List XV->Sto->RX->Prop)(e:DE)(a:DA):DE:=fun δ S R=>e δ S fun x S1=>∃k,x=.l k/\k<S1.length/\a δ S1 fun xs S2=>rd x xs S2 R
def eO(rd:XV->List XV->Sto->RX->Prop)(e:DE):DE:=fun δ S R=>e δ S fun x S1=>∃k,x=.l k/\k<S1.length/\rd x [] S1 R
def RM(r:V->List V->Hp->VK->Prop)(rd:XV->List XV->Sto->RX->Prop):Prop:=∀(h o:List Addr) (H:Hp) (S:Sto) (x:XV) (v:V) (xs:List XV) (vs:List V) (R:RX) (Q:VK),RepS h o H S->HasX h o H x v->HasXs h o H xs vs->rd x xs S R->Cn h o H R Q->r v vs H Q
theorem tR{K:cu}{H:Hp}{a:Addr}{vs:List V}(e:H a=some (.lst vs)):tyV K "list" (.ref a) H:=.inl ⟨rfl,vs,.of e⟩
theorem yT{h o:List Addr}{H:Hp}{S:Sto}{k:Nat}{v:V}(hs:RepS h o H S)(hk:k<S.length)(hx:HasX h o H (.l k) v):∃a vs,v=.ref a/\H a=some (.lst vs):=by
 obtain⟨a,e,rfl⟩:=hx;obtain⟨vs,e2,_⟩:=hs.cont k a _ e (cp hk);exact⟨a,vs,rfl,e2⟩
theorem nO{K:cu}{r:V->List V->Hp->VK->Prop}{rd:XV->List XV->Sto->RX->Prop}{te:TE}{de:DE}{tl:TA}{dl:DA}(hr:RM r rd)(z:RE te de)(ha:RA tl dl):RE (tBM K "list" r te tl) (dBM rd de dl):=fun h o H δ σ S R Q he hs q c=>
 z h o H δ σ S _ _ he hs q fun o1 H1 S1 x v e1 s1 x1 ⟨k,ek,hk,d1⟩=>by
  subst ek;obtain⟨a,ws,rfl,ea⟩:=yT s1 hk x1;exact⟨tR ea,ha h o1 H1 δ σ S1 _ _ (he.mono e1) s1 d1 fun o2 H2 S2 xs vs e2 s2 x2 d2=>hr h o2 H2 S2 (.l k) _ xs vs R Q s2 (x1.mono e2) x2 d2 (c.pre (e1.trans e2))⟩
theorem DW{K:cu}{r:V->List V->Hp->VK->Prop}{rd:XV->List XV->Sto->RX->Prop}{te:TE}{de:DE}(hr:RM r rd)(z:RE te de):RE (tZ K "list" r te) (eO rd de):=fun h o H δ σ S R Q he hs q c=>
 z h o H δ σ S _ _ he hs q fun o1 H1 S1 x v e1 s1 x1 ⟨k,ek,hk,d1⟩=>by
  subst ek;obtain⟨a,ws,rfl,ea⟩:=yT s1 hk x1;exact⟨tR ea,hr h o1 H1 S1 (.l k) _ [] [] R Q s1 x1 rfl d1 (c.pre e1)⟩
def bW:XV->List XV->Sto->RX->Prop:=fun x xs S R=>∃k,x=.l k/\∃ds,S[k]?=some ds/\arg1 xs fun y=>asD y fun d=>ds.length<1000/\R (.d .none) (S.set k (ds++[d]))
theorem ET:RM xT bW:=fun h o H S x v xs vs R Q hs hx z q c=>by
 obtain⟨k,rfl,ds,e,q1⟩:=q;obtain⟨y,rfl,q2⟩:=bZ q1;obtain⟨d,rfl,hl,q3⟩:=pI q2;obtain⟨a,ea,rfl⟩:=hx;obtain⟨u,rfl,hu⟩:=hxs1 z;obtain⟨ws,ew,l⟩:=hs.cont k a ds ea e;exact⟨a,ws,u,rfl,rfl,ew,by rw[l.length];exact small1000 (jp hl),c o _ _ (.d .none) _ (Ex.upd ea) (hs.upd ea (l.append (zm.mpr ⟨u,[],rfl,hu,zp.mpr rfl⟩))) xN q3⟩
def f8:XV->List XV->Sto->RX->Prop:=fun x xs S R=>∃k,x=.l k/\∃ds,S[k]?=some ds/\xs=[]/\R (.d .none) (S.set k ds.reverse)
theorem CW:RM vJ f8:=fun h o H S x v xs vs R Q hs hx z q c=>by
 obtain⟨k,rfl,ds,e,rfl,q1⟩:=q;obtain⟨a,ea,rfl⟩:=hx;obtain⟨ws,ew,l⟩:=hs.cont k a ds ea e;cases z;exact⟨a,ws,rfl,rfl,ew,c o _ _ (.d .none) _ (Ex.upd ea) (hs.upd ea l.rev) xN q1⟩
def eR:XV->List XV->Sto->RX->Prop:=fun x xs S R=>∃k,x=.l k/\∃ds,S[k]?=some ds/\arg1 xs fun y=>∃es,dE S y=some es/\ds.length+es.length<=1000/\R (.d .none) (S.set k (ds++es))
theorem pK:RM AL eR:=fun h o H S x v xs vs R Q hs hx z q c=>by
 obtain⟨k,rfl,ds,e,q1⟩:=q;obtain⟨y,rfl,es,ey,hl,q3⟩:=bZ q1;obtain⟨a,ea,rfl⟩:=hx;obtain⟨u,rfl,hu⟩:=hxs1 z;obtain⟨ws,ew,l⟩:=hs.cont k a ds ea e;obtain⟨b,zs,rfl,eb,lb⟩:=aY hs ey hu;exact⟨a,b,ws,zs,rfl,rfl,ew,eb,by rw[l.length,lb.length];exact jp (small1000 hl),c o _ _ (.d .none) _ (Ex.upd ea) (hs.upd ea (l.append lb)) xN q3⟩
def ret0(S:Sto)(R:RX):RX:=fun y S'=>match y,S' with
 | .d d,[]=>R (.d d) S
 | .l 0,[ds]=>R (.l S.length) (S++[ds])
 |_,_=>False
def jQ(k:Nat)(S:Sto)(R:RX):RX:=fun y S'=>match y,S' with
 | .d d,[p]=>R (.d d) (S.set k p)
 | .l 1,[p,ds]=>R (.l S.length) (S.set k p++[ds])
 |_,_=>False
section
variable {h o:List Addr}{H:Hp}{S:Sto}{R:RX}{Q:VK}
theorem eY{h o h' o':List Addr}{H:Hp}(e:∀b,(b∈h'\/b∈o')↔(b∈h\/b∈o)):vx h' o' H=vx h o H:=by
 funext b;have q:∀u,vx h' o' H b=some u↔vx h o H b=some u:=fun u=>by
  rw[zS,zS];have:=e b;constructor
  ·rintro⟨a1,a2,a3⟩;exact⟨fun m=>(this.mpr (.inl m)).elim a1 a2,fun m=>(this.mpr (.inr m)).elim a1 a2,a3⟩
  ·rintro⟨a1,a2,a3⟩;exact⟨fun m=>(this.mp (.inl m)).elim a1 a2,fun m=>(this.mp (.inr m)).elim a1 a2,a3⟩
 cases e1:vx h' o' H b with
 |some u=>exact((q u).mp e1).symm
 |none=>
  cases e2:vx h o H b with
  |none=>rfl
  |some u=>rw[(q u).mpr e2]at e1;cases e1
theorem rep0(hs:RepS h o H S):RepS (h++o) [] H [] where
 len:=rfl
 nd:=nodup_nil
 dis:=fun a ha=>by cases ha
 hal:=fun b hb=>(mem_append.mp hb).elim (hs.hal b) (hs.oam b)
 cont:=fun k a ds e=>by simp at e
theorem hx0{d:bo}{v:V}(hx:HasX h o H (.d d) v):HasX (h++o) [] H (.d d) v:=by
 show Has (vx (h++o) [] H) d v;rw[eY (h:=h) (o:=o) fun b=>by simp];exact hx
theorem hx0'{d:bo}{v:V}(hx:HasX (h++o) [] H (.d d) v):HasX h o H (.d d) v:=by
 show Has (vx h o H) d v;rw[<- eY (h':=h++o) (o':=[]) (h:=h) (o:=o) fun b=>by simp];exact hx
theorem cn0(hs:RepS h o H S)(c:Cn h o H R Q):Cn (h++o) [] H (ret0 S R) Q:=fun o' H' S' y v e s' hy q=>by
 have sm:Same H (vx [] o' H'):=fun b u eb=>by
  obtain⟨a1,a2⟩:=e.kp b u yv eb;exact zS.mpr ⟨yv,a1,a2⟩
 have sH:Same H H':=fun b u eb=>(zS.mp (sm b u eb)).2.2;unfold ret0 at q;split at q
 ·have e0:o'=[]:=fw s'.len.symm;subst e0;exact c o H' S _ v (Ex.of_same sH) (hs.same sH) (hx0' hy) q
 ·rename_i ds;obtain⟨a,rfl⟩:∃a,o'=[a]:=List.length_eq_one_iff.mp s'.len.symm;obtain⟨a',ea,rfl⟩:=hy;cases ea;obtain⟨vs,ev,l⟩:=s'.cont 0 a ds rfl rfl;have na:a∉h++o:=s'.dis a yv;have hn:H a=none:=by
   cases eh:H a with
   |none=>rfl
   |some u=>exact absurd (e.kp a u yv eh).1 yv
  have e2:Ex o H (o++[a]) H':=⟨⟨[a],rfl⟩,fun b u hb eb=>by
   obtain⟨a1,a2⟩:=e.kp b u yv eb;exact⟨by simp only[lz,not_or];exact⟨hb,a1⟩,a2⟩⟩
  have aa:vx (h++o) [a] H'=vx h (o++[a]) H':=eY fun b=>by simp[or_assoc]
  rw[aa]at l;refine c (o++[a]) H' (S++[ds]) (.l S.length) _ e2 ⟨by simp[hs.len],mJ hs.nd fun m=>na (fh _ m),fun b hb=>?_,fun b hb=>?_,fun k b es q1 q2=>?_⟩ ⟨a,by rw[hs.len,ca],rfl⟩ q
  ·rcases mem_append.mp hb with hb|hb
   ·exact hs.dis b hb
   ·rw[mem_singleton.mp hb];exact fun m=>na (gw _ m)
  ·obtain⟨u,eb⟩:=hs.hal b hb;exact⟨u,sH b _ eb⟩
  ·by_cases hk:k<o.length
   ·rw[cx hk]at q1;rw[cx (by rw[hs.len];exact hk)]at q2;obtain⟨ws,e3,l3⟩:=hs.cont k b es q1 q2;exact⟨ws,sH _ _ e3,l3.mono e2.vx⟩
   ·have z:k=o.length:=by
     obtain⟨q,_⟩:=List.getElem?_eq_some_iff.mp q1;rw[cq,fr]at q;omega
    subst z;rw[ca]at q1;rw[<- hs.len,ca]at q2;cases q1;cases q2;exact⟨vs,ev,l⟩
 ·exact q.elim
theorem nW{k:Nat}{a:Addr}{p:List bo}(hs:RepS h o H S)(ea:o[k]?=some a)(ep:S[k]?=some p):RepS (h++o.filter (fun b=>b≠a)) [a] H [p] where
 len:=rfl
 nd:=by simp
 dis:=fun b hb=>by
  rw[mem_singleton.mp hb];intro m;rcases mem_append.mp m with m|m
  ·exact hs.dis a (bq ea) m
  ·have:=(mem_filter.mp m).2;simp at this
 hal:=fun b hb=>(mem_append.mp hb).elim (hs.hal b) fun m=>hs.oam b (mem_filter.mp m).1
 cont:=fun j b ds e1 e2=>by
  cases j with
  |succ j=>simp at e1
  |zero=>
   cases e1;cases e2;obtain⟨vs,e3,l⟩:=hs.cont k a p ea ep;refine⟨vs,e3,?_⟩;rw[eY (h:=h) (o:=o) (mem_pen ea)];exact l
where
 mem_pen {h o:List Addr}{k:Nat}{a:Addr} (ea:o[k]?=some a) (b:Addr):(b∈h++o.filter (fun b=>b≠a)\/b∈[a])↔(b∈h\/b∈o):=by
  have ma:=bq ea;by_cases e:b=a
  ·subst e;simp[ma]
  ·simp[e]
theorem hxP{k:Nat}{a:Addr}{d:bo}{v:V}(ea:o[k]?=some a)(hx:HasX h o H (.d d) v):HasX (h++o.filter (fun b=>b≠a)) [a] H (.d d) v:=by
 show Has (vx _ _ H) d v;rw[eY (h:=h) (o:=o) (nW.mem_pen ea)];exact hx
theorem cnP{k:Nat}{a:Addr}{p:List bo}(hs:RepS h o H S)(ea:o[k]?=some a)(ep:S[k]?=some p)(c:Cn h o H R Q):Cn (h++o.filter (fun b=>b≠a)) [a] H (jQ k S R) Q:=fun o' H' S' y v e s' hy q=>by
 have ma:=bq ea;have hk:k<o.length:=(List.getElem?_eq_some_iff.mp ea).1;unfold jQ at q;split at q
 ·rename_i d p';obtain⟨r,rfl⟩:=e.pre;have er:r=[]:=by
   have:=s'.len;simp at this;exact this
  subst er;have ex:Ex o H o H':=⟨⟨[],yv⟩,fun b u hb eb=>⟨hb,(e.kp b u (fun m=>hb (by rw[mem_singleton.mp m];exact ma)) eb).2⟩⟩;obtain⟨vs,ev,l⟩:=s'.cont 0 a p' rfl rfl;have aa:vx (h++o.filter (fun b=>b≠a)) ([a]++[]) H'=vx h o H':=eY (nW.mem_pen ea);rw[aa]at l;refine c o H' (S.set k p') (.d d) v ex ⟨by simp[hs.len],hs.nd,hs.dis,fun b hb=>?_,fun j b es q1 q2=>?_⟩ (by
   have ab:Has (vx (h++o.filter (fun b=>b≠a)) ([a]++[]) H') d v:=hy;rw[aa]at ab;exact ab) q
  ·obtain⟨u,eb⟩:=hs.hal b hb;exact⟨u,(e.kp b _ (fun m=>hs.dis a ma (by rw[<- mem_singleton.mp m];exact hb)) eb).2⟩
  ·by_cases hj:j=k
   ·subst hj;rw[q1]at ea;cases ea;rw[jr (by rw[hs.len];exact hk)]at q2;cases q2;exact⟨vs,ev,l⟩
   ·rw[mn (nn hj)]at q2;obtain⟨ws,e3,l3⟩:=hs.cont j b es q1 q2;have ne:b≠a:=fun z=>hj (kW hs.nd q1 (z▸ea));exact⟨ws,(e.kp b _ (by simp[ne]) e3).2,l3.mono ex.vx⟩
 ·rename_i p' ds;obtain⟨r,rfl⟩:=e.pre;obtain⟨a2,rfl⟩:∃a2,r=[a2]:=by
   have:=s'.len;simp at this;exact List.length_eq_one_iff.mp this
  obtain⟨b2,ag,rfl⟩:=hy;cases ag;obtain⟨vs,ev,l⟩:=s'.cont 0 a p' rfl rfl;obtain⟨ac,ae,l2⟩:=s'.cont 1 a2 ds rfl rfl;have n2:a2∉h++o.filter (fun b=>b≠a):=s'.dis a2 yv;have n3:a≠a2:=by
   have:=s'.nd;simp at this;exact this
  have n4:a2∉o:=fun m=>n2 (fh _ (mem_filter.mpr ⟨m,by simp[nn n3]⟩));have ex:Ex o H (o++[a2]) H':=⟨⟨[a2],rfl⟩,fun b u hb eb=>by
   obtain⟨z1,z2⟩:=e.kp b u (fun m=>hb (by rw[mem_singleton.mp m];exact ma)) eb;refine⟨?_,z2⟩;simp only[lz,not_or];exact⟨hb,fun m=>z1 (by simp at m ⊢;exact .inr m)⟩⟩
  have aa:vx (h++o.filter (fun b=>b≠a)) ([a]++[a2]) H'=vx h (o++[a2]) H':=eY fun b=>by
   have:=nW.mem_pen (h:=h) ea b;simp only[lz]at this ⊢;rw[<- or_assoc,this,or_assoc]
  rw[aa]at l l2;refine c (o++[a2]) H' (S.set k p'++[ds]) (.l S.length) _ ex ⟨by simp[hs.len],mJ hs.nd n4,fun b hb=>?_,fun b hb=>?_,fun j b es q1 q2=>?_⟩ ⟨a2,by rw[hs.len,ca],rfl⟩ q
  ·rcases mem_append.mp hb with hb|hb
   ·exact hs.dis b hb
   ·rw[mem_singleton.mp hb];exact fun m=>n2 (gw _ m)
  ·obtain⟨u,eb⟩:=hs.hal b hb;exact⟨u,(e.kp b _ (fun m=>hs.dis a ma (by rw[<- mem_singleton.mp m];exact hb)) eb).2⟩
  ·by_cases hjo:j<o.length
   ·rw[cx hjo]at q1;rw[cx (by rw[length_set,hs.len];exact hjo)]at q2;by_cases hj:j=k
    ·subst hj;rw[q1]at ea;cases ea;rw[jr (by rw[hs.len];exact hk)]at q2;cases q2;exact⟨vs,ev,l⟩
    ·rw[mn (nn hj)]at q2;obtain⟨ws,e3,l3⟩:=hs.cont j b es q1 q2;have ne:b≠a:=fun z=>hj (kW hs.nd q1 (z▸ea));exact⟨ws,(e.kp b _ (by simp[ne]) e3).2,l3.mono ex.vx⟩
   ·have af:j=o.length:=by
     obtain⟨q,_⟩:=List.getElem?_eq_some_iff.mp q1;rw[cq,fr]at q;omega
    subst af;rw[ca]at q1;rw[<- hs.len,<- length_set (i:=k) (a:=p'),ca]at q2;cases q1;cases q2;exact⟨ac,ae,l2⟩
 ·exact q.elim
end
structure DEnds where
 nx:XE->Sto->Prop
 rt:RX
 bk:XE->Sto->Prop:=fun _ _=>False
 ct:XE->Sto->Prop:=fun _ _=>False
abbrev DS:=DEnds->XE->Sto->Prop
abbrev DG:=XV->XE->Sto->(XE->Sto->Prop)->Prop
abbrev DGs:=List bo->XE->Sto->(XE->Sto->Prop)->Prop
def Nx(h o:List Addr)(H:Hp)(N:XE->Sto->Prop)(M:St->Hp->Prop):Prop:=∀o' H' δ' S' σ',Ex o H o' H'->RepE h o' H' δ' σ'->RepS h o' H' S'->N δ' S'->M σ' H'
theorem Nx.pre{h o o':List Addr}{H H':Hp}{N:XE->Sto->Prop}{M:St->Hp->Prop}(c:Nx h o H N M)(e:Ex o H o' H'):Nx h o' H' N M:=fun o2 H2 δ2 S2 σ2 e2=>c o2 H2 δ2 S2 σ2 (e.trans e2)
structure EOk(h o:List Addr)(H:Hp)(E:DEnds)(D:Ends):Prop where
 nx:Nx h o H E.nx D.nx
 rt:Cn h o H E.rt D.rt
 bk:Nx h o H E.bk D.bk
 ct:Nx h o H E.ct D.ct
theorem EOk.pre{h o o':List Addr}{H H':Hp}{E:DEnds}{D:Ends}(c:EOk h o H E D)(e:Ex o H o' H'):EOk h o' H' E D:=⟨c.nx.pre e,c.rt.pre e,c.bk.pre e,c.ct.pre e⟩
def RS(t:TS)(dt:DS):Prop:=∀(h o:List Addr) (H:Hp) (δ:XE) (σ:St) (S:Sto) (E:DEnds) (D:Ends),RepE h o H δ σ->RepS h o H S->dt E δ S->EOk h o H E D->t D σ H
def RG(t:TG)(dt:DG):Prop:=∀(h o:List Addr) (H:Hp) (δ:XE) (σ:St) (S:Sto) (x:XV) (v:V) (N:XE->Sto->Prop) (M:St->Hp->Prop),RepE h o H δ σ->RepS h o H S->HasX h o H x v->dt x δ S N->Nx h o H N M->t v σ H M
def RGs(t:TGs)(dt:DGs):Prop:=∀(h o:List Addr) (H:Hp) (δ:XE) (σ:St) (S:Sto) (ds:List bo) (vs:List V) (N:XE->Sto->Prop) (M:St->Hp->Prop),RepE h o H δ σ->RepS h o H S->HasL (vx h o H) ds vs->dt ds δ S N->Nx h o H N M->t vs σ H M
def zg(i:Nat):DG:=fun x δ S N=>N (δ.set i (some x)) S
def cT:DGs:=fun ds δ S N=>ds=[]/\N δ S
def hdD:List bo->(bo->List bo->Prop)->Prop
 |d::es,k=>k d es
 | [],_=>False
theorem Bh{ds:List bo}{k:bo->List bo->Prop}(h:hdD ds k):∃d es,ds=d::es/\k d es:=by
 cases ds with
 |nil=>exact h.elim
 |cons d es=>exact⟨d,es,rfl,h⟩
theorem mH{d:bo}{es:List bo}{k:bo->List bo->Prop}:hdD (d::es) k=k d es:=rfl
def bG(g:DG)(r:DGs):DGs:=fun ds δ S N=>hdD ds fun d es=>g (.d d) δ S fun δ' S'=>r es δ' S' N
def cS(n:Nat)(r:DGs):DG:=fun x δ S N=>asT x fun ds=>ds.length=n/\r ds δ S N
def eZ(a b:DE):DG:=fun x δ S N=>a δ S fun y S1=>b δ S1 fun z S2=>asD x fun d=>∃k,y=.l k/\∃ds,S2[k]?=some ds/\asI z fun i=>∃j,ixN ds.length i=some j/\N δ (S2.set k (ds.set j d))
theorem zx{i:Nat}:RG (iB i) (zg i):=fun h o H δ σ S x v N M he hs hx q c=>c o H _ S _ Ex.refl (he.set hx) hs q
theorem vV:RGs wM cT:=fun h o H δ σ S ds vs N M he hs l ⟨e,q⟩ c=>by
 subst e;exact⟨zp.mp l,c o H δ S σ Ex.refl he hs q⟩
theorem rT{t:TG}{u:TGs}{g:DG}{r:DGs}(h1:RG t g)(h2:RGs u r):RGs (yR t u) (bG g r):=fun h o H δ σ S ds vs N M he hs l q0 c=>by
 obtain⟨d,es,rfl,q⟩:=Bh q0;obtain⟨v,ws,rfl,hv,l⟩:=zm.mp l;exact⟨v,ws,rfl,h1 h o H δ σ S (.d d) v _ _ he hs hv q fun o1 H1 δ1 S1 σ1 e1 z aa q1=>h2 h o1 H1 δ1 σ1 S1 es ws N M z aa (l.mono e1.vx) q1 (c.pre e1)⟩
theorem AK{K:cu}{n:Nat}{t:TGs}{r:DGs}(h1:RGs t r):RG (v3 K n t) (cS n r):=fun h o H δ σ S x v N M he hs hx q c=>by
 replace q:=iA q;obtain⟨ds,rfl,hn,q⟩:=q;obtain⟨a,vs,rfl,ea,l⟩:=c8 hx;exact⟨a,vs,rfl,.of ea,by rw[l.length];exact hn,h1 h o H δ σ S ds vs N M he hs l q c⟩
theorem HasL.setAt{H:Hp}:∀{ds:List bo}{vs:List V}{j:Nat}{d:bo}{v:V},HasL H ds vs->Has H d v->HasL H (ds.set j d) (vs.set j v)
 | [],vs,j,d,v,l,_=>by rw[zp.mp l];exact zp.mpr rfl
 |c::ds,vs,0,d,v,l,q=>by
  obtain⟨u,r,rfl,_,l⟩:=zm.mp l;exact zm.mpr ⟨v,r,rfl,q,l⟩
 |c::ds,vs,j+1,d,v,l,q=>by
  obtain⟨u,r,rfl,hu,l⟩:=zm.mp l;exact zm.mpr ⟨u,r.set j v,rfl,hu,HasL.setAt l q⟩
theorem Ck{ta tb:TE}{da db:DE}(ha:RE ta da)(hb:RE tb db):RG (tB ta tb uY) (eZ da db):=fun h o H δ σ S x v N M he hs hx q c=>
 ha h o H δ σ S _ _ he hs q fun o1 H1 S1 y u e1 s1 y1 d1=>hb h o1 H1 δ σ S1 _ _ (he.mono e1) s1 d1 fun o2 H2 S2 z w e2 s2 z2 d0=>by
  obtain⟨d,rfl,k,rfl,ds,es,d2⟩:=pI d0;replace d2:=aU d2;obtain⟨i,rfl,j,ej,d2⟩:=d2;obtain⟨a,ea,rfl⟩:=y1.mono e2;obtain⟨ws,ew,l⟩:=s2.cont k a ds ea es;refine⟨a,ws,i,j,rfl,aV z2,ew,by rw[l.length];exact ej,?_⟩;exact c o2 _ δ _ σ ((e1.trans e2).trans (Ex.upd ea)) (((he.mono e1).mono e2).mono (Ex.upd ea)) (s2.upd ea (l.setAt (hx.mono (e1.trans e2)))) d2
def aJ:DS:=fun E δ S=>E.nx δ S
def zQ(t u:DS):DS:=fun E δ S=>t { E with nx:=u E } δ S
def aA(e:DE)(g:DG):DS:=fun E δ S=>e δ S fun x S1=>g x δ S1 E.nx
def bM(e:DE):DS:=fun E δ S=>e δ S fun _ S1=>E.nx δ S1
def aB(e:DE):DS:=fun E δ S=>e δ S E.rt
def aL(c:DT)(t u:DS):DS:=fun E δ S=>c δ S fun b S1=>if b=true then t E δ S1 else u E δ S1
section
variable {t u:TS}{dt du:DS}{te:TE}{de:DE}
theorem fL:RS pR aJ:=fun h o H δ σ S E D he hs q c=>c.nx o H δ S σ Ex.refl he hs q
theorem zA(ht:RS t dt)(hu:RS u du):RS (fX t u) (zQ dt du):=fun h o H δ σ S E D he hs q c=>
 ht h o H δ σ S _ _ he hs q ⟨fun o1 H1 δ1 S1 σ1 e1 z aa q1=>hu h o1 H1 δ1 σ1 S1 E D z aa q1 (c.pre e1),c.rt,c.bk,c.ct⟩
theorem aS{g:TG}{dg:DG}(z:RE te de)(hg:RG g dg):RS (oE te g) (aA de dg):=fun h o H δ σ S E D he hs q c=>
 z h o H δ σ S _ _ he hs q fun o1 H1 S1 x v e1 s1 x1 d1=>hg h o1 H1 δ σ S1 x v _ _ (he.mono e1) s1 x1 d1 (c.nx.pre e1)
theorem mY(z:RE te de):RS (uW te) (bM de):=fun h o H δ σ S E D he hs q c=>
 z h o H δ σ S _ _ he hs q fun o1 H1 S1 x v e1 s1 x1 d1=>c.nx o1 H1 δ S1 σ e1 (he.mono e1) s1 d1
theorem dM(z:RE te de):RS (oY te) (aB de):=fun h o H δ σ S E D he hs q c=>z h o H δ σ S _ _ he hs q c.rt
theorem eV{tc:TT}{dc:DT}(hc:RT tc dc)(ht:RS t dt)(hu:RS u du):RS (pS tc t u) (aL dc dt du):=fun h o H δ σ S E D he hs q c=>
 hc h o H δ σ S _ _ he hs q fun o1 H1 S1 b e1 s1 d1=>by
  cases b with
  |true=>exact eT (ht h o1 H1 δ σ S1 E D (he.mono e1) s1 (by simpa using d1) (c.pre e1))
  |false=>exact e7 (hu h o1 H1 δ σ S1 E D (he.mono e1) s1 (by simpa using d1) (c.pre e1))
def frz(n:Nat)(ds:List bo):Option XV->Option XV
 |some (.l k)=>if k=n then some (.d (.list ds))else some (.l k)
 |some (.p k d)=>if k=n then some (.d (.tuple [.list ds,d]))else some (.p k d)
 |y=>y
end
abbrev DI:=XE->Sto->(List bo->Sto->Prop)->Prop
structure WalkX(h o:List Addr)(H:Hp)(J:It)(ds:List bo):Prop where
 stop:∀(i:Nat) o2 H2,ExH h o H o2 H2->ds.length<=i->J.stop i H2
 go:∀(i:Nat) d o2 H2,ExH h o H o2 H2->ds[i]?=some d->J.go i H2
 yld:∀(i:Nat) d o2 H2 x H3 S2,ExH h o H o2 H2->RepS h o2 H2 S2->ds[i]?=some d->J.yld i H2 x H3->Same H2 H3/\Has (vx h o2 H3) d x
def RI(w:TI)(di:DI):Prop:=∀(h o:List Addr) (H:Hp) (δ:XE) (σ:St) (S:Sto) (R:List bo->Sto->Prop) (Q:It->Hp->Prop),RepE h o H δ σ->RepS h o H S->di δ S R ->
 (∀o' H' S' ds J,Ex o H o' H'->RepS h o' H' S'->WalkX h o' H' J ds->R ds S'->Q J H')->w σ H Q
theorem Cm{h o:List Addr}{H:Hp}{lo:Int}{n:Nat}:WalkX h o H (Itr lo n) (fC lo n) where
 stop:=fun i _ _ _ hi=>by rw[gA]at hi;exact hi
 go:=fun i d _ _ _ hi=>(iO hi).1
 yld:=fun i d o2 H2 x H3 S2 _ _ hi y=>by
  obtain⟨e,ex⟩:=y;subst e ex;rw[(iO hi).2];exact⟨Same.refl _,fA.mpr rfl⟩
def iJ(g:DG)(b:DS):List bo->DS
 | [],E,δ,S=>E.nx δ S
 |d::ds,E,δ,S=>g (.d d) δ S fun δ1 S1=>b { nx:=fun δ2 S2=>iJ g b ds E δ2 S2,ct:=fun δ2 S2=>iJ g b ds E δ2 S2,bk:=E.nx,rt:=E.rt } δ1 S1
def bQ(i:DI)(g:DG)(b:DS):DS:=fun E δ S=>i δ S fun ds S1=>iJ g b ds E δ S1
theorem f7{wi:TI}{g:TG}{tb:TS}{di:DI}{dg:DG}{db:DS}(hi:RI wi di)(hg:RG g dg)(hb:RS tb db):RS (oM wi g tb) (bQ di dg db):=fun h o H δ σ S E D he hs q c=>
 hi h o H δ σ S _ _ he hs q fun o1 H1 S1 ds J e1 s1 wk d1=>by
  refine⟨fun i m σ2 H2=>m=ds.length-i/\i<=ds.length/\∃o2 δ2 S2,Ex o1 H1 o2 H2/\RepE h o2 H2 δ2 σ2/\RepS h o2 H2 S2/\iJ dg db (ds.drop i) E δ2 S2,⟨ds.length,yv,jo _,o1,δ,S1,Ex.refl,he.mono e1,s1,d1⟩,?_⟩;rintro i m σ2 H2 ⟨rfl,hi,o2,δ2,S2,e2,af,z,d2⟩;by_cases hlt:i<ds.length
  ·have ed:ds[i]?=some ds[i]:=cp hlt;rw[List.drop_eq_getElem_cons hlt]at d2;refine .inr ⟨wk.go i _ o2 H2 e2.hid ed,fun σ3 H3=>∃o3 δ3 S3,Ex o1 H1 o3 H3/\RepE h o3 H3 δ3 σ3/\RepS h o3 H3 S3/\iJ dg db (ds.drop (i+1)) E δ3 S3,fun σ3 H3 n=>⟨ds.length-(i+1),yw,rfl,hlt,n⟩,fun x H3 y=>?_⟩;obtain⟨s3,hx⟩:=wk.yld i _ o2 H2 x H3 S2 e2.hid z ed y;have ae:Ex o2 H2 o2 H3:=Ex.of_same s3;refine hg h o2 H3 δ2 σ2 S2 (.d ds[i]) x _ _ (af.mono ae) (z.same s3) hx d2 fun o4 H4 δ4 S4 σ4 e4 ag ah d4=>?_;have aa:Ex o1 H1 o4 H4:=(e2.trans ae).trans e4;have ce:=(c.pre e1).pre aa;exact hb h o4 H4 δ4 σ4 S4 _ _ ag ah d4 ⟨fun o5 H5 δ5 S5 σ5 e5 ac ab d5=>⟨o5,δ5,S5,aa.trans e5,ac,ab,d5⟩,ce.rt,ce.nx,fun o5 H5 δ5 S5 σ5 e5 ac ab d5=>⟨o5,δ5,S5,aa.trans e5,ac,ab,d5⟩⟩
  ·have ei:i=ds.length:=yw
   subst ei;rw[List.drop_length]at d2;exact .inl ⟨wk.stop _ o2 H2 e2.hid (cv _),c.nx o2 H2 δ2 S2 σ2 (e1.trans e2) af z d2⟩
def n5(cd:DT)(b:DS):DS:=fun E δ S=>∃W:Nat->XE->Sto->Prop,(∃m,W m δ S)/\∀m δ S,W m δ S ->
 cd δ S fun x S1=>if x=true then ∃N:XE->Sto->Prop,(∀ δ' S',N δ' S'->∃m',m'<m/\W m' δ' S')/\b { nx:=N,ct:=N,bk:=E.nx,rt:=E.rt } δ S1 else E.nx δ S1
theorem rV{tc:TT}{tb:TS}{dc:DT}{db:DS}(hc:RT tc dc)(hb:RS tb db):RS (uG tc tb) (n5 dc db):=fun h o H δ σ S E D he hs ⟨W,⟨m0,w0⟩,q⟩ c=>by
 refine⟨fun m σ2 H2=>∃o2 δ2 S2,Ex o H o2 H2/\RepE h o2 H2 δ2 σ2/\RepS h o2 H2 S2/\W m δ2 S2,⟨m0,o,δ,S,Ex.refl,he,hs,w0⟩,?_⟩;rintro m σ2 H2 ⟨o2,δ2,S2,e2,aa,ae,w2⟩;refine hc h o2 H2 δ2 σ2 S2 _ _ aa ae (q m δ2 S2 w2) fun o3 H3 S3 b e3 s3 d3=>?_;cases b with
 |false=>exact e7 (c.nx o3 H3 δ2 S3 σ2 (e2.trans e3) (aa.mono e3) s3 (by simpa using d3))
 |true=>
  refine eT ?_;obtain⟨N,n1,d3⟩:∃N:XE->Sto->Prop,(∀ δ' S',N δ' S'->∃m',m'<m/\W m' δ' S')/\db { nx:=N,ct:=N,bk:=E.nx,rt:=E.rt } δ2 S3:=by simpa using d3
  have z:=e2.trans e3;have ce:=c.pre z;refine⟨fun σ4 H4=>∃o4 δ4 S4,Ex o H o4 H4/\RepE h o4 H4 δ4 σ4/\RepS h o4 H4 S4/\N δ4 S4,fun σ4 H4 ⟨o4,δ4,S4,e4,af,ag,n4⟩=>?_,?_⟩
  ·obtain⟨m',hm,w'⟩:=n1 δ4 S4 n4;exact⟨m',hm,o4,δ4,S4,e4,af,ag,w'⟩
  ·exact hb h o3 H3 δ2 σ2 S3 _ _ (aa.mono e3) s3 d3 ⟨fun o5 H5 δ5 S5 σ5 e5 ac ab d5=>⟨o5,δ5,S5,z.trans e5,ac,ab,d5⟩,ce.rt,ce.nx,fun o5 H5 δ5 S5 σ5 e5 ac ab d5=>⟨o5,δ5,S5,z.trans e5,ac,ab,d5⟩⟩
def aG:DT:=fun _ S R=>R true S
theorem cY:RT xM aG:=fun h o H δ σ S R Q he hs q c=>c o H S true Ex.refl hs q
def aN(n:Nat)(g:DG)(tt:DT)(te:DE)(fin:Sto->Prop):List bo->XE->Sto->Prop
 | [],_,S=>fin S
 |d::ds,τ,S=>g (.d d) τ S fun τ1 S1=>tt τ1 S1 fun b S2=>if b=true then te τ1 S2 fun x S3=>asD x fun e=>∃acc,S3[n]?=some acc/\acc.length<1000/\aN n g tt te fin ds τ1 (S3.set n (acc++[e]))else aN n g tt te fin ds τ1 S2
def eU(caps:List (Option Nat))(i:DI)(g:DG)(tt:DT)(te:DE):DE:=fun δ S R=>i δ S fun ds S1=>aN S1.length g tt te (fun S2=>R (.l S1.length) S2) ds (cR caps δ) (S1++[[]])
def bJ(caps:List (Option Nat))(i:DI)(g:DG)(tt:DT)(te:DE):DE:=fun δ S R=>i δ S fun ds S1=>aN S1.length g tt te (fun S2=>∃S0 acc,S2=S0++[acc]/\S0.length=S1.length/\R (.d (.list acc)) S0) ds (cR caps δ) (S1++[[]])
theorem RepS.pop{h o r:List Addr}{H:Hp}{S0 T:Sto}(hs:RepS h (o++r) H (S0++T))(hl:S0.length=o.length):RepS h o H S0 where
 len:=hl
 nd:=(nodup_append.mp hs.nd).1
 dis:=fun a ha=>hs.dis a (gw _ ha)
 hal:=hs.hal
 cont:=fun k a ds e1 e2=>by
  obtain⟨vs,e3,l⟩:=hs.cont k a ds (eE e1) (eE e2);exact⟨vs,e3,l.mono fun b u e=>by
   obtain⟨z1,z2,z3⟩:=zS.mp e;exact zS.mpr ⟨z1,fun m=>z2 (gw _ m),z3⟩⟩
theorem cJ{h o r:List Addr}{H:Hp}:Same (vx h (o++r) H) (vx h o H):=fun b u e=>by
 obtain⟨z1,z2,z3⟩:=zS.mp e;exact zS.mpr ⟨z1,fun m=>z2 (gw _ m),z3⟩
theorem Ex.pop{o o' r:List Addr}{H H':Hp}(e:Ex o H (o++r) H'):Ex o H o H':=⟨⟨[],yv⟩,fun b u hb eb=>⟨hb,(e.kp b u hb eb).2⟩⟩
theorem tY{caps:List (Option Nat)}{wi:TI}{g:TG}{tt:TT}{te:TE}{di:DI}{dg:DG}{ae:DT}{ac:DE}(hi:RI wi di)(hg:RG g dg)(ht:RT tt ae)(aj:RE te ac)
  {h o:List Addr}{H:Hp}{δ:XE}{σ:St}{S:Sto}{Q:VK}{fin:Nat->Sto->Prop} (he:RepE h o H δ σ) (hs:RepS h o H S) (q:di δ S fun ds S1=>aN S1.length dg ae ac (fin S1.length) ds (cR caps δ) (S1++[[]]))
  (c:∀o1 H1 D o2 H2 S2,Ex o H o1 H1->H1 D=none->Ex (o1++[D]) (upd H1 D (.lst [])) o2 H2->RepS h o2 H2 S2->fin o1.length S2->Q (.ref D) H2):iW caps wi g tt te σ H Q:=by
 refine hi h o H δ σ S _ _ he hs q fun o1 H1 S1 ds J e1 s1 wk d1 D hD=>?_;have eN:Ex o1 H1 (o1++[D]) (upd H1 D (.lst [])):=Ex.new s1 hD;have sN:RepS h (o1++[D]) (upd H1 D (.lst [])) (S1++[[]]):=s1.new hD (zp.mpr rfl);have hn:S1.length=o1.length:=s1.len;refine⟨fun i m τ H2=>m=ds.length-i/\i<=ds.length/\∃o2 δ2 S2,Ex (o1++[D]) (upd H1 D (.lst [])) o2 H2/\RepE h o2 H2 δ2 τ/\RepS h o2 H2 S2/\aN S1.length dg ae ac (fin S1.length) (ds.drop i) δ2 S2,⟨ds.length,yv,jo _,_,_,_,Ex.refl,((he.mono e1).mono eN).tau,sN,d1⟩,?_⟩;rintro i m τ H2 ⟨rfl,hi,o2,δ2,S2,e2,ai,ab,d2⟩;by_cases hlt:i<ds.length
 ·have ed:ds[i]?=some ds[i]:=cp hlt;rw[List.drop_eq_getElem_cons hlt]at d2;refine .inr ⟨wk.go i _ o2 H2 (eN.trans e2).hid ed,fun x H3 y=>?_⟩;obtain⟨s3,hx⟩:=wk.yld i _ o2 H2 x H3 S2 (eN.trans e2).hid ab ed y;have af:Ex o2 H2 o2 H3:=Ex.of_same s3;refine hg h o2 H3 δ2 τ S2 (.d ds[i]) x _ _ (ai.mono af) (ab.same s3) hx d2 fun o4 H4 δ4 S4 τ4 e4 aa ak d4=>?_;refine ht h o4 H4 δ4 τ4 S4 _ _ aa ak d4 fun o5 H5 S5 b e5 s5 d5=>?_;have ah:=((e2.trans af).trans e4).trans e5;cases b with
  |false=>exact e7 ⟨ds.length-(i+1),yw,rfl,hlt,o5,δ4,S5,ah,aa.mono e5,s5,by simpa using d5⟩
  |true=>
   refine eT (aj h o5 H5 δ4 τ4 S5 _ _ (aa.mono e5) s5 (by simpa using d5) fun o6 H6 S6 z v e6 s6 z6 d6=>?_);replace d6:=pI d6;obtain⟨e,rfl,acc,ea,hl,d6⟩:=d6;have ag:=ah.trans e6;have eD:o6[S1.length]?=some D:=by
    obtain⟨r,rfl⟩:=ag.pre;rw[hn];exact eE (by rw[ca])
   obtain⟨vs,ev,l⟩:=s6.cont _ D acc eD ea;refine⟨vs,ev,by rw[l.length];exact small1000 (jp hl),ds.length-(i+1),yw,rfl,hlt,o6,δ4,_,ag.trans (Ex.upd eD),((aa.mono e5).mono e6).mono (Ex.upd eD),s6.upd eD (l.append (zm.mpr ⟨v,[],rfl,z6,zp.mpr rfl⟩)),d6⟩
 ·have ei:i=ds.length:=yw
  subst ei;rw[List.drop_length]at d2;exact .inl ⟨wk.stop _ o2 H2 (eN.trans e2).hid (cv _),c o1 H1 D o2 H2 S2 e1 hD e2 ab (hn▸d2)⟩
theorem uQ{caps:List (Option Nat)}{wi:TI}{g:TG}{tt:TT}{te:TE}{di:DI}{dg:DG}{z:DT}{aa:DE}(hi:RI wi di)(hg:RG g dg)(ht:RT tt z)(ab:RE te aa):RE (iW caps wi g tt te) (eU caps di dg z aa):=fun h o H δ σ S R Q he hs q c=>by
 refine tY (fin:=fun n S2=>R (.l n) S2) hi hg ht ab he hs q fun o1 H1 D o2 H2 S2 e1 hD e2 s2 f=>?_;have eN:Ex o1 H1 (o1++[D]) (upd H1 D (.lst [])):=⟨⟨[D],rfl⟩,fun b w hb e=>by
  have ne:b≠D:=zL e hD;exact⟨by simp[hb,ne],by rw[zV ne];exact e⟩⟩
 refine c o2 H2 S2 (.l o1.length) _ ((e1.trans eN).trans e2) s2 ⟨D,?_,rfl⟩ f;obtain⟨r,rfl⟩:=e2.pre;exact eE (by rw[ca])
theorem dD{caps:List (Option Nat)}{wi:TI}{g:TG}{tt:TT}{te:TE}{di:DI}{dg:DG}{aa:DT}{ab:DE}(hi:RI wi di)(hg:RG g dg)(ht:RT tt aa)(ac:RE te ab):RE (iW caps wi g tt te) (bJ caps di dg aa ab):=fun h o H δ σ S R Q he hs q c=>by
 refine tY (fin:=fun n S2=>∃(S0:Sto) (acc:List bo),S2=S0++[acc]/\S0.length=n/\R (.d (.list acc)) S0) hi hg ht ac he hs q fun o1 H1 D o2 H2 S2 e1 hD e2 s2 ⟨S0,acc,eS,hl,f⟩=>?_;subst eS;have eN:Ex o1 H1 (o1++[D]) (upd H1 D (.lst [])):=⟨⟨[D],rfl⟩,fun b w hb e=>by
  have ne:b≠D:=zL e hD;exact⟨by simp[hb,ne],by rw[zV ne];exact e⟩⟩
 have z:=eN.trans e2;obtain⟨r,rfl⟩:=e2.pre;have er:r=[]:=by
  have:=s2.len;simp only[cq,fr,hl]at this;exact fw yw
 subst er;rw[jb]at s2 z;have s0:RepS h o1 H2 S0:=s2.pop hl;refine c o1 H2 S0 (.d (.list acc)) _ (e1.trans (Ex.pop (o':=o1) z)) s0 ?_ f;obtain⟨vs,ev,l⟩:=s2.cont o1.length D acc (by rw[ca]) (by rw[<- hl,ca]);have nD:D∉o1:=by
  have:=(nodup_append.mp s2.nd).2.2;intro m;exact this D m D yv rfl
 exact cB.mpr ⟨D,vs,rfl,zS.mpr ⟨s2.dis D yv,nD,ev⟩,l.mono cJ⟩
def fin(n:Nat)(R:RX):RX:=fun y S'=>match y with
 | .l k=>if k<n then R (.l k) (S'.take n)else ∃ds,S'[k]?=some ds/\(R (.d (.list ds)) (S'.take n)\/R (.l n) (S'.take n++[ds]))
 | .p k d=>n<=k/\∃ds,S'[k]?=some ds/\R (.p n d) (S'.take n++[ds])
 |y=>R y (S'.take n)
theorem yF{h o r:List Addr}{H H':Hp}{S S':Sto}{k:Nat}{a:Addr}{ds:List bo}(hs:RepS h o H S)(e:Ex o H (o++r) H')(s':RepS h (o++r) H' S')(hk:¬ k<S.length)(ea:(o++r)[k]?=some a)(ab:S'[k]?=some ds):
  Ex o H (o++[a]) H'/\Same (vx h (o++r) H') (vx h (o++[a]) H')/\RepS h (o++[a]) H' (S'.take S.length++[ds]):=by
 have eS:S'=S'.take S.length++S'.drop S.length:=(jk _ _).symm;have hl:(S'.take S.length).length=o.length:=by
  have:=s'.len;rw[cq]at this;rw[jh,this,hs.len];omega
 have s0:RepS h o H' (S'.take S.length):=by
  rw[eS]at s';exact s'.pop hl
 have e0:Ex o H o H':=Ex.pop (o':=o) e;obtain⟨vs,ev,l⟩:=s'.cont k a ds ea ab;have na:a∉o:=fun m=>by
  obtain⟨j,ej⟩:=mem_iff_getElem?.mp m;have hj:j<o.length:=(List.getElem?_eq_some_iff.mp ej).1;have:=kW s'.nd (eE (t:=r) ej) ea;rw[hs.len]at hk;omega
 have nh:a∉h:=s'.dis a (bq ea);have hn:H a=none:=by
  cases eh:H a with
  |none=>rfl
  |some u=>exact absurd (bq ea) (e.kp a u na eh).1
 have e1:Ex o H (o++[a]) H':=⟨⟨[a],rfl⟩,fun b u hb eb=>⟨by simp only[lz,mem_singleton,not_or];exact⟨hb,zL eb hn⟩,(e0.kp b u hb eb).2⟩⟩;have sub:Same (vx h (o++r) H') (vx h (o++[a]) H'):=fun b u eb=>by
  obtain⟨z1,z2,z3⟩:=zS.mp eb;refine zS.mpr ⟨z1,?_,z3⟩;simp only[lz,mem_singleton,not_or];exact⟨fun m=>z2 (gw _ m),fun z=>z2 (by rw[z];exact bq ea)⟩
 refine⟨e1,sub,⟨by rw[cq,cq,hl];rfl,mJ hs.nd na,fun b hb=>?_,s0.hal,fun j b es q1 q2=>?_⟩⟩
 ·rcases mem_append.mp hb with hb|hb
  ·exact hs.dis b hb
  ·rw[mem_singleton.mp hb];exact nh
 ·by_cases hj:j<o.length
  ·rw[cx hj]at q1;rw[cx (by rw[hl];exact hj),List.getElem?_take_of_lt (by rw[hs.len];exact hj)]at q2;obtain⟨ws,e3,l3⟩:=s'.cont j b es (eE q1) q2;exact⟨ws,e3,l3.mono sub⟩
  ·have aa:j=o.length:=by
    obtain⟨q,_⟩:=List.getElem?_eq_some_iff.mp q1;rw[cq,fr]at q;omega
   subst aa;rw[ca]at q1;rw[<- hl,ca]at q2;cases q1;cases q2;exact⟨vs,ev,l.mono sub⟩
theorem AY{h o:List Addr}{H:Hp}{S:Sto}{R:RX}{Q:VK}(hs:RepS h o H S)(c:Cn h o H R Q):Cn h o H (fin S.length R) Q:=fun o' H' S' y v e s' hy q=>by
 obtain⟨r,rfl⟩:=e.pre;have eS:S'=S'.take S.length++S'.drop S.length:=(jk _ _).symm;have hl:(S'.take S.length).length=o.length:=by
  have:=s'.len;rw[cq]at this;rw[jh,this,hs.len];omega
 have s0:RepS h o H' (S'.take S.length):=by
  rw[eS]at s';exact s'.pop hl
 have e0:Ex o H o H':=Ex.pop (o':=o) e;cases y with
 |d d=>exact c o H' _ (.d d) v e0 s0 (Has.mono cJ d v hy) q
 |o w=>exact c o H' _ (.o w) v e0 s0 hy q
 |x C fs=>exact c o H' _ (.x C fs) v e0 s0 (HasE.mono cJ hy) q
 |p k d=>
  obtain⟨hk,ds,z,q⟩:=q;obtain⟨t,a,u,rfl,ea,et,hu⟩:=hy;obtain⟨e1,sub,s1⟩:=yF hs e s' yw ea z;exact c (o++[a]) H' _ (.p S.length d) _ e1 s1 ⟨t,a,u,rfl,by rw[hs.len,ca],sub _ _ et,Has.mono sub _ _ hu⟩ q
 |l k=>
  unfold fin at q;by_cases hk:k<S.length
  ·simp only[hk,↓reduceIte]at q;obtain⟨a,ea,rfl⟩:=hy;exact c o H' _ (.l k) _ e0 s0 ⟨a,by rw[cx (by rw[<- hs.len];exact hk)]at ea;exact ea,rfl⟩ q
  ·simp only[hk,↓reduceIte]at q;obtain⟨ds,z,q⟩:=q;obtain⟨a,ea,rfl⟩:=hy;obtain⟨vs,ev,l⟩:=s'.cont k a ds ea z;have na:a∉o:=fun m=>by
    obtain⟨j,ej⟩:=mem_iff_getElem?.mp m;have hj:j<o.length:=(List.getElem?_eq_some_iff.mp ej).1;have:=kW s'.nd (eE (t:=r) ej) ea;rw[hs.len]at hk;omega
   have nh:a∉h:=s'.dis a (bq ea);rcases q with q|q
   ·exact c o H' _ (.d (.list ds)) _ e0 s0 (cB.mpr ⟨a,vs,rfl,zS.mpr ⟨nh,na,ev⟩,l.mono cJ⟩) q
   ·obtain⟨e1,sub,s1⟩:=yF hs e s' hk ea z;exact c (o++[a]) H' _ (.l S.length) _ e1 s1 ⟨a,by rw[hs.len,ca],rfl⟩ q
def aP(n:Nat)(R:RX):DEnds:={ nx:=fun _ S'=>fin n R (.d .none) S',rt:=fin n R }
theorem eok{h o:List Addr}{H:Hp}{S:Sto}{R:RX}{Q:VK}(hs:RepS h o H S)(c:Cn h o H R Q):EOk h o H (aP S.length R) { nx:=fun _ H'=>Q .non H',rt:=Q } :=
 ⟨fun o' H' δ' S' σ' e he z q=>AY hs c o' H' S' _ _ e z xN q,AY hs c,fun _ _ _ _ _ _ _ _ q=>q.elim,fun _ _ _ _ _ _ _ _ q=>q.elim⟩
def aE(p:List bo):Prop:=∃l g s:Int,p=[.int l,.int g,.int s]/\0<=l
end
section
def AS(K:cu):List V->Hp->VK->Prop:=fun xs H Q=>∃(p:Addr) (ns:List Int),xs=[.ref p]/\SqL K H p (ns.map V.int)/\Q (.int ns.sum) H
def yH(K:cu):List V->Hp->VK->Prop:=fun xs H Q=>∃(p:Addr) (bs:List Bool),xs=[.ref p]/\SqL K H p (bs.map V.bl)/\Q (.bl (bs.all id)) H
theorem Eh:gg "sum" = some (.builtin "sum"):=by decide +kernel
theorem Dn:gg "all" = some (.builtin "all"):=by decide +kernel
section
variable {X:Cx}
theorem Ej(hc:X.calm=true):CallR X (.builtin "sum") (AS X.K):=by
 intro ze s σ H xs us Q I r h;obtain⟨p,ns,rfl,hq,q⟩:=h;obtain⟨u,rfl,rx⟩:=vals1 r;cases (show u=ig p from rx);obtain⟨aa,rv,pl,_⟩:=I.list hq;obtain⟨ys,e,z⟩:=iQ (f6 rv);refine sum_intListG (I.ok.hd hc) (by rw[<- e];exact pl.isList) fun h' tk t' hk=>⟨.int ns.sum,H,I.kept (t':=tk) hk,⟨t',?_⟩,q⟩;have es:preSum (numAt ys) ys.size=ns.sum:=by
  rw[preSum_eq,z,jv yv]
 rw[es]
theorem xP:∀{bs:List Bool}{us:List bn}{i:Nat}{v:bn},Vals (bs.map V.bl) us->us[i]?=some v->∃b,bs[i]?=some b/\v=.bool b
 | [],_,i,v,.nil,e=>by simp at e
 |b::bs,_,0,v,.cons r _,e=>by
  rw[mh]at e;cases e;exact⟨b,rfl,r⟩
 |b::bs,_,i+1,v,.cons _ t,e=>by
  obtain⟨c,e1,e2⟩:=xP (i:=i) (v:=v) t (by simpa using e);exact⟨c,by simpa using e1,e2⟩
theorem EW(bs:List Bool):((fu bs.length).all fun i=>(bs[i]?).getD true)=bs.all id:=by
 rw[Bool.eq_iff_iff,all_eq_true,all_eq_true];constructor
 ·intro h b hb;obtain⟨i,hi⟩:=mem_iff_getElem?.mp hb;have hl:=(List.getElem?_eq_some_iff.mp hi).1;have:=h i (mem_range.mpr hl);rw[hi]at this;exact this
 ·intro h i hi;have hl:=mem_range.mp hi;rw[cp hl];exact h _ (ls hl)
theorem E9(hc:X.calm=true):CallR X (.builtin "all") (yH X.K):=by
 intro ze s σ H xs us Q I r h;obtain⟨p,bs,rfl,hq,q⟩:=h;obtain⟨u,rfl,rx⟩:=vals1 r;cases (show u=ig p from rx);obtain⟨z,rv,pl,_⟩:=I.list hq;have hl:=pl.isList;have aa:p<s.heap.objs.size:=by
  obtain⟨_,e,_⟩:=hl;exact ff e
 refine call_all_walk (x:=ig p) (nj hl ?_);refine⟨s.heap.objs.size,[s.heap.objs.size,p],[s.heap.objs.size],z.toArray.size,_,_,fun i=>(bs[i]?).getD true,rfl,
  Walks.list (A:=X.A.in1) (I.ok.hd hc) _ p (fy aa) z.toArray,⟨⟨_,cz _ rfl,rfl,rfl⟩,hl.push _⟩,fun i v s' Q' E' hP hQ=>?_,fun h' tk hk=>?_⟩
 ·obtain⟨b,e,rfl⟩:=xP (i:=i) (v:=v) rv (by simpa using hP);have ab:Q' b s':=by simpa[e]using hQ
  exact ja ab
 ·have hz:z.toArray.size=bs.length:=by
   have:=rv.length;rw[dj]at this;simp[this]
  rw[hz,EW];refine⟨.bl _,H,I.kept (t':=tk) fun b o e=>hk b o (fun hm=>?_) (bz _ e),rfl,q⟩;rw[mem_singleton.mp hm]at e;exact lg _ (ff e)
end
def fY:List XV->Sto->RX->Prop:=fun xs S R=>arg1 xs fun x=>∃ds,dE S x=some ds/\∃ns:List Int,ds=ns.map df/\R (.d (.int ns.sum)) S
theorem v5{K:cu}:RC (AS K) fY:=fun h o H S xs vs R Q hs hx q c=>by
 obtain⟨x,rfl,ds,hd,ns,rfl,q1⟩:=bZ q;obtain⟨v,rfl,z⟩:=hxs1 hx;obtain⟨a,ws,rfl,ea,l⟩:=aY hs hd z;rw[jH l]at ea;exact⟨a,ns,rfl,.of ea,c o H S _ _ Ex.refl hs (xI _) q1⟩
theorem tP{H:Hp}:∀{ns:List Bool}{vs:List V},HasL H (ns.map kc) vs->vs=ns.map V.bl
 | [],vs,h=>zp.mp h
 |n::ns,vs,h=>by
  obtain⟨v,r,rfl,h1,h2⟩:=zm.mp h;rw[eH.mp h1,tP h2];rfl
def gG:List XV->Sto->RX->Prop:=fun xs S R=>arg1 xs fun x=>∃ds,dE S x=some ds/\∃ns:List Bool,ds=ns.map kc/\R (.d (.bool (ns.all id))) S
theorem tL{K:cu}:RC (yH K) gG:=fun h o H S xs vs R Q hs hx q c=>by
 obtain⟨x,rfl,ds,hd,ns,rfl,q1⟩:=bZ q;obtain⟨v,rfl,z⟩:=hxs1 hx;obtain⟨a,ws,rfl,ea,l⟩:=aY hs hd z;rw[tP l]at ea;exact⟨a,ns,rfl,.of ea,c o H S _ _ Ex.refl hs (xB _) q1⟩
section
variable {S:Sto}{i:Int}{b:Bool}{z:Str}{ds:List bo}{d:bo}{k:Nat}{x y:XV}{R:RX}{c:String}{p:List bo}{n:Nat}{v:V}
theorem lE{K:Int->Prop}:asI (.d (.int i)) K=K i:=rfl
theorem l6{K:Bool->Prop}:asB (.d (.bool b)) K=K b:=rfl
theorem jM{K:Str->Prop}:asS (.d (.str z)) K=K z:=rfl
theorem jZ{K:List bo->Prop}:asT (.d (.tuple ds)) K=K ds:=rfl
theorem mL{K:bo->Prop}:asD (.d d) K=K d:=rfl
theorem j8:dE S (.d (.list ds))=some ds:=rfl
theorem lF:asQ S (.d (.list ds))=some ds:=rfl
theorem lB:asQ S (.l k)=S[k]?:=rfl
theorem lA:aT S (.d d)=some d:=rfl
theorem mG:aT S (.l k)=(S[k]?).map .list:=rfl
theorem lW:ret0 S R (.d d) []=R (.d d) S:=rfl
theorem mV:ret0 S R (.l 0) [ds]=R (.l S.length) (S++[ds]):=rfl
theorem jR:jQ k S R (.d d) [p]=R (.d d) (S.set k p):=rfl
theorem lV:fin n R (.d d) S=R (.d d) (S.take n):=rfl
theorem lC:fin n R (.l k) S=if k<n then R (.l k) (S.take n)else ∃ds,S[k]?=some ds/\(R (.d (.list ds)) (S.take n)\/R (.l n) (S.take n++[ds])):=rfl
theorem iR{K:XV->Prop}:arg1 [x] K=K x:=rfl
theorem kY{K:XV->XV->Prop}:arg2 [x,y] K=K x y:=rfl
theorem iN{K:String->Prop}:qH (.o (.ty c)) K↔K c:=⟨fun⟨_,e,q⟩=>by cases e;exact q,fun q=>⟨c,rfl,q⟩⟩
theorem kS{K:Int->Prop}:n6 (.d (.bool b)) K=K (if b then 1 else 0):=rfl
theorem kO:(aP n R).rt x S=fin n R x S:=rfl
theorem kH:datas []=some []:=rfl
theorem mQ{r:List XV}:datas (.d d::r)=(datas r).map (d :: ·):=rfl
end
theorem jD{α:Type}{a:α}{l:List α}:atI (a::l) 0=some a:=dW (j:=0) rfl
theorem j9{α:Type}{a b:α}{l:List α}:atI (a::b::l) 1=some b:=dW (j:=1) rfl
theorem kU{α:Type}{a b c:α}{l:List α}:atI (a::b::c::l) 2=some c:=dW (j:=2) rfl
def Shp(n:Nat)(d:bo):Prop:=d.canLay0=true/\d.depth<=n
theorem iH{n:Nat}{i:Int}:Shp n (.int i):=⟨rfl,jo _⟩
theorem qV{n:Nat}:∀{ds:List bo},(∀d∈ds,Shp n d)->ju ds=true/\ng ds<=n
 | [],_=>⟨by simp only[ju],by simp only[ng];exact jo _⟩
 |d::ds,h=>by
  obtain⟨h1,h2⟩:=h d dh;obtain⟨h3,h4⟩:=qV (ds:=ds) fun e m=>h e (cr _ m);simp only[ju,ng,h1,h3,Bool.and_true,true_and];omega
theorem mP{n:Nat}{ds:List bo}(h:∀d∈ds,Shp n d):Shp (n+1) (.list ds):=by
 obtain⟨h1,h2⟩:=qV h;exact⟨by simp only[kh];exact h1,by simp only[PyData.depth];omega⟩
theorem mT{n:Nat}{ds:List bo}(h:∀d∈ds,Shp n d):Shp (n+1) (.tuple ds):=by
 obtain⟨h1,h2⟩:=qV h;exact⟨by simp only[kh];exact h1,by simp only[PyData.depth];omega⟩
theorem mZ{α:Type}{n:Nat}{f:α->bo}{l:List α}(h:∀x∈l,Shp n (f x)):∀d∈l.map f,Shp n d:=fun d m=>by
 obtain⟨x,hx,rfl⟩:=mem_map.mp m;exact h x hx
theorem xX{n:Nat}{a b:bo}(h1:Shp n a)(h2:Shp n b):∀d∈[a,b],Shp n d:=by
 intro d m;simp only[ji,ie,or_false]at m;rcases m with rfl|rfl
 ·exact h1
 ·exact h2
theorem Shp.ok{n:Nat}{d:bo}(h:Shp n d)(hn:n<=64:=by decide):dy d=true:=by
 unfold dy;rw[h.1,decide_eq_true (gq h.2 hn)];rfl
theorem dF{g:DG}{b:DS}{E:DEnds}:∀{ds:List bo}{δ:XE}{S:Sto} (I:Nat->XE->Sto->Prop),I 0 δ S ->
  (∀i d δ S (N:XE->Sto->Prop),ds[i]?=some d->I i δ S->(∀ δ' S',I (i+1) δ' S'->N δ' S')->g (.d d) δ S fun δ1 S1=>b { nx:=N,ct:=N,bk:=E.nx,rt:=E.rt } δ1 S1) ->
  (∀ δ S,I ds.length δ S->E.nx δ S)->iJ g b ds E δ S
 | [],δ,S,I,h0,_,fin=>fin δ S h0
 |d::ds,δ,S,I,h0,step,fin=>by
  show g (.d d) δ S fun δ1 S1=>b _ δ1 S1;refine step 0 d δ S _ rfl h0 fun δ' S' h1=>?_;exact dF (ds:=ds) (fun i=>I (i+1)) h1 (fun i e δ S N hi=>step (i+1) e δ S N (by simpa using hi)) fin
theorem pE{α:Type}{l:List α}{a b:α}{n:Nat}(h:l.length=n):(l++[a]).set n b=l++[b]:=by
 subst h;rw[List.set_append_right _ _ (cv _),Nat.sub_self];rfl
theorem E1{H:Hp}:RepS [] [] H []:=⟨rfl,nodup_nil,fun _ h=>(nomatch h),fun _ h=>(nomatch h),fun _ _ _ e=>(by simp at e)⟩
theorem Ex.same_nil{o':List Addr}{H H':Hp}(e:Ex [] H o' H'):Same H H':=fun b u q=>(e.kp b u yv q).2
theorem DV{K:cu}{a:Addr}{ns:List Int}{N:Int}{j m:Nat}{tb:TS}{db:DS}{D:Ends}{σ:St}{H:Hp}(hb:RS tb db)(h0:σ[0]?=some (some (.ref a)))(hl:σ.length=m+1)(hS:SqL K H a (ns.map V.int))(z:ns.length<=63)
  (turn:∀n:Int,db { nx:=fun δ _=>δ[0]?=some (some (.o (.ref a)))/\δ.length=m+1,ct:=fun δ _=>δ[0]?=some (some (.o (.ref a)))/\δ.length=m+1,rt:=fun _ _=>False } ((some (.o (.ref a))::ci m none).set j (some (.d (.int n)))) [])
  (hj:j≠0) (done:∀(σ:St) (H1:Hp),Same H H1->D.nx σ H1):
  oM (qG K (tOp iD (g4 (g7 (tC2 (pD K) (eG 0) (tC (.int 0))) gX)) (tSl (l7 K) (eG 0) (g0 (tC (.int 1))) (g0 (tC (.int N)))))) (iB j) tb D σ H:=by
 refine Bx (a:=a) (ns:=ns) (fun σ=>σ[0]?=some (some (.ref a))/\σ.length=m+1) h0 hS z ⟨h0,hl⟩ ?_ fun σ H1 _ s=>done σ H1 s;rintro n σ1 H1 H2 ⟨z0,z1⟩ s1 s2;refine hb [] [] H2 _ _ [] _ _ ⟨by simp[z1],fun i x e=>?_⟩ E1 (turn n) ⟨?_,fun _ _ _ _ _ _ _ _ q=>q.elim,fun _ _ _ _ _ _ _ _ q=>q.elim,?_⟩
 ·rw[List.getElem?_set]at e ⊢;by_cases hij:j=i
  ·rw[cf hij]at e ⊢;by_cases hjl:j<m+1
   ·rw[cf (by simpa using hjl)]at e;rw[cf (by rw[z1];exact hjl)];cases e;exact⟨.int n,rfl,xI n⟩
   ·rw[cb (by simpa using hjl)]at e;cases e
  ·rw[cb hij]at e ⊢;cases i with
   |zero=>
    cases e;exact⟨.ref a,z0,rfl⟩
   |succ i=>
    rw[ml,List.getElem?_replicate]at e;split at e<;>cases e
 ·rintro o' H' δ' S' σ' e he hs ⟨q1,q2⟩;obtain⟨v,ev,hv⟩:=he.get 0 _ q1;cases hv;exact⟨s2.trans e.same_nil,ev,by rw[<- he.len];exact q2⟩
 ·rintro o' H' δ' S' σ' e he hs ⟨q1,q2⟩;obtain⟨v,ev,hv⟩:=he.get 0 _ q1;cases hv;exact⟨s2.trans e.same_nil,ev,by rw[<- he.len];exact q2⟩
end
section
theorem A7{P:fe}{w:ft}{K:cu}{tg:Expr}(it:Addr)(lo:Int)(n:Nat):Turn P w K tg (Itr lo n) [it] it (fun i h=>IsLongIter h it (lo+(i:Nat)*1) ((n:Int)-(i:Nat)) 1) where
 mem:=by simp
 obj:=fun i h st b hb=>by
  have e:b=it:=by simpa using hb
  subst e;exact⟨_,st,fun v z=>by
   have z':Data.fields _=Data.cell v:=z;cases z'⟩
 keep:=fun i h h' st k=>k it yv _ st
 item:=by
  intro X hP hw hK hc i ze s σ H E I hf st hg;subst hP hw hK;obtain⟨f0,f1,f2,f3,f4,f5⟩:=hf it yv;have W:=Walks.longrange (prog:=X.prog) (w:=X.w) (I.ok.hd hc) it lo 1 n;refine W.item i s _ _ hg st fun v h' tk hv st' kk=>?_;obtain⟨t,rfl⟩:=hv;have I1:Inv X ze σ H { s with heap:=h',toks:=tk }:=I.turned (fun b o hb e=>kk b o (by simpa using hb) e) f0 f1 f3 f4 f5;refine⟨_,rfl,oW (s:={ s with heap:=h',toks:=tk }) (n:="longrange_iterator") st' rfl rfl dz ⟨.int (lo+i),H,I1,⟨t,?_⟩,⟨rfl,rfl⟩,st',fun b hb=>(hf b hb).1⟩⟩;rw[Int.mul_one]
 done:=by
  intro X hP hw hK hc i ze s σ H E I hf st hg;subst hP hw hK;obtain⟨f0,f1,f2,f3,f4,f5⟩:=hf it yv;exact wpAny_pyNext_long_end (I.ok.hd hc) st (by have:n<=i:=hg;omega) fun h' eb=>⟨rfl,I.turned (t':=s.toks) (fun b o hb e=>eb b o hb e) f0 f1 f3 f4 f5⟩
 self:=fun _ _ _ _ _ st h=>wpAny_pyIter_longiter st h
section
variable {X:Cx}{tg:Expr}
theorem Dp{ze:List (Addr×Obj)}{σ:St}{H:Hp}{s:bp}{R:It->Hp->Prop}{E:bn->bp->Prop}{lo hi:Int}{t u v:Tok}{tk:Nat}(I:Inv X ze σ H s)
  (q:R (Itr lo (hi-lo).toNat) H):ck (model X.prog X.w) X.A (pyIter (.ref s.heap.objs.size)) (PIE X ze σ tg R) E { s with heap:=s.heap.push { cls:=.type "range",data:=.fields #[.int lo t,.int hi u,.int 1 v] },toks:=tk }:=by
 have I1:Inv X ze σ H { s with heap:=s.heap.push { cls:=.type "range",data:=.fields #[.int lo t,.int hi u,.int 1 v] },toks:=tk }:=I.kept fun b o e=>bz _ e;have e1:lo+((0:Nat):Int)*1=lo:=by simp
 have e2:(((hi-lo).toNat:Nat):Int)-((0:Nat):Int)=Builtin.Range.rangeSize lo hi 1:=by rw[rangeSize_one];split<;>omega
 cases hsm:Builtin.Range.small lo hi 1 with
 |true=>
  refine wpAny_pyIter_range (IsRange.new ..) hsm ?_;refine⟨(s.heap.push { cls:=.type "range",data:=.fields #[.int lo t,.int hi u,.int 1 v] }).objs.size,[(s.heap.push { cls:=.type "range",data:=.fields #[.int lo t,.int hi u,.int 1 v] }).objs.size],_,_,H,rfl,
   I1.kept (t':=tk) fun b o e=>bz _ e,C1 _ lo (hi-lo).toNat,?_,fun b hb=>?_,q⟩
  ·show IsRangeIter _ _ (lo+((0:Nat):Int)*1) ((((hi-lo).toNat:Nat):Int)-((0:Nat):Int)) 1;rw[e1,e2];exact cz _ rfl
  ·have e:b=(s.heap.push { cls:=.type "range",data:=.fields #[.int lo t,.int hi u,.int 1 v] }).objs.size:=by simpa using hb
   subst e;exact I1.fpOk (cv _) (I1.hok.fresh (cv _))
 |false=>
  refine wpAny_pyIter_longrange (IsRange.new ..) hsm ?_;refine⟨(s.heap.push { cls:=.type "range",data:=.fields #[.int lo t,.int hi u,.int 1 v] }).objs.size,[(s.heap.push { cls:=.type "range",data:=.fields #[.int lo t,.int hi u,.int 1 v] }).objs.size],_,_,H,rfl,
   I1.kept (t':=tk) fun b o e=>bz _ e,A7 _ lo (hi-lo).toNat,?_,fun b hb=>?_,q⟩
  ·show IsLongIter _ _ (lo+((0:Nat):Int)*1) ((((hi-lo).toNat:Nat):Int)-((0:Nat):Int)) 1;rw[e1,e2];exact cz _ rfl
  ·have e:b=(s.heap.push { cls:=.type "range",data:=.fields #[.int lo t,.int hi u,.int 1 v] }).objs.size:=by simpa using hb
   subst e;exact I1.fpOk (cv _) (I1.hok.fresh (cv _))
def y6(ta:TA):TI:=fun σ H R=>ta σ H fun vs H1=>∃j:Int,vs=[.int j]/\R (Itr 0 j.toNat) H1
theorem zW{a:Expr}{ta:TA}{p pos:Pos}(hg:Gl X "range")(hm:X.mg "range" = none)(ha:PA X [a] ta)(hs:fi [a] X.env=[(false,eval a X.env)]:=by rfl):PI X tg (.Call (.Name "range" p) [a] [] pos) (y6 ta):=by
 intro ze s σ H R I h;refine Call_ (hU I hg hm boot_range (PyProof.Rows.callWith_type1 (thn (ha pos ze s σ H _ I h) fun us s1 ⟨vs,H1,I1,r1,q1⟩=>?_) hs rfl));obtain⟨j,e,q⟩:=q1;subst e;cases r1 with
 |cons r rr=>
  cases rr;obtain⟨t,rfl⟩:=r;exact call_range_1 (Dp I1 (by simpa using q))
end
def aZ(a:DA):DI:=fun δ S R=>a δ S fun xs S1=>arg1 xs fun x=>asI x fun j=>R (fC 0 j.toNat) S1
def lL(a:DA):DI:=fun δ S R=>a δ S fun xs S1=>arg2 xs fun x y=>asI x fun i=>asI y fun j=>R (fC i (j-i).toNat) S1
theorem fF{ta:TA}{da:DA}(ha:RA ta da):RI (y6 ta) (aZ da):=fun h o H δ σ S R Q he hs q c=>
 ha h o H δ σ S _ _ he hs q fun o1 H1 S1 xs vs e1 s1 x1 d0=>by
  obtain⟨x,rfl,d2⟩:=bZ d0;obtain⟨j,rfl,d1⟩:=aU d2;obtain⟨v,rfl,hv⟩:=hxs1 x1;rw[aV hv];exact⟨j,rfl,c o1 H1 S1 _ _ e1 s1 Cm d1⟩
end
section
open Sem (wp)
open AutoSeq1 (wpAny_loadPart')
def x8(i:Nat):List bo->List bo
 | []=>[]
 |d::ds=>.tuple [.int i,d]::x8 (i+1) ds
end
section
def dIx:D2:=fun x y S R=>asI y fun i=>match x with
 | .d (.tuple ds)=>∃d,atI ds i=some d/\R (.d d) S
 | .d (.list ds)=>∃d,atI ds i=some d/\R (.d d) S
 | .l k=>∃ds,S[k]?=some ds/\∃d,atI ds i=some d/\R (.d d) S
 | .d (.str z)=>z.length<=dw/\∃c,atI z.cps.toList i=some c/\R (.d (.str ⟨#[c]⟩)) S
 |_=>False
theorem A9:RO rB (fun x y S R=>asS x fun z=>asI y fun i=>z.length<=dw/\∃c,atI z.cps.toList i=some c/\R (.d (.str ⟨#[c]⟩)) S):=fun h o H S x y v u R Q hs hx hy q c=>by
 replace q:=qA q;obtain⟨z,rfl,q⟩:=q;replace q:=aU q;obtain⟨i,rfl,hz,k,ek,q⟩:=q;exact⟨z,i,k,cQ hx,aV hy,hz,ek,c o H S _ _ Ex.refl hs (xS _) q⟩
theorem cL{K:cu}:RO (rIx K) dIx:=fun h o H S x y v u R Q hs hx hy q c=>by
 replace q:=aU q;obtain⟨i,rfl,q⟩:=q;split at q
 ·exact .inr (.inl (C2 h o H S _ _ v u R Q hs hx hy q c))
 ·exact .inl (yO h o H S _ _ v u R Q hs hx hy ⟨_,rfl,q⟩ c)
 ·exact .inl (yO h o H S _ _ v u R Q hs hx hy q c)
 ·exact .inr (.inr (A9 h o H S _ _ v u R Q hs hx hy q c))
 ·exact q.elim
section
variable {S:Sto}{R:RX}{ds:List bo}{i:Int}{k:Nat}{z:Str}
theorem lM:dIx (.d (.tuple ds)) (.d (.int i)) S R=∃d,atI ds i=some d/\R (.d d) S:=rfl
theorem mD:dIx (.d (.list ds)) (.d (.int i)) S R=∃d,atI ds i=some d/\R (.d d) S:=rfl
theorem jI:dIx (.l k) (.d (.int i)) S R=∃ds,S[k]?=some ds/\∃d,atI ds i=some d/\R (.d d) S:=rfl
theorem lN:dIx (.d (.str z)) (.d (.int i)) S R=(z.length<=dw/\∃c,atI z.cps.toList i=some c/\R (.d (.str ⟨#[c]⟩)) S):=rfl
end
def AA(K:cu):V->Option Int->Option Int->Hp->VK->Prop:=fun x a b H Q=>l7 K x a b H Q\/(qO K x a b H Q\/yQ x a b H Q)
theorem rS{X:Cx}:SlR X (AA X.K):=xL.or (xU.or FI)
def gK:D3:=fun x i j S R=>match x with
 | .d (.tuple ds)=>¬(HT.sIx ds.length 0 i=0/\HT.sIx ds.length ds.length j=ds.length)/\R (.d (.tuple (aH ds i j))) S
 | .d (.list ds)=>R (.d (.list (aH ds i j))) S
 | .l k=>∃ds,S[k]?=some ds/\R (.d (.list (aH ds i j))) S
 | .d (.str z)=>z.length<=dw/\R (.d (.str (PySem.Txt.slice z i j))) S
 |_=>False
theorem wC{K:cu}:RL (AA K) gK:=fun h o H S x v a b R Q hs hx q c=>by
 unfold gK at q;split at q
 ·exact .inr (.inl (BT h o H S _ v a b R Q hs hx q c))
 ·exact .inl (vO h o H S _ v a b R Q hs hx ⟨_,rfl,q⟩ c)
 ·exact .inl (vO h o H S _ v a b R Q hs hx q c)
 ·exact .inr (.inr ⟨_,cQ hx,q.1,c o H S _ _ Ex.refl hs (xS _) q.2⟩)
 ·exact q.elim
section
variable {S:Sto}{R:RX}{ds:List bo}{i j:Option Int}{k:Nat}{z:Str}
theorem l9:gK (.l k) i j S R=∃ds,S[k]?=some ds/\R (.d (.list (aH ds i j))) S:=rfl
theorem i9:gK (.d (.str z)) i j S R=(z.length<=dw/\R (.d (.str (PySem.Txt.slice z i j))) S):=rfl
end
def uX(K:cu):R2:=fun x y H Q=>∃a b ys,x=.ref a/\y=.ref b/\SqT K H a []/\SqT K H b ys/\Q (.ref b) H
theorem Cy{X:Cx}:OpR X (jq .Add) (uX X.K):=by
 intro ze s σ H x y v u Q I rx ry h;obtain⟨a,b,ys,rfl,rfl,ha,hb,q⟩:=h;cases rx;cases ry;obtain⟨aa,r1,p1,_⟩:=I.tuple ha;obtain⟨z,r2,p2,_⟩:=I.tuple hb;cases r1;obtain⟨⟨c1,d1,e1,l1⟩,o1,w1,n1,k1⟩:=id p1;obtain⟨⟨c2,d2,e2,l2⟩,o2,w2,n2,k2⟩:=id p2;simp only at w1 k1 w2 k2;subst w1 k1 w2 k2;exact concat_meets ⟨_,o1,rfl⟩ ⟨_,o2,rfl⟩ noFill_tuple_add seq_tuple_add PySem.F.slot_tuple_add PySem.F.entry_tuple_add (PySem.F.args_tuple_add_2 _ _) (tuple_addW0 a b _ _ n1 n2 d1 d2 l1 l2 yv) ⟨o1,o2,⟨.ref b,H,I,rfl,q⟩⟩
def x9(K:cu):R2:=fun x y H Q=>rI0 (fun i j=>.int (i+j)) x y H Q\/(iD x y H Q\/(pX K x y H Q\/(uX K x y H Q\/∃i j,x=.str i/\y=.str j/\i.length+j.length<=dw/\Q (.str (i++j)) H)))
theorem zG{X:Cx}:OpR X (jq .Add) (x9 X.K):=Bq.or (qS.or (Ec.or (Cy.or D6)))
def aC:D2:=fun x y S R=>match x,y with
 | .d (.int i),.d (.int j)=>R (.d (.int (i+j))) S
 | .d (.tuple ds),.d (.tuple es)=>ds.length+es.length<=1000/\R (.d (.tuple (ds++es))) S
 | .d (.str a),.d (.str b)=>a.length+b.length<=dw/\R (.d (.str (a++b))) S
 |x,y=>asL S x fun ds=>asL S y fun es=>ds.length+es.length<=1000/\R (.d (.list (ds++es))) S
theorem bL{K:cu}:RO (x9 K) aC:=fun h o H S x y v u R Q hs hx hy q c=>by
 unfold aC at q;split at q
 ·exact .inl (pZ h o H S _ _ v u R Q hs hx hy q c)
 ·rename_i ds es;cases ds with
  |cons d ds=>exact .inr (.inr (.inl (A5 h o H S _ _ v u R Q hs hx hy ⟨yv,q⟩ c)))
  |nil=>
   obtain⟨a,vs,rfl,ea,l⟩:=c8 hx;obtain⟨b,us,rfl,eb,l'⟩:=c8 hy;rw[zp.mp l]at ea;exact .inr (.inr (.inr (.inl ⟨a,b,us,rfl,rfl,.of ea,.of eb,c o H S (.d (.tuple es)) _ Ex.refl hs hy q.2⟩)))
 ·exact .inr (.inr (.inr (.inr ⟨_,_,cQ hx,cQ hy,q.1,c o H S _ _ Ex.refl hs (xS _) q.2⟩)))
 ·exact .inr (.inl (DH h o H S _ _ v u R Q hs hx hy q c))
section
variable {S:Sto}{R:RX}{ds es:List bo}{i j:Int}{k l:Nat}{a b:Str}
theorem jV:aC (.d (.int i)) (.d (.int j)) S R=R (.d (.int (i+j))) S:=rfl
theorem jG:aC (.d (.tuple ds)) (.d (.tuple es)) S R=(ds.length+es.length<=1000/\R (.d (.tuple (ds++es))) S):=rfl
theorem i6:aC (.d (.list ds)) (.d (.list es)) S R↔(ds.length+es.length<=1000/\R (.d (.list (ds++es))) S):=⟨fun⟨_,e,_,e',q⟩=>by cases e;cases e';exact q,fun q=>⟨_,rfl,_,rfl,q⟩⟩
end
def xF:R2:=fun x y H Q=>rI IntMulOk (fun i j=>.int (i*j)) x y H Q\/(wH x y H Q\/x3 x y H Q)
theorem cG{X:Cx}:OpR X (jq .Mult) xF:=Bk.or (Ar.or BF)
def bB:D2:=fun x y S R=>asI y fun j=>match x with
 | .d (.int i)=>IntMulOk i j/\R (.d (.int (i*j))) S
 | .d (.str z)=>z.length<=1000/\j<=1000/\-1000<=j/\R (.d (.str (PySem.Txt.mul z j))) S
 | .d (.list ds)=>j<=1000/\-1000<=j/\ds.length*j.toNat<=1000/\R (.d (.list (ci j.toNat ds).flatten)) S
 |_=>False
theorem HasL.rep{H:Hp}{ds:List bo}{vs:List V}(l:HasL H ds vs):∀n:Nat,HasL H (ci n ds).flatten (ci n vs).flatten
 | 0=>zp.mpr rfl
 |n+1=>by
  rw[li,li,flatten_cons,flatten_cons];exact l.append (HasL.rep l n)
theorem hX:RO xF bB:=fun h o H S x y v u R Q hs hx hy q c=>by
 replace q:=aU q;obtain⟨j,rfl,q⟩:=q;split at q
 ·exact .inl (eX h o H S _ _ v u R Q hs hx hy q c)
 ·exact .inr (.inl ⟨_,_,cQ hx,aV hy,q.1,q.2.1,q.2.2.1,c o H S _ _ Ex.refl hs (xS _) q.2.2.2⟩)
 ·obtain⟨a,vs,rfl,ea,l⟩:=aY (x:=.d (.list _)) hs rfl hx;obtain⟨h1,h2,h3,q⟩:=q;exact .inr (.inr ⟨a,j,vs,rfl,aV hy,ea,yw,yw,by rw[l.length];exact jp (small1000 h3),k9 hs (l.rep j.toNat) c q⟩)
 ·exact q.elim
section
variable {S:Sto}{R:RX}{i j:Int}{z:Str}{ds:List bo}
theorem jS:bB (.d (.list ds)) (.d (.int j)) S R=(j<=1000/\-1000<=j/\ds.length*j.toNat<=1000/\R (.d (.list (ci j.toNat ds).flatten)) S):=rfl
theorem kK:bB (.d (.int i)) (.d (.int j)) S R=(IntMulOk i j/\R (.d (.int (i*j))) S):=rfl
theorem kR:bB (.d (.str z)) (.d (.int j)) S R=(z.length<=1000/\j<=1000/\-1000<=j/\R (.d (.str (PySem.Txt.mul z j))) S):=rfl
end
def vF:R2:=fun x y H Q=>rI CDivX (fun i j=>.int (i/j)) x y H Q\/rI CDivN (fun i j=>.int (i.fdiv j)) x y H Q
theorem lU{X:Cx}:OpR X (jq .FloorDiv) vF:=DK.or F7
def dFd:D2:=fun x y S R=>asI x fun i=>asI y fun j=>(CDivX i j/\R (.d (.int (i/j))) S)\/(CDivN i j/\R (.d (.int (i.fdiv j))) S)
theorem BK:RO vF dFd:=fun h o H S x y v u R Q hs hx hy q c=>by
 replace q:=aU q;obtain⟨i,rfl,q⟩:=q;replace q:=aU q;obtain⟨j,rfl,q⟩:=q;rcases q with q|q
 ·exact .inl (eX (C:=CDivX) (g:=fun i j=>i/j) h o H S _ _ v u R Q hs hx hy q c)
 ·exact .inr (eX (C:=CDivN) (g:=fun i j=>i.fdiv j) h o H S _ _ v u R Q hs hx hy q c)
def lD(S:Sto):XV->Option Bool
 | .d .none=>some false
 | .d (.bool b)=>some b
 | .d (.int i)=>some (i != 0)
 | .d (.str z)=>if z.length<=dw then some ((z.length:Int) != 0)else none
 | .d (.list ds)=>some (!ds.isEmpty)
 | .d (.tuple ds)=>some (!ds.isEmpty)
 | .l k=>(S[k]?).map fun ds=>!ds.isEmpty
 |_=>none
def cA(a:DE):DT:=fun δ S R=>a δ S fun x S1=>∃k,lD S1 x=some k/\R k S1
theorem qR{H:Hp}{ds:List bo}{vs:List V}(l:HasL H ds vs):(!ds.isEmpty)=!vs.isEmpty:=by
 have:=l.length;cases ds<;>cases vs<;>simp_all
theorem gD{K:cu}{ta:TE}{da:DE}(ha:RE ta da):RT (fun σ H Q=>ta σ H fun x H'=>∃k,TruV K x H' k/\Q k H') (cA da):=fun h o H δ σ S R Q he hs q c=>
 ha h o H δ σ S _ _ he hs q fun o1 H1 S1 x v e1 s1 x1 ⟨k,ek,d1⟩=>by
  refine⟨k,?_,c o1 H1 S1 k e1 s1 d1⟩;unfold lD at ek;split at ek
  ·cases ek;rw[(hG (H:=vx h o1 H1)).mp x1];rfl
  ·cases ek;rw[gP x1];rfl
  ·cases ek;rw[aV x1];rfl
  ·split at ek
   ·rename_i hz;cases ek;rw[cQ x1];exact⟨hz,rfl⟩
   ·cases ek
  ·obtain⟨a,vs,rfl,ea,l⟩:=aY (x:=.d (.list _)) s1 rfl x1;cases ek;exact .inl ⟨vs,.of ea,qR l⟩
  ·obtain⟨a,vs,rfl,ea,l⟩:=c8 x1;cases ek;exact .inr (.inl ⟨vs,.of ea,qR l⟩)
  ·rename_i j _;cases hj:S1[j]? with
   |none=>rw[hj]at ek;cases ek
   |some ds=>
    rw[hj]at ek;cases ek;obtain⟨a,vs,rfl,ea,l⟩:=aY (x:=.l j) s1 hj x1;exact .inl ⟨vs,.of ea,qR l⟩
  ·cases ek
section
variable {S:Sto}{b:Bool}{i:Int}{ds:List bo}{k:Nat}
theorem j4:lD S (.d (.bool b))=some b:=rfl
theorem k6:lD S (.d (.tuple ds))=some (!ds.isEmpty):=rfl
theorem jJ:lD S (.l k)=(S[k]?).map fun ds=>!ds.isEmpty:=rfl
end
def iZ:DS:=fun _ _ _=>False
def xJ(K:cu)(tl:TE):TI:=fun σ H R=>tl σ H fun x H1=>∃a,x=.ref a/\(((∃xs,SqL K H1 a xs)/\R (Itl K a) H1)\/((∃xs,SqT K H1 a xs)/\R (Itt K a) H1))
theorem c9{X:Cx}{tg:Expr}{l:Expr}{tl:TE}(hl:PE X l tl):PI X tg l (xJ X.K tl):=by
 intro ze s σ H R I h;refine thn (hl ze s σ H _ I h) fun v s1 ⟨x,H1,I1,r1,q1⟩=>?_;obtain⟨a,e,⟨⟨xs,hq⟩,q⟩|⟨⟨xs,hq⟩,q⟩⟩:=q1
 ·subst e;cases r1;obtain⟨z,rv,p,hz⟩:=I1.list hq;refine nj p.isList ?_;refine⟨s1.heap.objs.size,[s1.heap.objs.size],_,_,H1,rfl,I1.kept (t':=s1.toks) fun b o e=>bz _ e,vW a _,⟨_,cz _ rfl,rfl,rfl⟩,fun b hb=>?_,q⟩;have e:b=s1.heap.objs.size:=by simpa using hb
  subst e;exact I1.fpOk (cv _) (I1.hok.fresh (cv _))
 ·subst e;cases r1;obtain⟨z,rv,p,hz⟩:=I1.tuple hq;refine wpAny_pyIter_tuple (show s1.heap.IsTuple a z.toArray from p) ?_;refine⟨s1.heap.objs.size,[s1.heap.objs.size],_,_,H1,rfl,I1.kept (t':=s1.toks) fun b o e=>bz _ e,CY a _,⟨_,cz _ rfl,rfl,rfl⟩,fun b hb=>?_,q⟩;have e:b=s1.heap.objs.size:=by simpa using hb
  subst e;exact I1.fpOk (cv _) (I1.hok.fresh (cv _))
def cV:XV->Option (List bo)
 | .d (.list ds)=>some ds
 | .d (.tuple ds)=>some ds
 |_=>none
theorem mU{ds:List bo}:cV (.d (.list ds))=some ds:=rfl
theorem lZ{ds:List bo}:cV (.d (.tuple ds))=some ds:=rfl
def bT(e:DE):DI:=fun δ S R=>e δ S fun x S1=>∃ds,cV x=some ds/\R ds S1
theorem dZ{K:cu}{te:TE}{de:DE}(z:RE te de):RI (xJ K te) (bT de):=fun h o H δ σ S R Q he hs q c=>
 z h o H δ σ S _ _ he hs q fun o1 H1 S1 x v e1 s1 x1 ⟨ds,ex,d1⟩=>by
  unfold cV at ex;split at ex
  ·cases ex;obtain⟨a,vs,rfl,ea,l⟩:=cB.mp (show Has _ _ _ from x1);have hl:=l.length;refine⟨a,rfl,.inl ⟨⟨vs,.of (bH _ _ ea)⟩,c o1 H1 S1 ds _ e1 s1 ⟨fun i o2 H2 e2 hi=>⟨vs,.of (bH _ _ (e2.vx _ _ ea)),yw⟩,fun i d o2 H2 e2 hi=>?_,fun i d o2 H2 x H3 S2 e2 s2 hi y=>?_⟩ d1⟩⟩
   ·obtain⟨v,ev,_⟩:=l.get hi;exact⟨vs,v,.of (bH _ _ (e2.vx _ _ ea)),ev⟩
   ·obtain⟨v,ev,hv⟩:=l.get hi;have e3:H3=H2:=y.1;subst e3;have ex:=y.2 vs (.of (bH _ _ (e2.vx _ _ ea)));rw[ev]at ex;cases ex;exact⟨Same.refl _,hv.mono e2.vx⟩
  ·cases ex;obtain⟨a,vs,rfl,ea,l⟩:=cN.mp (show Has _ _ _ from x1);have hl:=l.length;refine⟨a,rfl,.inr ⟨⟨vs,.of (bH _ _ ea)⟩,c o1 H1 S1 ds _ e1 s1 ⟨fun i o2 H2 e2 hi=>⟨vs,.of (bH _ _ (e2.vx _ _ ea)),yw⟩,fun i d o2 H2 e2 hi=>?_,fun i d o2 H2 x H3 S2 e2 s2 hi y=>?_⟩ d1⟩⟩
   ·obtain⟨v,ev,_⟩:=l.get hi;exact⟨vs,v,.of (bH _ _ (e2.vx _ _ ea)),ev⟩
   ·obtain⟨v,ev,hv⟩:=l.get hi;have e3:H3=H2:=y.1;subst e3;have ex:=y.2 vs (.of (bH _ _ (e2.vx _ _ ea)));rw[ev]at ex;cases ex;exact⟨Same.refl _,hv.mono e2.vx⟩
  ·cases ex
def e9(dt:DS):DS:=fun E δ S=>dt { E with nx:=fun δ' S'=>∃S0 ds,S'=S0++[ds]/\S.length<=S0.length/\E.nx (δ'.map (frz S0.length ds)) S0 } δ S
theorem u8{t:TS}{dt:DS}(ht:RS t dt):RS t (e9 dt):=fun h o H δ σ S E D he hs q c=>by
 refine ht h o H δ σ S _ D he hs q ⟨fun o' H' δ' S' σ' e ab aa ⟨S0,ds,eS,hl,n⟩=>?_,c.rt,c.bk,c.ct⟩;subst eS;obtain⟨r,rfl⟩:=e.pre;have hL:=aa.len;simp only[cq,fr]at hL;have hS:=hs.len;have ae:r≠[]:=fun z=>by subst z;simp at hL;omega
 obtain⟨r0,a,rfl⟩:∃r0 a,r=r0++[a]:=⟨r.dropLast,r.getLast ae,(List.dropLast_concat_getLast ae).symm⟩;have ac:S0.length=(o++r0).length:=by simp at hL ⊢;omega
 rw[<- io]at aa ab e;have nd:=nodup_append.mp aa.nd;have na:a∉o++r0:=fun m=>nd.2.2 a m a yv rfl;have nh:a∉h:=aa.dis a yv;refine c.nx (o++r0) H' _ S0 σ' ⟨⟨r0,rfl⟩,fun b u hb eb=>?_⟩ ⟨by rw[dj];exact ab.len,fun i x ex=>?_⟩ (aa.pop ac) n
 ·obtain⟨z1,z2⟩:=e.kp b u hb eb;exact⟨fun m=>z1 (gw _ m),z2⟩
 ·rw[gh]at ex;obtain⟨y,ey,ex⟩:=map_eq_some_iff.mp ex
  match y,ey,ex with
  |none,ey,ex=>cases ex
  |some (.d d),ey,ex=>
   cases ex;obtain⟨v,e1,e2⟩:=ab.get i _ ey;exact⟨v,e1,Has.mono cJ d v e2⟩
  |some (.o w),ey,ex=>
   cases ex;exact ab.get i _ ey
  |some (.x C fs),ey,ex=>
   cases ex;obtain⟨v,e1,e2⟩:=ab.get i _ ey;exact⟨v,e1,HasE.mono cJ e2⟩
  |some (.p k d),ey,ex=>
   obtain⟨v,e1,t,b,u,rfl,eb,et,hu⟩:=ab.get i _ ey;unfold frz at ex;by_cases hk:k=S0.length
   ·simp only[hk,↓reduceIte]at ex;cases ex;rw[hk,ac,ca]at eb;cases eb;obtain⟨vs,ev,l⟩:=aa.cont S0.length a ds (by rw[ac,ca]) (by rw[ca]);exact⟨_,e1,cN.mpr ⟨t,_,rfl,cJ _ _ et,zm.mpr ⟨_,_,rfl,cB.mpr ⟨a,vs,rfl,zS.mpr ⟨nh,na,ev⟩,l.mono cJ⟩,zm.mpr ⟨u,_,rfl,Has.mono cJ _ _ hu,zp.mpr rfl⟩⟩⟩⟩
   ·simp only[hk,↓reduceIte]at ex;cases ex;refine⟨_,e1,t,b,u,rfl,?_,cJ _ _ et,Has.mono cJ _ _ hu⟩;have ag:k<(o++r0).length:=by
     obtain⟨z,_⟩:=List.getElem?_eq_some_iff.mp eb;rw[cq,fr]at z;omega
    rw[cx ag]at eb;exact eb
  |some (.l k),ey,ex=>
   obtain⟨v,e1,b,eb,rfl⟩:=ab.get i _ ey;unfold frz at ex;by_cases hk:k=S0.length
   ·simp only[hk,↓reduceIte]at ex;cases ex;rw[hk,ac,ca]at eb;cases eb;obtain⟨vs,ev,l⟩:=aa.cont k a ds (by rw[hk,ac,ca]) (by rw[hk,ca]);exact⟨_,e1,cB.mpr ⟨a,vs,rfl,zS.mpr ⟨nh,na,ev⟩,l.mono cJ⟩⟩
   ·simp only[hk,↓reduceIte]at ex;cases ex;have af:=(List.getElem?_eq_some_iff.mp eb).1;simp only[cq,fr]at af;simp only[cq]at ac;rw[cx (by simp only[cq];omega)]at eb;exact⟨_,e1,b,eb,rfl⟩
section
variable {t1 t2 t3 t4 t5 t6 t7 t8:TS}{d:DS}
theorem x5(h:RS (fX (fX t1 t2) t3) d):RS (fX t1 (fX t2 t3)) d:=h
end
end
section
abbrev PN:=List XV->Sto->RX->Prop
def lfN(q:PN):List V->Hp->VK->Prop:=fun vs H Q=>∃h o S xs R,RepS h o H S/\HasXs h o H xs vs/\q xs S R/\Cn h o H R Q
def spN(ps:List Str)(q:PN):Sp:=fun vs H Q _=>vs.length=ps.length/\lfN q vs H Q
theorem HasXs.len{h o:List Addr}{H:Hp}:∀{xs:List XV}{vs:List V},HasXs h o H xs vs->vs.length=xs.length
 | [],vs,q=>by rw[show vs=[]from q];rfl
 |x::xs,vs,⟨v,r,e,_,l⟩=>by rw[e,fj,fj,HasXs.len l]
theorem HasXs.get{h o:List Addr}{H:Hp}:∀{xs:List XV}{vs:List V}{i:Nat}{x:XV},HasXs h o H xs vs->xs[i]?=some x->∃v,vs[i]?=some v/\HasX h o H x v
 | [],_,i,_,_,e=>by simp at e
 |y::xs,vs,0,x,⟨v,r,e1,q,l⟩,e=>by
  rw[mh]at e;cases e;subst e1;exact⟨v,rfl,q⟩
 |y::xs,vs,i+1,x,⟨v,r,e1,q,l⟩,e=>by
  subst e1;rw[ml]at e ⊢;exact HasXs.get l e
theorem B3{h o:List Addr}{H:Hp}{xs:List XV}{vs:List V}{n:Nat}(q:HasXs h o H xs vs):RepE h o H (xs.map some++ci n none) (vs.map some++ci n none):=by
 have hl:=q.len;refine⟨by simp[hl],fun i x e=>?_⟩;by_cases hi:i<xs.length
 ·rw[cx (by rw[dj];exact hi),gh]at e;obtain⟨y,ey,e⟩:=map_eq_some_iff.mp e;cases e;obtain⟨v,ev,hv⟩:=q.get ey;exact⟨v,by rw[cx (by rw[dj,hl];exact hi),gh,ev];rfl,hv⟩
 ·rw[kq (by rw[dj];omega),List.getElem?_replicate]at e;split at e<;>cases e
section
variable {P:fe}{w:ft}{K:cu}{mg:Str->Option bn}{base:Heap}{x:Str}{st:Stmt}{N ps:List Str}{k:Nat}
theorem Df.dN{q:PN}(D:Dd K mg x st ps)(S:FnScope N ps (zh st))(n:Nat)(hn:N.length=ps.length+n)
  (hbody:∀(f:Addr) (z:bn) (A:fq) (outer:List Env) (s:bp) (H:Hp) (E:XK),Room k (A.deeper (envOfC x (zh st) s.heap.objs.size f z)) ->
   ∃t dt,PSs (dR CX0 P w K mg base N x (zh st) f z A outer s H E).nox (cD st) t/\RS t dt/\∀xs S R,q xs S R->dt (aP S.length R) (xs.map some++ci n none) S):Df P w K mg base x ps (k+1) (spN ps q):=by
 refine Df.of D S (fun vs H Q E h=>h.1) fun f z A outer s H vs Q E hr ⟨hl,h,o,S',xs,R,aa,hx,hq,c⟩=>?_;obtain⟨t,dt,h1,h2,h3⟩:=hbody f z A outer s H E hr;refine⟨t,h1,h2 h o H _ _ S' _ _ ?_ aa (h3 xs S' R hq) (eok aa c)⟩;have e:N.length-vs.length=n:=yw
 unfold start;rw[e];exact B3 hx
end
section
variable {X:Cx}{x:Str}{ps:List Str}{k j:Nat}{pos pos':Pos}{e:Expr}{es:List Expr}{t:TA}
theorem zz{q:PN}(D:Df X.prog X.w X.K X.mg X.base x ps k (spN ps q))(hr:Room j X.A)(hk:k<=j)(ha:PA X (e::es) t)(hg:Gl X x:=by rfl)(z:(x==("__debug__":Str))=false:=by decide)
  (q1:fi (e::es) X.env=(false,eval e X.env)::fi es X.env:=by rfl) (q2:((on pos (fi es X.env)).any fun x=>x.fst)=false:=by rfl):PE X (.Call (.Name x pos') (e::es) [] pos) (gW (spN ps q) [] E0 t):=by
 obtain⟨f,fd,F,hm,kp,hb⟩:=D.ex;exact sZ (dvs:=[]) (ds:=[]) (E:=E0) F (hr.mono hk) hg hm kp hb .nil pass0 ha z q1 q2
end
def aR(m:Nat)(q:PN)(da:DA):DE:=fun δ S R=>da δ S fun xs S1=>∃ds,datas xs=some ds/\ds.length=m/\q (ds.map XV.d) [] (ret0 S1 R)
theorem hxs0{h o:List Addr}{H:Hp}:∀{ds:List bo}{vs:List V},HasXs h o H (ds.map XV.d) vs->HasXs (h++o) [] H (ds.map XV.d) vs
 | [],_,q=>q
 |d::ds,vs,⟨v,r,e,q,l⟩=>⟨v,r,e,hx0 q,hxs0 l⟩
theorem b9{ps:List Str}{q:PN}{m:Nat}{t:TA}{da:DA}(ha:RA t da)(hm:ps.length=m:=by rfl):RE (gW (spN ps q) [] E0 t) (aR m q da):=fun h o H δ σ S R Q he hs w c=>
 ha h o H δ σ S _ _ he hs w fun o1 H1 S1 xs vs e1 s1 x1 ⟨ds,e,hl,d1⟩=>by
  have ex:=eM e;subst ex;have hv:=x1.len;rw[jb];exact⟨by rw[hv,dj,hl,hm],h++o1,[],[],_,_,rep0 s1,hxs0 x1,d1,cn0 s1 (c.pre e1)⟩
def zC(i m:Nat)(q:PN)(da:DA):DE:=fun δ S R=>da δ S fun xs S1=>∃k,xs[i]?=some (.l k)/\∃p,S1[k]?=some p/\∃ds,datas (xs.set i (.d .none))=some ds/\ds.length=m/\q ((ds.map XV.d).set i (.l 0)) [p] (jQ k S1 R)
theorem uS{h o:List Addr}{H:Hp}{k:Nat}{a:Addr}(ea:o[k]?=some a):∀{xs:List XV}{vs:List V}{ds:List bo}{i:Nat},HasXs h o H xs vs->xs[i]?=some (.l k)->datas (xs.set i (.d .none))=some ds->HasXs (h++o.filter (fun b=>b≠a)) [a] H ((ds.map XV.d).set i (.l 0)) vs
 | [],_,_,i,_,e,_=>by simp at e
 |x::xs,vs,ds,0,⟨v,r,e1,q,l⟩,e,ed=>by
  rw[mh]at e;cases e;rw[set_cons_zero]at ed;obtain⟨z,rfl⟩:∃z,ds=.none::z:=by
   unfold datas at ed;cases hd:datas xs with
   |none=>rw[hd]at ed;cases ed
   |some y=>rw[hd]at ed;cases ed;exact⟨y,rfl⟩
  have aa:datas xs=some z:=by
   unfold datas at ed;cases hd:datas xs with
   |none=>rw[hd]at ed;cases ed
   |some y=>rw[hd]at ed;cases ed;rfl
  have ex:=eM aa;subst ex;obtain⟨b,eb,rfl⟩:=q;rw[ea]at eb;cases eb;exact⟨_,r,e1,⟨a,rfl,rfl⟩,go (ea:=ea) l⟩
 |x::xs,vs,ds,i+1,⟨v,r,e1,q,l⟩,e,ed=>by
  rw[ml]at e;rw[set_cons_succ]at ed
  match x,q,ed with
  | .d d,q,ed=>
   unfold datas at ed;cases hd:datas (xs.set i (.d .none))with
   |none=>rw[hd]at ed;cases ed
   |some z=>
    rw[hd]at ed;cases ed;exact⟨v,r,e1,hxP ea q,uS ea l e hd⟩
  | .l j,q,ed=>cases ed
  | .o w,q,ed=>cases ed
  | .x _ _,q,ed=>cases ed
  | .p _ _,q,ed=>cases ed
where
 go {h o:List Addr}{H:Hp}{k:Nat}{a:Addr}{ea:o[k]?=some a}:∀{ds:List bo}{vs:List V},HasXs h o H (ds.map XV.d) vs->HasXs (h++o.filter (fun b=>b≠a)) [a] H (ds.map XV.d) vs
 | [],_,q=>q
 |d::ds,vs,⟨v,r,e,q,l⟩=>⟨v,r,e,hxP ea q,go (ea:=ea) l⟩
theorem BG:∀{xs:List XV}{ds:List bo},datas xs=some ds->xs.length=ds.length:=fun e=>by
 rw[eM e,dj]
theorem dL{ps:List Str}{q:PN}{i m:Nat}{t:TA}{da:DA}(ha:RA t da)(hm:ps.length=m:=by rfl):RE (gW (spN ps q) [] E0 t) (zC i m q da):=fun h o H δ σ S R Q he hs w c=>
 ha h o H δ σ S _ _ he hs w fun o1 H1 S1 xs vs e1 s1 x1 ⟨k,ek,p,ep,ds,e,hl,d1⟩=>by
  have hv:=x1.len;have hd:=BG e;rw[length_set]at hd;obtain⟨v,_,a,ea,_⟩:=x1.get ek;rw[jb];exact⟨by rw[hv,hd,hl,hm],_,[a],[p],_,_,nW s1 ea ep,uS ea x1 ek e,d1,cnP s1 ea ep (c.pre e1)⟩
mutual
def gN:bo->Bool
 | .list _=>false
 | .dict _=>false
 | .tuple ds=>i7 ds
 |_=>true
def i7:List bo->Bool
 | []=>true
 |d::ds=>gN d&&i7 ds
end
mutual
theorem tF{h o:List Addr}{H G:Hp}(sm:Same G H)(hh:∀b,b∈h\/b∈o->∃u:MO,H b=some u.ho):∀(d:bo) (v:V),gN d=true->Has G d v->Has (vx h o H) d v
 | .none,v,_,q=>hG.mpr (hG.mp q)
 | .bool b,v,_,q=>eH.mpr (eH.mp q)
 | .int i,v,_,q=>fA.mpr (fA.mp q)
 | .str z,v,_,q=>fK.mpr (fK.mp q)
 | .list ds,v,n,_=>by simp[gN]at n
 | .dict ds,v,n,_=>by simp[gN]at n
 | .tuple ds,v,n,q=>by
  obtain⟨a,vs,e,ea,l⟩:=cN.mp q;have n':i7 ds=true:=by simpa[gN]using n
  have aa:=sm _ _ ea;refine cN.mpr ⟨a,vs,e,zS.mpr ⟨fun m=>?_,fun m=>?_,aa⟩,uC sm hh ds vs n' l⟩
  ·obtain⟨u,eu⟩:=hh a (.inl m);rw[aa]at eu;cases u<;>cases eu
  ·obtain⟨u,eu⟩:=hh a (.inr m);rw[aa]at eu;cases u<;>cases eu
theorem uC{h o:List Addr}{H G:Hp}(sm:Same G H)(hh:∀b,b∈h\/b∈o->∃u:MO,H b=some u.ho):∀(ds:List bo) (vs:List V),i7 ds=true->HasL G ds vs->HasL (vx h o H) ds vs
 | [],vs,_,q=>zp.mpr (zp.mp q)
 |d::ds,vs,n,q=>by
  obtain⟨v,r,e,hv,l⟩:=zm.mp q;simp only[i7,iy]at n;exact zm.mpr ⟨v,r,e,tF sm hh d v n.1 hv,uC sm hh ds r n.2 l⟩
end
def oR(S:Sto)(R:RX):RX:=fun y S'=>match y,S' with
 | .d d,[]=>gN d=true/\R (.d d) S
 |_,_=>False
theorem lG{S:Sto}{R:RX}{d:bo}:oR S R (.d d) []=(gN d=true/\R (.d d) S):=rfl
def views(S:Sto):List XV->Option (List bo)
 | []=>some []
 |x::r=>(aT S x).bind fun d=>(views S r).map (d :: ·)
theorem kA{S:Sto}:views S []=some []:=rfl
theorem gV{S:Sto}{x:XV}{r:List XV}:views S (x::r)=(aT S x).bind fun d=>(views S r).map (d :: ·):=rfl
def gM(m:Nat)(q:PN)(da:DA):DE:=fun δ S R=>da δ S fun xs S1=>∃ds,views S1 xs=some ds/\ds.length=m/\q (ds.map XV.d) [] (oR S1 R)
theorem wR{h o:List Addr}{H:Hp}{S:Sto}(hs:RepS h o H S):RepS h [] H []:=⟨rfl,nodup_nil,(fun _ h=>(nomatch h)),hs.hal,(fun _ _ _ e=>(by simp at e))⟩
theorem hxV{h o:List Addr}{H:Hp}{S:Sto}{x:XV}{v:V}{d:bo}(hs:RepS h o H S)(e:aT S x=some d)(q:HasX h o H x v):HasX h [] H (.d d) v:=by
 have sub:Same (vx h o H) (vx h [] H):=fun b u eb=>by
  obtain⟨z1,z2,z3⟩:=zS.mp eb;exact zS.mpr ⟨z1,yv,z3⟩
 unfold aT at e;split at e
 ·cases e;exact Has.mono sub _ _ q
 ·rename_i k;obtain⟨a,ea,rfl⟩:=q;cases hk:S[k]? with
  |none=>rw[hk]at e;cases e
  |some ds=>
   rw[hk]at e;cases e;obtain⟨vs,ev,l⟩:=hs.cont k a ds ea hk;exact cB.mpr ⟨a,vs,rfl,zS.mpr ⟨hs.dis a (bq ea),yv,ev⟩,l.mono sub⟩
 ·cases e
 ·cases e
 ·rename_i k d';obtain⟨t,a,u,rfl,ea,et,hu⟩:=q;cases hk:S[k]? with
  |none=>rw[hk]at e;cases e
  |some ds=>
   rw[hk]at e;cases e;obtain⟨vs,ev,l⟩:=hs.cont k a ds ea hk;exact cN.mpr ⟨t,_,rfl,sub _ _ et,zm.mpr ⟨_,_,rfl,cB.mpr ⟨a,vs,rfl,zS.mpr ⟨hs.dis a (bq ea),yv,ev⟩,l.mono sub⟩,zm.mpr ⟨u,_,rfl,Has.mono sub _ _ hu,zp.mpr rfl⟩⟩⟩
theorem tQ{h o:List Addr}{H:Hp}{S:Sto}(hs:RepS h o H S):∀{xs:List XV}{vs:List V}{ds:List bo},views S xs=some ds->HasXs h o H xs vs->HasXs h [] H (ds.map XV.d) vs/\vs.length=ds.length
 | [],vs,ds,e,q=>by cases e;exact⟨q,by rw[show vs=[]from q];rfl⟩
 |x::xs,vs,ds,e,⟨v,r,e1,q,l⟩=>by
  rw[gV]at e;cases hd:aT S x with
  |none=>rw[hd]at e;cases e
  |some d=>
   rw[hd,Option.bind_some]at e;cases hr:views S xs with
   |none=>rw[hr]at e;cases e
   |some es=>
    rw[hr]at e;cases e;obtain⟨z1,z2⟩:=tQ hs hr l;exact⟨⟨v,r,e1,hxV hs hd q,z1⟩,by rw[e1,fj,fj,z2]⟩
theorem cnV{h o:List Addr}{H:Hp}{S:Sto}{R:RX}{Q:VK}(hs:RepS h o H S)(c:Cn h o H R Q):Cn h [] H (oR S R) Q:=fun o' H' S' y v e s' hy q=>by
 unfold oR at q;split at q
 ·rename_i d;have sH:Same H H':=fun b u eb=>(e.kp b u yv eb).2;have e0:o'=[]:=fw s'.len.symm;subst e0;have z:=hs.same sH;refine c o H' S (.d d) v (Ex.of_same sH) z (tF (bH (h:=h) (o:=[])) (fun b m=>?_) d v q.1 hy) q.2;exact m.elim (z.hal b) (z.oam b)
 ·exact q.elim
theorem Ak{ps:List Str}{q:PN}{m:Nat}{t:TA}{da:DA}(ha:RA t da)(hm:ps.length=m:=by rfl):RE (gW (spN ps q) [] E0 t) (gM m q da):=fun h o H δ σ S R Q he hs w c=>
 ha h o H δ σ S _ _ he hs w fun o1 H1 S1 xs vs e1 s1 x1 ⟨ds,e,hl,d1⟩=>by
  obtain⟨z1,z2⟩:=tQ s1 e x1;rw[jb];exact⟨by rw[z2,hl,hm],h,[],[],_,_,wR s1,z1,d1,cnV s1 (c.pre e1)⟩
end
section
def vA(K:cu):List V->Hp->VK->Prop:=fun xs H Q=>rK K xs H Q\/∃z,xs=[.str z]/\z.length<=dw/\Q (.int z.length) H
theorem cK{X:Cx}:CallR X (.builtin "len") (vA X.K):=tM.or Ea
def oI(S:Sto):XV->Option Nat
 | .d (.tuple ds)=>some ds.length
 | .d (.list ds)=>some ds.length
 | .l k=>(S[k]?).map List.length
 | .d (.str z)=>if z.length<=dw then some z.length else none
 |_=>none
def bC:List XV->Sto->RX->Prop:=fun xs S R=>arg1 xs fun x=>∃n,oI S x=some n/\R (.d (.int n)) S
theorem oC{K:cu}:RC (vA K) bC:=fun h o H S xs vs R Q hs hx q c=>by
 obtain⟨x,rfl,n,hd,q1⟩:=bZ q;unfold oI at hd;split at hd
 ·cases hd;exact .inl (p0 h o H S _ vs R Q hs hx ⟨_,rfl,q1⟩ c)
 ·cases hd;exact .inl (p0 h o H S _ vs R Q hs hx ⟨_,rfl,q1⟩ c)
 ·rename_i k;cases hk:S[k]? with
  |none=>rw[hk]at hd;cases hd
  |some ds=>
   rw[hk]at hd;cases hd;exact .inl (p0 h o H S _ vs R Q hs hx ⟨ds,hk,q1⟩ c)
 ·split at hd
  ·rename_i hz;cases hd;obtain⟨v,rfl,z⟩:=hxs1 hx;exact .inr ⟨_,by rw[cQ z],hz,c o H S _ _ Ex.refl hs (xI _) q1⟩
  ·cases hd
 ·cases hd
section
variable {S:Sto}{ds:List bo}{k:Nat}{z:Str}
theorem mK:oI S (.d (.tuple ds))=some ds.length:=rfl
theorem kJ:oI S (.d (.list ds))=some ds.length:=rfl
end
def wZ(q:Bool):R2:=fun x y H Q=>∃d e ds,Has H d x/\Has H e y/\dy d=true/\dy (.list ds)=true/\(e=.list ds\/e=.tuple ds)/\Q (.bl (if q then !ds.any (fun y=>gm y d)else ds.any (fun y=>gm y d))) H
theorem Ch{ds:List bo}(h:dy (.list ds)=true):ju ds=true/\ng ds<=63:=by
 have h1:=gc h;have h2:=SeqAt.depth_of_shaped h;simp only[kh,PyData.depth]at h1 h2;exact⟨h1,yw⟩
theorem Cj{X:Cx}(hu:X.A.units+64<cLine):OpR X (jt .NotIn) (wZ true):=by
 intro ze s σ H x y v u Q I rx ry h;obtain⟨d,e,ds,hd,he,sd,se,ee,q⟩:=h;obtain⟨s1,s2⟩:=Ch se;obtain⟨as,q1⟩:=Has.reads I d x v hd (gc sd) rx;have hm:X.A.units+1+min (ng ds) d.depth<cLine:=by
  have:=Nat.min_le_left (ng ds) d.depth;omega
 rcases ee with rfl|rfl
 ·obtain⟨bs,q2⟩:=Has.reads I (.list ds) y u he (by simpa only[kh]using s1) ry;exact SeqAt.notIn_list_reads q2 q1 s1 (gc sd) hm ⟨.bl _,H,I,rfl,q⟩
 ·obtain⟨bs,q2⟩:=Has.reads I (.tuple ds) y u he (by simpa only[kh]using s1) ry;exact SeqAt.notIn_tuple_reads q2 q1 s1 (gc sd) hm ⟨.bl _,H,I,rfl,q⟩
def vT:R2:=fun x y H Q=>wZ true x y H Q\/∃i j,x=.str i/\y=.str j/\Q (.bl (!(!(Builtin.Str.occurrences j i 0 j.length 1).isEmpty))) H
theorem rH{X:Cx}(hu:X.A.units+64<cLine):OpR X (jt .NotIn) vT:=(Cj hu).or Do
def eI:D2:=fun x y S R=>match y with
 | .d (.str b)=>asS x fun a=>R (.d (.bool (!(!(Builtin.Str.occurrences b a 0 b.length 1).isEmpty)))) S
 |y=>∃d,aT S x=some d/\∃ds,asQ S y=some ds/\dy d=true/\dy (.list ds)=true/\R (.d (.bool (!ds.any fun y=>gm y d))) S
theorem C7{h o:List Addr}{H:Hp}{S:Sto}{x:XV}{v:V}{ds:List bo}(hs:RepS h o H S)(e:asQ S x=some ds)(q:HasX h o H x v):∃e,Has H e v/\(e=.list ds\/e=.tuple ds):=by
 unfold asQ at e;split at e
 ·cases e;exact⟨_,d8 (x:=.d _) hs rfl q,.inr rfl⟩
 ·cases e;exact⟨_,d8 (x:=.d _) hs rfl q,.inl rfl⟩
 ·rename_i k;exact⟨.list ds,d8 (x:=.l k) hs (by show (S[k]?).map PyData.list=_;rw[e];rfl) q,.inl rfl⟩
 ·cases e
theorem AD:RO vT eI:=fun h o H S x y v u R Q hs hx hy q c=>by
 unfold eI at q;split at q
 ·replace q:=qA q;obtain⟨a,rfl,q⟩:=q;exact .inr ⟨_,_,cQ hx,cQ hy,c o H S _ _ Ex.refl hs (xB _) q⟩
 ·obtain⟨d,e1,ds,e2,s1,s2,q⟩:=q;obtain⟨e,he,ee⟩:=C7 hs e2 hy;exact .inl ⟨d,e,ds,d8 hs e1 hx,he,s1,s2,ee,c o H S _ _ Ex.refl hs (xB _) q⟩
section
variable {S:Sto}{ds:List bo}{k:Nat}{a b:Str}{x:XV}{R:RX}
theorem lK:eI x (.d (.tuple ds)) S R↔∃d,aT S x=some d/\dy d=true/\dy (.list ds)=true/\R (.d (.bool (!ds.any fun y=>gm y d))) S:=⟨fun⟨d,e,_,e',q⟩=>by cases e';exact⟨d,e,q⟩,fun⟨d,e,q⟩=>⟨d,e,_,rfl,q⟩⟩
theorem jY:eI x (.d (.list ds)) S R↔∃d,aT S x=some d/\dy d=true/\dy (.list ds)=true/\R (.d (.bool (!ds.any fun y=>gm y d))) S:=⟨fun⟨d,e,_,e',q⟩=>by cases e';exact⟨d,e,q⟩,fun⟨d,e,q⟩=>⟨d,e,_,rfl,q⟩⟩
theorem mF:eI x (.l k) S R↔∃d,aT S x=some d/\∃ds,S[k]?=some ds/\dy d=true/\dy (.list ds)=true/\R (.d (.bool (!ds.any fun y=>gm y d))) S:=Iff.rfl
end
def lP(a:DA):DI:=fun δ S R=>a δ S fun xs S1=>arg1 xs fun x=>∃ds,cV x=some ds/\R (x8 0 ds) S1
def fO:XV->List XV->Sto->RX->Prop:=fun x xs S R=>∃k,x=.l k/\∃ds,S[k]?=some ds/\xs=[]/\∃d,ds[ds.length-1]?=some d/\R (.d d) (S.set k ds.dropLast)
theorem HasL.dropLast{H:Hp}:∀{ds:List bo}{vs:List V},HasL H ds vs->HasL H ds.dropLast vs.dropLast
 | [],vs,l=>by rw[zp.mp l];exact zp.mpr rfl
 | [d],vs,l=>by
  obtain⟨v,r,rfl,_,l⟩:=zm.mp l;rw[zp.mp l];exact zp.mpr rfl
 |d::e::ds,vs,l=>by
  obtain⟨v,r,rfl,hv,l⟩:=zm.mp l;obtain⟨w,r,rfl,hw,l'⟩:=zm.mp l;rw[List.dropLast_cons₂,List.dropLast_cons₂];exact zm.mpr ⟨v,_,rfl,hv,HasL.dropLast l⟩
theorem DB:RM uM fO:=fun h o H S x v xs vs R Q hs hx z q c=>by
 obtain⟨k,rfl,ds,e,rfl,d,ed,q1⟩:=q;obtain⟨a,ea,rfl⟩:=hx;obtain⟨ws,ew,l⟩:=hs.cont k a ds ea e;cases z;obtain⟨y,ey,hy⟩:=l.get ed;exact⟨a,ws,y,rfl,rfl,ew,by rw[l.length];exact ey,c o _ _ (.d d) _ (Ex.upd ea) (hs.upd ea l.dropLast) (HasX.mono (x:=.d d) (Ex.upd ea) hy) q1⟩
def fQ(rd:XV->List XV->Sto->RX->Prop)(e:DE)(a:DA):DE:=fun δ S R=>e δ S fun x S1=>∃z,x=.d (.str z)/\a δ S1 fun xs S2=>rd x xs S2 R
theorem yC{K:cu}{r:V->List V->Hp->VK->Prop}{rd:XV->List XV->Sto->RX->Prop}{te:TE}{de:DE}{tl:TA}{dl:DA}(hr:RM r rd)(aa:RE te de)(ha:RA tl dl):RE (tBM K "str" r te tl) (fQ rd de dl):=fun h o H δ σ S R Q he hs q c=>
 aa h o H δ σ S _ _ he hs q fun o1 H1 S1 x v e1 s1 x1 ⟨z,ez,d1⟩=>by
  subst ez;cases cQ x1;exact⟨rfl,ha h o1 H1 δ σ S1 _ _ (he.mono e1) s1 d1 fun o2 H2 S2 xs vs e2 s2 x2 d2=>hr h o2 H2 S2 (.d (.str z)) _ xs vs R Q s2 (HasX.mono (x:=.d (.str z)) e2 x1) x2 d2 (c.pre (e1.trans e2))⟩
theorem vP{H:Hp}:∀{ns:List Str}{vs:List V},HasL H (ns.map ki) vs->vs=ns.map V.str
 | [],vs,h=>zp.mp h
 |n::ns,vs,h=>by
  obtain⟨v,r,rfl,h1,h2⟩:=zm.mp h;rw[fK.mp h1,vP h2];rfl
def fT:XV->List XV->Sto->RX->Prop:=fun x xs S R=>asS x fun z=>arg1 xs fun y=>∃ds,dE S y=some ds/\∃zs:List Str,ds=zs.map ki/\z.length<=16/\zs.length<=1000/\(∀y∈zs,y.length<=1000)/\R (.d (.str (PySem.Txt.join z zs))) S
theorem Ey{K:cu}:RM (tI K) fT:=fun h o H S x v xs vs R Q hs hx aa q c=>by
 replace q:=qA q;obtain⟨z,rfl,q⟩:=q;obtain⟨y,rfl,ds,e,zs,rfl,h1,h2,h3,q1⟩:=bZ q;obtain⟨u,rfl,hu⟩:=hxs1 aa;obtain⟨a,ws,rfl,ea,l⟩:=aY hs e hu;rw[vP l]at ea;exact⟨z,a,zs,cQ hx,rfl,.of ea,h1,h2,h3,c o H S _ _ Ex.refl hs (xS _) q1⟩
def fS:D2:=fun x y S R=>asL S x fun ds=>asL S y fun es=>ds.length+es.length<=1000/\R (.l S.length) (S++[ds++es])
theorem Cl:RO iD fS:=fun h o H S x y v u R Q hs hx hy q c=>by
 obtain⟨ds,e0,es,e1,hl,q⟩:=q;obtain⟨a,vs,rfl,ea,la⟩:=aY hs e0 hx;obtain⟨b,us,rfl,eb,lb⟩:=aY hs e1 hy;exact⟨a,b,vs,us,rfl,rfl,ea,eb,by rw[la.length,lb.length];exact jp (small1000 hl),AU hs (la.append lb) c q⟩
abbrev FV (a:Addr) (m:Nat):DEnds:={ nx:=fun δ _=>δ[0]?=some (some (.o (.ref a)))/\δ.length=m+1,ct:=fun δ _=>δ[0]?=some (some (.o (.ref a)))/\δ.length=m+1,rt:=fun _ _=>False }
end
section
open Sem (wp)
def rJ:List bo->List bo->List bo
 |d::ds,e::es=>.tuple [d,e]::rJ ds es
 |_,_=>[]
def mX(a:DA):DI:=fun δ S R=>a δ S fun xs S1=>arg2 xs fun x y=>∃ds,cV x=some ds/\∃es,cV y=some es/\R (rJ ds es) S1
end
section
open Sem (wp)
section
variable {prog:fe}{w:ft}{A:fq}{R:Result->bp->Prop}{I:Addr}{fp wr:List Addr}{n:Nat}{P:Nat->bn->Prop}{St:Nat->Heap->Prop}
def CmpH(prog:fe)(w:ft)(A:fq)(g:Heap)(q:List Addr)(P:Nat->bn->Prop)(bt:Nat->Nat->Bool):Prop:=
 ∀i j x y (s:bp) (Q:bn->bp->Prop) (E:bn->bp->Prop),(∀b o,b∉q->g.get? b=some o->s.heap.get? b=some o)->P i x->P j y->Q (.bool (bt i j)) s->ck (model prog w) A (richCompare .Lt x y) Q E s
theorem Dl(W:Walks prog w A.in1 I fp wr n P St)(bt:Nat->Nat->Bool){g:Heap}(S:Addr)(cm:CmpH prog w A.in1 g (S::wr) P bt)(nS:S∉fp):∀(d j:Nat) (s:bp) (q:bn) (c:Nat),n=j+1+d->(∀b o,b∉S::wr->g.get? b=some o->s.heap.get? b=some o)->St (j+1) s.heap->P (lc bt j) q ->
   s.heap.get? S=some { cls:=.type "list",dict:=none,data:=.seq #[q,q] c,slots:=#[] } ->
   (∀v h' tk,P (lc bt (n-1)) v->(∀b o,b∉S::wr->s.heap.get? b=some o->h'.get? b=some o)->R (.ok (.ret v)) { s with heap:=h',toks:=tk })->ow (model prog w) A (.builtin "min.loop" ⟨[.ref I,.none,.ref S],[]⟩) R s:=by
 have nw:S∉wr:=fun m=>nS (W.sub _ m);have nm:(toString "min" ++ toString ".loop":String) = "min.loop":=by decide
 intro d;induction d with
 |zero=>
  intro j s q c hd kg st hb hS fin;have hj:j+1=n:=yw
  refine gy F.entry_min_loop ?_;rw[gd kf _];show ck _ A.in1 (seqItems? (.ref S) >>= _) _ _ s;refine bj (wpAny_seqItems hS rfl ?_);show ck _ A.in1 (tryCatch (lv (.ref I)) _ >>= _) _ _ s;refine bj (wpAny_tryCatch (W.done s _ _ (by rw[<- hj];exact st) fun h1 t1 k1=>?_));have aa:=k1 S _ nw hS;show ck _ A.in1 (updateSeq S (fun _=>#[]) >>= _) _ _ _;refine bj (wpAny_updateSeq aa rfl (bj (wpAny_letGo (br (fin q _ t1 (by rw[<- hj];exact hb) fun b o hn e=>?_)))));rw[ji,not_or]at hn;exact(ic _ _ (nn hn.1)).trans (k1 b o hn.2 e)
 |succ d ih=>
  intro j s q c hd kg st hb hS fin;refine gy F.entry_min_loop ?_;rw[gd kf _];show ck _ A.in1 (seqItems? (.ref S) >>= _) _ _ s;refine bj (wpAny_seqItems hS rfl ?_);show ck _ A.in1 (tryCatch (lv (.ref I)) _ >>= _) _ _ s;refine bj (wpAny_tryCatch (W.item (j+1) s _ _ yw st fun x h1 t1 hx ab k1=>?_));have aa:=k1 S _ nw hS;have ac:∀b o,b∉S::wr->g.get? b=some o->h1.get? b=some o:=fun b o hn e=>k1 b o (fun m=>hn (cr _ m)) (kg b o hn e);show ck _ A.in1 (tryCatch (holding [x,x] (richCompare .Lt x q >>= _)) _ >>= _) _ _ _;refine bj (wpAny_tryCatch (gx (bj (cm (j+1) (lc bt j) x q _ _ _ ac hx hb (bj (gx (ja (bj (wpAny_letGo (br ?_)))))))))) ;cases ht:bt (j+1) (lc bt j)with
  |true=>
   simp only[if_true];refine bj (wpAny_updateSeq aa rfl (bj (wpAny_letGo ?_)));rw[nm];have keep:∀b o,b∉S::wr->s.heap.get? b=some o->(h1.update S (gr fun _=>#[x,x])).get? b=some o:=fun b o hn e=>by
    rw[ji,not_or]at hn;exact(ic _ _ (nn hn.1)).trans (k1 b o hn.2 e)
   refine br ⟨ke kf _,ih (j+1) _ x _ yw (fun b o hn e=>keep b o hn (kg b o hn e)) (W.frame _ _ _ ab fun b m o e=>?_) (by simp only[lc,ht,if_true];exact hx) (nq _ aa rfl) fun v h2 t2 hv k2=>fin v h2 t2 hv fun b o hn e=>k2 b o hn (keep b o hn e)⟩;exact(ic _ _ (fun z:S=b=>nS (by rw[z];exact m))).trans e
  |false=>
   simp only[cw,if_false];refine bj (wpAny_letGo ?_);rw[nm];exact br ⟨ke kf _,ih (j+1) _ q c yw ac ab (by simp only[lc,ht,cw,if_false];exact hb) aa fun v h2 t2 hv k2=>fin v h2 t2 hv fun b o hn e=>k2 b o hn (k1 b o (fun m=>hn (cr _ m)) e)⟩
theorem EQ(W:Walks prog w A.in1 I fp wr n P St)(bt:Nat->Nat->Bool)(S:Addr)(nS:S∉fp)(hn:0<n){s:bp}{c:Nat}(cm:CmpH prog w A.in1 s.heap (S::wr) P bt)(st:St 0 s.heap)(hS:s.heap.get? S=some { cls:=.type "list",dict:=none,data:=.seq #[] c,slots:=#[] })
  (fin:∀v h' tk,P (lc bt (n-1)) v->(∀b o,b∉S::wr->s.heap.get? b=some o->h'.get? b=some o)->R (.ok (.ret v)) { s with heap:=h',toks:=tk }):ow (model prog w) A (.builtin "min.loop" ⟨[.ref I,.none,.ref S],[]⟩) R s:=by
 have nw:S∉wr:=fun m=>nS (W.sub _ m);have nm:(toString "min" ++ toString ".loop":String) = "min.loop":=by decide
 refine gy F.entry_min_loop ?_;rw[gd kf _];show ck _ A.in1 (seqItems? (.ref S) >>= _) _ _ s;refine bj (wpAny_seqItems hS rfl ?_);show ck _ A.in1 (tryCatch (lv (.ref I)) _ >>= _) _ _ s;refine bj (wpAny_tryCatch (W.item 0 s _ _ hn st fun x h1 t1 hx aa k1=>?_));have q:=k1 S _ nw hS;show ck _ A.in1 (updateSeq S (fun _=>#[x,x]) >>= _) _ _ _;refine bj (wpAny_updateSeq q rfl ?_);rw[nm];have keep:∀b o,b∉S::wr->s.heap.get? b=some o->(h1.update S (gr fun _=>#[x,x])).get? b=some o:=fun b o hn e=>by
  rw[ji,not_or]at hn;exact(ic _ _ (nn hn.1)).trans (k1 b o hn.2 e)
 refine br ⟨ke kf _,Dl W bt S cm nS (n-1) 0 _ x _ yw keep (W.frame _ _ _ aa fun b m o e=>?_) hx (nq _ q rfl) fun v h2 t2 hv k2=>fin v h2 t2 hv fun b o hn e=>k2 b o hn (keep b o hn e)⟩;exact(ic _ _ (fun z:S=b=>nS (by rw[z];exact m))).trans e
end
section
variable {prog:fe}{w:ft}{A:fq}{E:bn->bp->Prop}{s:bp}
theorem D5{l:Addr}{z:Array bn}{Q:bn->bp->Prop}(hh:A.handled=none)(hl:s.heap.IsList l z)(ab:0<z.size)(bt:Nat->Nat->Bool)
  (cm:∀i j x y (s':bp) (Q:bn->bp->Prop) (E:bn->bp->Prop),(∀b o,s.heap.get? b=some o->s'.heap.get? b=some o)->z[i]?=some x->z[j]?=some y->Q (.bool (bt i j)) s'->ck (model prog w) A.in1 (richCompare .Lt x y) Q E s')
  (fin:∀v h' tk,z[lc bt (z.size-1)]?=some v->(∀b o,s.heap.get? b=some o->h'.get? b=some o)->Q v { s with heap:=h',toks:=tk }):ck (model prog w) A (call (.builtin "min") [.ref l]) Q E s:=by
 have nm:(toString "min" ++ toString ".loop":String) = "min.loop":=by decide
 have lt:l<s.heap.objs.size:=by obtain⟨o,e,_⟩:=hl;exact ff e
 refine call_function_tree F.kind_min F.plain_min F.entry_min (F.args_min1 _) ?_;show ck _ A.in1 (Builtin.Builtins.bindParams "min" ["key","default"] 0 ⟨[],[]⟩ >>= _) _ _ s;refine bj (wpAny_of_eq (show Builtin.Builtins.bindParams "min" ["key","default"] 0 ⟨[],[]⟩=pure [none,none]from rfl) (bj (br (bj (nj hl ?_)))));refine bj (ga ?_);rw[nm];have z1:(s.heap.push { cls:=.type "list_iterator",data:=.fields #[.ref l,.int 0 0] }).objs.size=s.heap.objs.size+1:=size_push ..;have nS:(s.heap.push { cls:=.type "list_iterator",data:=.fields #[.ref l,.int 0 0] }).objs.size∉[s.heap.objs.size,l]:=by
  rw[z1];simp only[ji,ie,or_false,not_or];exact⟨Nat.succ_ne_self _,ne_of_gt (lt_succ_of_lt lt)⟩
 have up:∀b o,s.heap.get? b=some o->((s.heap.push { cls:=.type "list_iterator",data:=.fields #[.ref l,.int 0 0] }).push { cls:=.type "list",data:=.seq #[] }).get? b=some o:=fun b o e=>bz _ (bz _ e);have aa:∀b o,s.heap.get? b=some o->b∉(s.heap.push { cls:=.type "list_iterator",data:=.fields #[.ref l,.int 0 0] }).objs.size :: [s.heap.objs.size]:=fun b o e=>by
  rw[z1];simp only[ji,ie,or_false,not_or];have:=ff e;exact⟨fy (lt_succ_of_lt this),fy this⟩
 refine br ⟨ke kf _,EQ (Walks.list (A:=A.in1) hh _ l (fy lt) z) bt _ nS ab (fun i j x y s' Q' E' k hi hj q=>cm i j x y s' Q' E' (fun b o e=>k b o (aa b o e) (up b o e)) hi hj q) ?_ (cz _ rfl) fun v h' tk hv k=>fin v h' tk hv fun b o e=>k b o (aa b o e) (up b o e)⟩;exact⟨⟨_,bz _ (cz _ rfl),rfl,rfl⟩,(hl.push _).push _⟩
end
def sO(K:cu):List V->Hp->VK->Prop:=fun xs H Q=>∃(p:Addr) (vs:List V) (nss:List (List Int)),xs=[.ref p]/\SqL K H p vs/\vs≠[]/\Paired (fun(v:V) (ns:List Int)=>∃a,v=.ref a/\H a=some (.tup (ns.map V.int))) vs nss /\
 ∀(i:Nat) v ns,vs[i]?=some v->nss[i]?=some ns->(∀ms∈nss,HT.lexLt ms ns=false)->Q v H
theorem tG{ns:Nat->List Int}(tr:∀a b c:List Int,HT.lexLt a b=false->HT.lexLt b c=false->HT.lexLt a c=false)(as:∀a b:List Int,HT.lexLt a b=true->HT.lexLt b a=false):∀k,lc (fun i j=>HT.lexLt (ns i) (ns j)) k<=k/\∀j,j<=k->HT.lexLt (ns j) (ns (lc (fun i j=>HT.lexLt (ns i) (ns j)) k))=false
 | 0=>⟨cv _,fun j hj=>by
   have:j=0:=yw
   subst this;show HT.lexLt (ns 0) (ns 0)=false;cases h:HT.lexLt (ns 0) (ns 0)with
   |false=>rfl
   |true=>have:=as _ _ h;rw[h]at this;cases this⟩
 |k+1=>by
  obtain⟨h1,h2⟩:=tG tr as (ns:=ns) k;simp only[lc];by_cases hb:HT.lexLt (ns (k+1)) (ns (lc (fun i j=>HT.lexLt (ns i) (ns j)) k))=true
  ·rw[cf hb];refine⟨cv _,fun j hj=>?_⟩;by_cases e:j=k+1
   ·subst e;cases h:HT.lexLt (ns (k+1)) (ns (k+1))with
    |false=>rfl
    |true=>have:=as _ _ h;rw[h]at this;cases this
   ·exact tr _ _ _ (h2 j yw) (as _ _ hb)
  ·rw[cb hb];refine⟨yw,fun j hj=>?_⟩;by_cases e:j=k+1
   ·subst e;exact Bool.eq_false_iff.mpr hb
   ·exact h2 j yw
theorem tX:∀a b:List Int,HT.lexLt a b=true->HT.lexLt b a=false
 | [],[],h=>by cases h
 | [],y::ys,_=>rfl
 |x::xs,[],h=>by cases h
 |x::xs,y::ys,h=>by
  rw[HT.lexLt_cons]at h ⊢;by_cases e:x=y
  ·subst e;rw[cf rfl]at h ⊢;exact tX xs ys h
  ·rw[cb e]at h;rw[cb (nn e)];simp only[decide_eq_true_eq]at h;simp only[decide_eq_false_iff_not];omega
theorem u7:∀a b c:List Int,HT.lexLt a b=false->HT.lexLt b c=false->HT.lexLt a c=false
 |_,_,[],_,_=>by rename_i a b _ _;cases a<;>rfl
 | [],[],z::zs,_,h=>by cases h
 | [],y::ys,z::zs,h,_=>by cases h
 |x::xs,[],z::zs,_,h=>by cases h
 |x::xs,y::ys,z::zs,h,k=>by
  rw[HT.lexLt_cons]at h k ⊢;by_cases e:x=y
  ·subst e;rw[cf rfl]at h;by_cases e2:x=z
   ·subst e2;rw[cf rfl]at k ⊢;exact u7 xs ys zs h k
   ·rw[cb e2]at k ⊢;exact k
  ·rw[cb e]at h;by_cases e2:y=z
   ·subst e2;rw[cb e];exact h
   ·rw[cb e2]at k;simp only[decide_eq_false_iff_not]at h k;rw[cb yw];simp only[decide_eq_false_iff_not];omega
theorem B4{X:Cx}(hc:X.calm=true)(hu:X.A.units+64<cLine):CallR X (.builtin "min") (sO X.K):=by
 intro ze s σ H xs us Q I r h;obtain⟨p,vs,z,rfl,hq,ae,pr,q⟩:=h;obtain⟨u,rfl,rx⟩:=vals1 r;cases (show u=ig p from rx);obtain⟨aa,rv,pl,_⟩:=I.list hq;have hl:=rv.length;have aj:=Paired.length pr;have ac:0<aa.toArray.size:=by
  rw[cy,<- hl];exact List.length_pos_iff.mpr ae
 have ab:∀(i:Nat) x,aa.toArray[i]?=some x->∃(v:V) (ns:List Int),vs[i]?=some v/\z[i]?=some ns/\RelV v x/\∃a,v=.ref a/\H a=some (.tup (ns.map V.int)):=fun i x hx=>by
  have hi:i<aa.length:=by
   have:=(Array.getElem?_eq_some_iff.mp hx).1;simpa using this
  have e1:vs[i]?=some vs[i]:=cp yw;have e2:z[i]?=some z[i]:=cp yw;obtain⟨x',af,rr⟩:=rv.get e1;have:x=x':=by
   have h2:aa[i]?=some x:=by simpa using hx
   rw[af]at h2;exact(fx h2).symm
  subst this;have pg:∀{a:List V}{b:List (List Int)}{i:Nat}{v:V}{ns:List Int},Paired (fun(v:V) (ns:List Int)=>∃a,v=.ref a/\H a=some (.tup (ns.map V.int))) a b->a[i]?=some v->b[i]?=some ns->∃a,v=.ref a/\H a=some (.tup (ns.map V.int)):=by
   intro a b i v ns pq;induction pq generalizing i with
   |nil=>intro h;simp at h
   |cons r0 _ ih=>
    cases i with
    |zero=>
     intro h1 h2;rw[mh]at h1 h2;cases h1;cases h2;exact r0
    |succ i=>
     intro h1 h2;rw[ml]at h1 h2;exact ih h1 h2
  exact⟨_,_,e1,e2,rr,pg pr e1 e2⟩
 refine D5 (I.ok.hd hc) pl.isList ac (fun i j=>HT.lexLt (z.getD i []) (z.getD j [])) (fun i j x y s' Q' E' k hx hy q'=>?_) fun v h' tk hv k=>?_
 ·obtain⟨v1,n1,_,f1,r1,a1,rfl,e1⟩:=ab i x hx;obtain⟨v2,n2,_,f2,r2,a2,rfl,e2⟩:=ab j y hy;cases r1;cases r2;obtain⟨_,ah,w1,t1⟩:=(show ObjOk X.prog X.w H s.heap a1 (.tup (n1.map V.int))from I.hok a1 _ e1);obtain⟨_,ai,w2,t2⟩:=(show ObjOk X.prog X.w H s.heap a2 (.tup (n2.map V.int))from I.hok a2 _ e2);have g1:z.getD i []=n1:=by rw[fb,f1];rfl
  have g2:z.getD j []=n2:=by rw[fb,f2];rfl
  rw[g1,g2]at q';obtain⟨o1,b1,c1⟩:=t1;obtain⟨o2,b2,c2⟩:=t2;exact HT.lt_tupInts ⟨o1,k _ _ b1,c1⟩ ⟨o2,k _ _ b2,c2⟩ (f6 w1) (f6 w2) (by show X.A.units+1<cLine;omega) q'
 ·obtain⟨v1,n1,e1,f1,r1,_⟩:=ab _ v hv;obtain⟨_,h2⟩:=tG (ns:=fun i=>z.getD i []) u7 tX (aa.toArray.size-1);refine⟨v1,H,I.kept (t':=tk) k,r1,q _ v1 n1 e1 f1 fun ms hm=>?_⟩;obtain⟨j,hj⟩:=mem_iff_getElem?.mp hm;have ag:=(List.getElem?_eq_some_iff.mp hj).1;have:=h2 j (by rw[cy];omega);rw[show z.getD j []=ms by rw[fb,hj];rfl]at this;rw[show z.getD (lc (fun i j=>HT.lexLt (z.getD i []) (z.getD j [])) (aa.toArray.size-1)) []=n1 by rw[fb,f1];rfl]at this;exact this
def vG(K:cu):List V->Hp->VK->Prop:=fun xs H Q=>sD K xs H Q\/sO K xs H Q
theorem B0{X:Cx}(hc:X.calm=true)(hu:X.A.units+64<cLine):CallR X (.builtin "min") (vG X.K):=(CJ hc).or (B4 hc hu)
def iE(ns:List Int):bo:=.tuple (ns.map df)
def rP:List XV->Sto->RX->Prop:=fun xs S R=>uI xs S R\/arg1 xs fun x=>∃ds,dE S x=some ds/\∃nss:List (List Int),ds=nss.map iE/\nss≠[]/\∀m,m∈nss->(∀a,a∈nss->HT.lexLt a m=false)->R (.d (iE m)) S
theorem Db{K:cu}:RC (vG K) rP:=fun h o H S xs vs R Q hs hx q c=>by
 rcases q with q|q
 ·exact .inl (CU h o H S xs vs R Q hs hx q c)
 ·obtain⟨x,rfl,ds,hd,aa,rfl,hn,q1⟩:=bZ q;obtain⟨v,rfl,ab⟩:=hxs1 hx;obtain⟨a,ws,rfl,ea,l⟩:=aY hs hd ab;have hl:=l.length;refine .inr ⟨a,ws,aa,rfl,.of ea,fun z=>hn ?_,?_,fun i v ns e1 e2 hm=>?_⟩
  ·subst z;rw[dj]at hl;exact fw hl.symm
  ·have go:∀{aa:List (List Int)}{ws:List V},HasL (vx h o H) (aa.map iE) ws->Paired (fun(v:V) (ns:List Int)=>∃a,v=.ref a/\H a=some (.tup (ns.map V.int))) ws aa:=by
    intro aa;induction aa with
    |nil=>intro ws l;rw[zp.mp l];exact .nil
    |cons n aa ih=>
     intro ws l;obtain⟨v,r,rfl,h1,l2⟩:=zm.mp l;obtain⟨b,us,rfl,eb,lb⟩:=cN.mp h1;rw[jH lb]at eb;exact .cons ⟨b,rfl,bH _ _ eb⟩ (ih l2)
   exact go l
  ·obtain⟨v',ev,hv⟩:=l.get (show (aa.map iE)[i]?=some (iE ns) by rw[gh,e2];rfl);rw[e1]at ev;cases ev;exact c o H S (.d (iE ns)) v Ex.refl hs hv (q1 ns (bq e2) hm)
section
variable {S:Sto}{P:Sto->List bo->Prop}{a b c d:List bo}{x:List bo}
theorem eK{S0:Sto}:(∃T ds,S0++[x]=T++[ds]/\P T ds)↔P S0 x:=by
 constructor
 ·rintro⟨T,ds,e,q⟩;obtain⟨rfl,e2⟩:=List.append_inj' e rfl;cases e2;exact q
 ·exact fun q=>⟨S0,x,rfl,q⟩
theorem lH:(∃T ds,[a]=T++[ds]/\P T ds)↔P [] a:=eK (S0:=[])
theorem jF:(∃T ds,[a,b]=T++[ds]/\P T ds)↔P [a] b:=eK (S0:=[a])
theorem mR:(∃T ds,[a,b,c]=T++[ds]/\P T ds)↔P [a,b] c:=eK (S0:=[a,b])
end
section
variable {n k:Nat}{ds:List bo}{d:bo}{v:V}
theorem lJ:frz n ds (some (.d d))=some (.d d):=rfl
theorem lR:frz n ds (some (.l k))=if k=n then some (.d (.list ds))else some (.l k):=rfl
end
section
variable {α:Type}{n:Nat}{g:DG}{tt:DT}{te:DE}{fin:Sto->Prop}{S0:Sto}{caps:XE}
theorem wP{h:α->bo}{f:α->bo}(P:XE->Prop)(hn:S0.length=n)(l:List α)(τ:XE)(hP:P τ)(hl:l.length<=1000)
  (el:∀x∈l,∀ τ acc (R:XE->RX),P τ->(∀ τ',P τ'->R τ' (.d (f x)) (S0++[acc]))->g (.d (h x)) τ (S0++[acc]) fun τ1 S1=>te τ1 S1 (R τ1)) (hf:fin (S0++[l.map f])):aN n g aG te fin (l.map h) τ (S0++[[]]):=by
 have go:∀(l:List α) (acc:List bo) (τ:XE),P τ->acc.length+l.length<=1000->(∀x∈l,∀ τ acc (R:XE->RX),P τ->(∀ τ',P τ'->R τ' (.d (f x)) (S0++[acc]))->g (.d (h x)) τ (S0++[acc]) fun τ1 S1=>te τ1 S1 (R τ1)) ->
   fin (S0++[acc++l.map f])->aN n g aG te fin (l.map h) τ (S0++[acc]):=by
  intro l;induction l with
  |nil=>intro acc τ _ _ _ h;rw[map_nil,jb]at h;exact h
  |cons x l ih=>
   intro acc τ hP hl el hh;show g (.d (h x)) τ (S0++[acc]) fun τ1 S1=>aG τ1 S1 fun b S2=>if b=true then te τ1 S2 fun x S3=>asD x fun e=>∃acc,S3[n]?=some acc/\acc.length<1000/\aN n g aG te fin (l.map h) τ1 (S3.set n (acc++[e]))else aN n g aG te fin (l.map h) τ1 S2
   simp only[aG,↓reduceIte];rw[fj]at hl;refine el x dh τ acc (fun τ1 x S3=>asD x fun e=>∃acc,S3[n]?=some acc/\acc.length<1000/\aN n g aG te fin (l.map h) τ1 (S3.set n (acc++[e]))) hP fun τ' q=>?_;refine⟨acc,by rw[<- hn,ca],yw,?_⟩;rw[pE hn];refine ih (acc++[f x]) τ' q (by rw[cq,fr];omega) (fun e m=>el e (cr _ m)) ?_;rw[io];exact hh
 exact go l [] τ hP (by simpa using hl) el (by simpa using hf)
theorem cmp1{h:α->bo}(f:α->bo)(hn:S0.length=n)(l:List α){u:Option XV}(hl:l.length<=1000)
  (el:∀x∈l,∀(u:Option XV) acc (R:XE->RX),(∀u',R (u'::caps) (.d (f x)) (S0++[acc]))->g (.d (h x)) (u::caps) (S0++[acc]) fun τ1 S1=>te τ1 S1 (R τ1)) (hf:fin (S0++[l.map f])):aN n g aG te fin (l.map h) (u::caps) (S0++[[]]):=
 wP (fun τ=>∃u,τ=u::caps) hn l _ ⟨u,rfl⟩ hl (fun x m τ acc R ⟨u,e⟩ k=>by subst e;exact el x m u acc R fun u'=>k _ ⟨u',rfl⟩) hf
theorem cmp2{h:α->bo}(f:α->bo)(hn:S0.length=n)(l:List α){u v:Option XV}(hl:l.length<=1000)
  (el:∀x∈l,∀(u v:Option XV) acc (R:XE->RX),(∀u' v',R (u'::v'::caps) (.d (f x)) (S0++[acc]))->g (.d (h x)) (u::v::caps) (S0++[acc]) fun τ1 S1=>te τ1 S1 (R τ1)) (hf:fin (S0++[l.map f])):aN n g aG te fin (l.map h) (u::v::caps) (S0++[[]]):=
 wP (fun τ=>∃u v,τ=u::v::caps) hn l _ ⟨u,v,rfl⟩ hl (fun x m τ acc R ⟨u,v,e⟩ k=>by subst e;exact el x m u v acc R fun u' v'=>k _ ⟨u',v',rfl⟩) hf
theorem Dc{h:α->bo}{f:α->bo}{p:α->Bool}(P:XE->Prop)(hn:S0.length=n)(l:List α)(τ:XE)(hP:P τ)(hl:l.length<=1000)
  (el:∀x∈l,∀ τ acc (R:XE->Bool->Sto->Prop),P τ->(∀ τ',P τ'->(p x=true->∀T:RX,T (.d (f x)) (S0++[acc])->te τ' (S0++[acc]) T)->R τ' (p x) (S0++[acc]))->g (.d (h x)) τ (S0++[acc]) fun τ1 S1=>tt τ1 S1 (R τ1))
  (hf:fin (S0++[(l.filter p).map f])):aN n g tt te fin (l.map h) τ (S0++[[]]):=by
 have go:∀(l:List α) (acc:List bo) (τ:XE),P τ->acc.length+l.length<=1000->(∀x∈l,∀ τ acc (R:XE->Bool->Sto->Prop),P τ->(∀ τ',P τ'->(p x=true->∀T:RX,T (.d (f x)) (S0++[acc])->te τ' (S0++[acc]) T)->R τ' (p x) (S0++[acc]))->g (.d (h x)) τ (S0++[acc]) fun τ1 S1=>tt τ1 S1 (R τ1)) ->
   fin (S0++[acc++(l.filter p).map f])->aN n g tt te fin (l.map h) τ (S0++[acc]):=by
  intro l;induction l with
  |nil=>intro acc τ _ _ _ h;rw[List.filter_nil,map_nil,jb]at h;exact h
  |cons x l ih=>
   intro acc τ hP hl el hh;show g (.d (h x)) τ (S0++[acc]) fun τ1 S1=>tt τ1 S1 fun b S2=>if b=true then te τ1 S2 fun x S3=>asD x fun e=>∃acc,S3[n]?=some acc/\acc.length<1000/\aN n g tt te fin (l.map h) τ1 (S3.set n (acc++[e]))else aN n g tt te fin (l.map h) τ1 S2
   rw[fj]at hl;refine el x dh τ acc (fun τ1 b S2=>if b=true then te τ1 S2 fun x S3=>asD x fun e=>∃acc,S3[n]?=some acc/\acc.length<1000/\aN n g tt te fin (l.map h) τ1 (S3.set n (acc++[e]))else aN n g tt te fin (l.map h) τ1 S2) hP fun τ' q ev=>?_;cases hp:p x with
   |false=>
    rw[List.filter_cons_of_neg (by rw[hp];exact ge)]at hh;exact e7 (ih acc τ' q yw (fun e m=>el e (cr _ m)) hh)
   |true=>
    rw[List.filter_cons_of_pos hp,lh]at hh;refine eT (ev hp _ ⟨acc,by rw[<- hn,ca],yw,?_⟩);rw[pE hn];exact ih (acc++[f x]) τ' q (by rw[cq,fr];omega) (fun e m=>el e (cr _ m)) (by rw[io];exact hh)
 exact go l [] τ hP (by simpa using hl) el (by simpa using hf)
theorem cmf1{h:α->bo}(f:α->bo)(p:α->Bool)(hn:S0.length=n)(l:List α){u:Option XV}(hl:l.length<=1000)
  (el:∀x∈l,∀(u:Option XV) acc (R:XE->Bool->Sto->Prop),(∀u',(p x=true->∀T:RX,T (.d (f x)) (S0++[acc])->te (u'::caps) (S0++[acc]) T)->R (u'::caps) (p x) (S0++[acc]))->g (.d (h x)) (u::caps) (S0++[acc]) fun τ1 S1=>tt τ1 S1 (R τ1)) (hf:fin (S0++[(l.filter p).map f])):aN n g tt te fin (l.map h) (u::caps) (S0++[[]]):=
 Dc (fun τ=>∃u,τ=u::caps) hn l _ ⟨u,rfl⟩ hl (fun x m τ acc R ⟨u,e⟩ k=>by subst e;exact el x m u acc R fun u' hh=>k _ ⟨u',rfl⟩ hh) hf
end
end
section
@[irreducible] def QSs (X:Cx) (st:List Stmt) (t:TS):Prop:=PSs X st t
theorem QSs.out{X:Cx}{st:List Stmt}{t:TS}(h:QSs X st t):PSs X st t:=by unfold QSs at h;exact h
@[irreducible] def QA (X:Cx) (es:List Expr) (t:TA):Prop:=PA X es t
theorem QA.out{X:Cx}{es:List Expr}{t:TA}(h:QA X es t):PA X es t:=by unfold QA at h;exact h
theorem QA.mk{X:Cx}{es:List Expr}{t:TA}(h:PA X es t):QA X es t:=by unfold QA;exact h
theorem vR{X:Cx}:QA X [] gX:=QA.mk zd
theorem cE{X:Cx}{e:Expr}{es:List Expr}{te:TE}{t:TA}(ha:PE X e te)(hr:QA X es t)(hs:fi (e::es) X.env=(false,eval e X.env)::fi es X.env:=by rfl):QA X (e::es) (g7 te t):=QA.mk (za ha hr.out hs)
theorem uF{X:Cx}{es:List Expr}{t:TA}{pos:Pos}(h:QA X es t):PE X (.List es pos) (g4 t):=zY h.out
@[irreducible] def QS (X:Cx) (st:Stmt) (t:TS):Prop:=PS X st t
theorem QS.out{X:Cx}{st:Stmt}{t:TS}(h:QS X st t):PS X st t:=by unfold QS at h;exact h
end
section
def jC(a:DA):DE:=fun δ S R=>a δ S fun xs S1=>arg2 xs fun x y=>asI x fun i=>asI y fun j=>(j-i).toNat<=1000/\R (.d (.list (fC i (j-i).toNat))) S1
end
end L2
namespace HT
open PySem PyProof.Rows
section
variable {prog:fe}{w:ft}{A:fq}{E:bn->bp->Prop}{s:bp}
theorem tup_whole{t sl:Addr}{q:Array bn}{vl vu:bn}{lo hi:Option Int}{Q:bn->bp->Prop}(ht:IsTup s.heap t q)(hs:s.heap.IsSliceOf sl vl vu .none)(pl:IsPart vl lo)(pu:IsPart vu hi)
  (hw:sIx q.size 0 lo=0/\sIx q.size q.size hi=q.size) (h:Q (.ref t) s):ck (model prog w) A (getItem (.ref t) (.ref sl)) Q E s:=by
 obtain⟨os,aa,ab,ac⟩:=id hs;have z:s.TypeIs (.ref sl) "slice":=⟨os,aa,ab⟩;unfold getItem
 try with_reducible refine gx ?_
 first|refine bj (br ?_)|skip
 refine bj (wpAny_sequenceKey ht.typeIs dz ?_);refine bj (ix (name:=ox "__getitem__") ht.typeIs PyProof.Rows.slot_tuple_getitem
  (jj PyProof.Rows.slot_tuple_getitem ht.typeIs entry_tuple_getitem ?_ (args_tuple_getitem _ _)))
 show ck _ _ (Builtin.Tuple.tupleItemsOf (.ref t) >>= _) _ _ s;refine bj (tupleItemsOf_ ht (bj (wpAny_typeOf z ?_)));rw[cf dz];refine bj (AO hs pl pu ?_);rw[hw.1,hw.2];show ck _ _ (if (((0:Nat):Int)==0&&(1:Int)==1&&(q.size-0)==q.size)=true then _ else _) _ _ s;rw[cf yv];unfold Builtin.Tuple.tupleIsExact;refine bj (bj (wpAny_typeOf ht.typeIs (br ?_)));rw[cf dz];exact bj (jw (br ⟨_,rfl,br h⟩))
end
end HT
namespace L2
open PySem PySem.Spec PyProof.Rows
section
section
variable {X:Cx}{e ek:Expr}{te tk:TE}{pos p2:Pos}
def yN(K:cu):V->Option Int->Option Int->Hp->VK->Prop:=fun x lo hi H Q=>∃a xs,x=.ref a/\SqT K H a xs /\
 ((HT.sIx xs.length 0 lo=0/\HT.sIx xs.length xs.length hi=xs.length)->Q (.ref a) H)/\∀p,H p=none->Q (.ref p) (upd H p (.tup (bY xs lo hi)))
theorem Dg:SlR X (yN X.K):=by
 intro ze s σ H x v vl vu lo hi sl Q I rx hs pl pu h;obtain⟨a,xs,rfl,hx,hw,q⟩:=h;by_cases z:HT.sIx xs.length 0 lo=0/\HT.sIx xs.length xs.length hi=xs.length
 ·cases rx;obtain⟨ab,r,ht,hz⟩:=I.tuple hx;have aa:ab.toArray.size=xs.length:=by rw[cy];exact r.length.symm
  refine⟨"tuple",_,PyProof.Rows.slot_tuple_getitem.lookup,ht.typeIs,?_⟩;exact HT.tup_whole ht hs pl pu (by rw[aa];exact z) ⟨.ref a,H,I,rfl,hw z⟩
 ·exact xU ze s σ H _ v vl vu lo hi sl Q I rx hs pl pu ⟨a,xs,rfl,hx,z,q⟩
end
def gJ:D3:=fun x i j S R=>asT x fun ds=>R (.d (.tuple (aH ds i j))) S
theorem CC{α:Type}(xs:List α)(lo hi:Option Int)(h:HT.sIx xs.length 0 lo=0/\HT.sIx xs.length xs.length hi=xs.length):aH xs lo hi=xs:=by
 unfold aH;rw[h.1,h.2];simp
theorem uV{K:cu}:RL (yN K) gJ:=fun h o H S x v a b R Q hs hx q c=>by
 replace q:=iA q;obtain⟨ds,rfl,q⟩:=q;obtain⟨p,vs,rfl,ea,l⟩:=c8 hx;refine⟨p,vs,rfl,.of ea,fun z=>?_,kT hs (l.cut a b) c q⟩;rw[l.length]at z;rw[CC ds a b z]at q;exact c o H S _ _ Ex.refl hs hx q
end
section
theorem Df.none{P:fe}{w:ft}{K:cu}{mg:Str->Option bn}{base:Heap}{x:Str}{st:Stmt}{ps:List Str}{k:Nat}(D:Dd K mg x st ps):Df P w K mg base x ps k (spN ps fun _ _ _=>False):=by
 obtain⟨f,fd,F,hm,hb⟩:=D.ex;have no:∀{vs H Q E},spN ps (fun _ _ _=>False) vs H Q E->False:=fun {vs H Q E} h=>by
  obtain⟨_,h,o,S,xs,R,_,_,q,_⟩:=h;exact q
 exact⟨f,fd,⟨fun _ _ _ _ h=>(no h).elim,fun _ _ _ _ _ _ _ _ _ _ _ _ _ h=>(no h).elim⟩,hm,F.kp,hb⟩
end
section
@[irreducible] def QE (X:Cx) (e:Expr) (t:TE):Prop:=PE X e t
theorem QE.out{X:Cx}{e:Expr}{t:TE}(h:QE X e t):PE X e t:=by unfold QE at h;exact h
end
end L2
namespace L2
open PySem PySem.Spec PySem.Calls PyProof.Rows PySem.W
section
variable {prog:fe}{w:ft}{A:fq}{E:bn->bp->Prop}{s:bp}
def KeptBut(a:Addr)(h h':Heap):Prop:=∀b o,b≠a->h.get? b=some o->h'.get? b=some o
end
end L2
namespace L2
open PySem PySem.Spec PyProof.Rows
section
def mC:D2:=fun x y S R=>asT x fun ds=>asT y fun es=>∃ns,ds=ns.map df/\∃ms,es=ms.map df/\R (.d (.bool (HT.lexLt ns ms))) S
end
section
open Sem (wp)
abbrev IsT (h:Heap) (T:Addr) (xs:Array bn):Prop:=h.get? T=some { cls:=.type "tuple",data:=.seq xs }
end
section
structure Bel(xs:Array Nat)(j r:Nat):Prop where
 le:r<=xs.size
 lo:∀i x,i<r->xs[i]?=some x->x<j
 hi:∀i x,r<=i->xs[i]?=some x->j<=x
abbrev Rise (xs:Array Nat):Prop:=xs.toList.Pairwise (· < ·)
theorem Rise.at{xs:Array Nat}(h:Rise xs){i k x y:Nat}(ik:i<k)(ei:xs[i]?=some x)(ek:xs[k]?=some y):x<y:=by
 rw[<- iq]at ei ek;obtain⟨hi,rfl⟩:=List.getElem?_eq_some_iff.mp ei;obtain⟨hk,rfl⟩:=List.getElem?_eq_some_iff.mp ek;exact List.pairwise_iff_getElem.mp h i k hi hk ik
theorem sK{xs:Array Nat}{j:Nat}(h:Rise xs):∀(fuel lo hi:Nat),lo<=hi->hi<=xs.size->hi-lo<=fuel->(∀i x,i<lo->xs[i]?=some x->x<j)->(∀i x,hi<=i->xs[i]?=some x->j<=x)->Bel xs j (SetTable.below.go xs j fuel lo hi)
 | 0,lo,hi,l1,l2,l3,a,b=>by
  unfold SetTable.below.go;have:hi=lo:=yw
  subst this;exact⟨l2,a,b⟩
 |fuel+1,lo,hi,l1,l2,l3,a,b=>by
  unfold SetTable.below.go;by_cases h1:lo<hi
  ·rw[cf h1];have hm:(lo+hi)/2<xs.size:=yw
   have em:xs[(lo+hi)/2]?=some xs[(lo+hi)/2]:=fk hm;have eg:xs.getD ((lo+hi)/2) j=xs[(lo+hi)/2]:=by simp[Array.getD,hm]
   dsimp only;rw[eg];by_cases h2:xs[(lo+hi)/2]<j
   ·rw[cf h2];refine sK h fuel _ _ yw l2 yw (fun i x q e=>?_) b;by_cases h3:i=(lo+hi)/2
    ·subst h3;rw[em]at e;cases e;exact h2
    ·exact lt_trans (h.at yw e em) h2
   ·rw[cb h2];refine sK h fuel _ _ yw yw yw a fun i x q e=>?_;by_cases h3:i=(lo+hi)/2
    ·subst h3;rw[em]at e;cases e;omega
    ·have:=h.at (show (lo+hi)/2<i by omega) em e;omega
  ·rw[cb h1];have:hi=lo:=yw
   subst this;exact⟨l2,a,b⟩
theorem bel{xs:Array Nat}{j:Nat}(h:Rise xs):Bel xs j (kj xs j):=by
 unfold kj;refine sK h _ _ _ (jo _) (cv _) yw (fun i x z=>absurd z (Nat.not_lt_zero _)) fun i x z e=>?_;have:=(Array.getElem?_eq_some_iff.mp e).1;omega
theorem uZ{xs:Array Nat}{j r q:Nat}(a:Bel xs j r)(b:Bel xs j q):r=q:=by
 rcases Nat.lt_trichotomy r q with h|h|h
 ·have hs:r<xs.size:=by have:=b.le;omega
  have e:=fk hs;have:=a.hi r _ (cv _) e;have:=b.lo r _ h e;omega
 ·exact h
 ·have hs:q<xs.size:=by have:=a.le;omega
  have e:=fk hs;have:=b.hi q _ (cv _) e;have:=a.lo q _ h e;omega
theorem Ei{xs:Array Nat}{j:Nat}(h:Rise xs)(hn:xs[kj xs j]? ≠ some j):Rise (SetTable.insertAt xs (kj xs j) j):=by
 have b:=bel (j:=j) h;generalize kj xs j=r at b hn;unfold Rise;rw[SetTable.toList_insertAt];have h1:∀x∈xs.toList.take r,x<j:=fun x m=>by
  obtain⟨i,hi⟩:=mem_iff_getElem?.mp m;have il:i<r:=by
   have:=(List.getElem?_eq_some_iff.mp hi).1;rw[jh]at this;omega
  rw[nu,cf il,iq]at hi;exact b.lo i x il hi
 have h2:∀x∈xs.toList.drop r,j<x:=fun x m=>by
  obtain⟨i,hi⟩:=mem_iff_getElem?.mp m;rw[nv,iq]at hi;have le:=b.hi (r+i) x yw hi;rcases Nat.eq_or_lt_of_le le with e|l
  ·exfalso;subst e;cases i with
   |zero=>exact hn hi
   |succ i=>
    have hs:r<xs.size:=by have:=(Array.getElem?_eq_some_iff.mp hi).1;omega
    have e:=fk hs;have:=b.hi r _ (cv _) e;have:=h.at (show r<r+(i+1) by omega) e hi;omega
  ·exact l
 refine pairwise_append.mpr ⟨List.Pairwise.sublist (List.take_sublist _ _) h,pairwise_cons.mpr ⟨h2,List.Pairwise.sublist (List.drop_sublist _ _) h⟩,fun x mx y my=>?_⟩;rcases mem_cons.mp my with rfl|my
 ·exact h1 x mx
 ·exact lt_trans (h1 x mx) (h2 y my)
theorem E4{t:gz}(hd:t.dummies = #[])(j:Nat):t.slot j≠.dummy:=by
 unfold SetTable.slot;dsimp only;split
 ·simp
 ·rw[hd];simp[SetTable.has]
theorem Dq{t:gz}{j:Nat}(h:t.slot j=.empty):t.place[kj t.place j]? ≠ some j:=by
 unfold SetTable.slot at h;dsimp only at h;intro e;rw[e]at h;simp at h
theorem uA{t:gz}{f:Nat->Int}{h:Int}(hd:t.dummies = #[]):∀(fuel:Nat) (p:SetTable.Probe) (j:Nat) (d:Option Nat),SetTable.probe.go t f h fuel p=some (.empty j d)->t.slot j=.empty/\d=p.dummy
 | 0,p,j,d,e=>by simp[SetTable.probe.go]at e
 |fuel+1,p,j,d,e=>by
  unfold SetTable.probe.go at e;split at e
  ·rename_i hs;cases e;exact⟨hs,rfl⟩
  ·rename_i hs;exact absurd hs (E4 hd _)
  ·split at e
   ·cases e
   ·have:=uA hd fuel _ j d e;refine⟨this.1,this.2.trans ?_⟩;unfold SetTable.advance;split<;>rfl
structure Tab(led:Bool)(t:gz)(n:Nat):Prop where
 fits:t.fits n=true
 rise:Rise t.place
 dum:t.dummies = #[]
 led:t.led=led
theorem Dt(n:Nat):Rise (Array.range n):=by
 unfold Rise;rw[Array.toList_range];exact List.pairwise_lt_range
theorem nH{led:Bool}{t:gz}(n:Nat)(h:t.led=led):Tab led (t.standIn n) n:=
 ⟨SetTable.standIn_fits t n,Dt n,rfl,h⟩
theorem Bi(led:Bool):Tab led (SetTable.fresh 0 0 led) 0:=⟨rfl,List.Pairwise.nil,rfl,rfl⟩
theorem Bs{led:Bool}{t:gz}{es:Array (Int×bn)}(h:Tab led t es.size)(hs:Int)(x:bn):Tab led (layNew t es hs x).2.1 (layNew t es hs x).1.size:=by
 unfold layNew;split
 ·rename_i slot wd hf;unfold SetTable.freeSlot at hf;split at hf
  ·rename_i j d hp;cases hf;obtain⟨e1,e2⟩:=uA h.dum _ _ _ _ hp;have e3:d=none:=e2;subst e3;dsimp only[Option.getD];have hr:=Ei h.rise (Dq e1);unfold SetTable.orStandIn;split
   ·rename_i q;refine⟨q,hr,?_,h.led⟩;show (if SetTable.has t.dummies j=true then _ else t.dummies) = #[];rw[h.dum];rfl
   ·exact nH _ h.led
  ·cases hf
 ·have:=nH (led:=led) (t:=t) (es.size+1) h.led;simpa using this
theorem CS{led:Bool}{t:gz}{es:Array (Int×bn)}(h:t.led=led)(q:Nat):Tab led (relayAll t es q).2.1 (relayAll t es q).1.size:=by
 have hf:=relayAll_fits t es q;unfold relayAll at hf ⊢;split
 ·rename_i t' z hl;rw[hl]at hf;dsimp only at hf ⊢;split
  ·rename_i hc;rw[cf hc]at hf;unfold SetTable.relaid SetTable.laid at hl;simp only[Option.bind_eq_bind,Option.bind_eq_some_iff,Option.pure_def,Option.some.injEq,Prod.mk.injEq]at hl;obtain⟨owner,_,rfl,_⟩:=hl;refine⟨hf,?_,rfl,h⟩;unfold Rise;dsimp only;rw[List.pairwise_map,List.pairwise_filterMap];refine List.Pairwise.imp (fun {a b} ab x ex y ey=>?_) List.pairwise_lt_range;obtain⟨_,_,rfl⟩:=map_eq_some_iff.mp ex;obtain⟨_,_,rfl⟩:=map_eq_some_iff.mp ey;exact ab
  ·exact nH _ h
 ·exact nH _ h
end
section
section
variable {prog:fe}{w:ft}{A:fq}{E:bn->bp->Prop}{s:bp}{led:Bool}
theorem qN{n:Nat}(h:n<100):n<scanBound:=by
 have:scanBound=4096:=rfl;omega
end
end
section
namespace F4
theorem plain_update_loop:plainId "set.update.loop" = true:=by decide +kernel
theorem entry_update_loop:entryFor table "set.update.loop" = some oh.«set.update.loop»:=entryFor_of_fast (by kernel_rfl)
theorem typeCall_set_1(a:bn):checkTypeCall "set" ⟨[a],[]⟩=pure ():=by kernel_rfl
theorem newCall_set_1(a:bn):checkBuiltinCall "set.__new__" ⟨[.type "set",a],[]⟩=pure ():=by kernel_rfl
theorem sub_list_set:isSubtype (.type "list") (.type "set")=pure false:=by rw[isSubtype_type];kernel_rfl
theorem sub_list_frz:isSubtype (.type "list") (.type "frozenset")=pure false:=by rw[isSubtype_type];kernel_rfl
end F4
section
variable {prog:fe}{w:ft}{A:fq}{E:bn->bp->Prop}{s:bp}
theorem oQ{Q:Bool->bp->Prop}(h:Q (w.params.followText "set-order") s):ck (model prog w) A setsByText Q E s:=fun _ _ _=>h
theorem A8{a:bn}{Q:bn->bp->Prop}(h:Q (.ref s.heap.objs.size) { s with heap:=s.heap.push { cls:=.type "set",dict:=none,data:=.set #[] 0 (.fresh 0 0 (!w.params.followText "set-order")) } }):
  ow (model prog w) A (.call (.builtin "set.__new__") ⟨[.type "set",a],[]⟩) (wants Q E) s:=by
 refine codeAny_of_tree ?_;show ck _ A.in1 (do checkBuiltinCall "set.__new__" ⟨[.type "set",a],[]⟩;again (.builtin "set.__new__" ⟨[.type "set",a],[]⟩)) _ _ s;refine bj (wpAny_of_eq (F4.newCall_set_1 a) (br ⟨ke F.plain_set_new _,gy F.entry_set_new ?_⟩));rw[gd F.plain_set_new _];unfold oh.«set.__new__» Builtin.Frozenset.newClass;have q:=sub_set_self;obtain⟨h0,gs,dr,tk,os⟩:=s;dsimp only
 wp_walk
 refine wpAny_askSetting (M:=model prog w) (br ?_);dsimp only;simp only[newObj];exact bj (wpAny_alloc (br (br h)))
theorem EZ{M:Model}{self a:bn}{Q:Unit->bp->Prop}(hT:s.TypeIs self "set")(hQ:Q () s):ck M A (checkBuiltinCall "set.__init__" ⟨[self,a],[]⟩) Q E s:=by
 simp only[checkBuiltinCall,kind_set_init,split_set_init,sig_set_init];refine bj (lq hT sub_set_self ?_);simp only[Bool.not_true,cw,if_false];unfold Bind.checkArgs;dsimp only;refine bj (m:=Bind.printed "set" true _ _) (PyProof.Rows.printed_name dz ?_);refine bj (m:=Bind.printed "*" false _ _) (PyProof.Rows.printed_star (sig:=_) (self:=self) rfl hT fun q=>?_);have aa:(Manifest.Receiver.self==Manifest.Receiver.none)=false:=by decide
 have h1:(if (Manifest.Receiver.self==Manifest.Receiver.none)=true then [self,a].length else [self,a].length-1)=1:=by simp[aa]
 rw[h1];simp only[map_nil];have hc:Bind.check ⟨.positional,"set","*",.self,[⟨"iterable",.posOnly,false⟩]⟩ "set" q 1 []=pure ():=by
  have z:(Manifest.ParamKind.posOnly==Manifest.ParamKind.posOnly)=true:=by decide
  simp[Bind.check,Bind.checkCount,Bind.isPositional,z]
 rw[hc];exact br hQ
end
end
section
namespace F4
theorem slot_si_next:Slot "set_iterator" "__next__" "set_iterator.__next__":=.of (owner:="set_iterator") (n:="__next__") (by rw[typeLookup_type,builtinLookup_eq_fast];kernel_rfl) (by decide +kernel) (by decide +kernel) (by decide +kernel) (by first|exact .inl (by decide +kernel)|exact .inr (by decide +kernel)) (by rw[isSubtype_type];kernel_rfl)
theorem entry_si_next:entryFor table "set_iterator.__next__" = some oh.«set_iterator.__next__»:=entryFor_of_tree (by kernel_rfl)
theorem entry_set_iter:entryFor table "set.__iter__" = some oh.«frozenset.__iter__»:=entryFor_alias (id':="frozenset.__iter__") (by kernel_rfl) rfl (by decide +kernel) (by kernel_rfl)
theorem DU:Manifest.owners.lookup (String.ofList ['r','o','t','a','r','e','t','i','_','t','e','s'].reverse)=some Manifest.sig_set_iterator:=by kernel_rfl
theorem args_si_next(a:bn):argsOk "set_iterator.__next__" ⟨[a],[]⟩:=by unfold argsOk;rw[signature?_of (id:="set_iterator.__next__") (n:=['_','_','t','x','e','n','_','_']) (o:=['r','o','t','a','r','e','t','i','_','t','e','s']) (by kernel_rfl) DU];kernel_rfl
end F4
theorem o9{α:Type}:∀(l:List α) (i:Nat) (h:i<l.length),(l[i]::l.eraseIdx i).Perm l
 | [],i,h=>by simp at h
 |a::l,0,h=>lr _
 |a::l,i+1,h=>by
  show (l[i]'(by simpa using h)::a::l.eraseIdx i).Perm (a::l);exact(List.Perm.swap _ _ _).trans (List.Perm.cons _ (o9 l i (by simpa using h)))
theorem AH{α:Type}{next:Nat->Nat}:∀(fuel k:Nat) (left:List α) (out:Array α),left.length=fuel->(pickOrder.go next fuel k left out).toList.Perm (out.toList++left)
 | 0,k,left,out,h=>by
  have:left=[]:=List.length_eq_zero_iff.mp h;subst this;unfold pickOrder.go;simp
 |fuel+1,k,left,out,h=>by
  unfold pickOrder.go;have hl:next k % left.length<left.length:=Nat.mod_lt _ yw;rw[cp hl];dsimp only;refine(AH fuel (k+1) _ _ (by rw[List.length_eraseIdx,cf hl];omega)).trans ?_;rw[toList_push,io];refine List.Perm.append_left _ ?_;exact o9 _ _ hl
theorem Br{α:Type}(next:Nat->Nat)(xs:Array α):(pickOrder next xs).toList.Perm xs.toList:=by
 unfold pickOrder;have:=AH (next:=next) xs.size 0 xs.toList #[] (fc);simpa using this
section
variable {prog:fe}{w:ft}{A:fq}{E:bn->bp->Prop}{s:bp}
theorem sT{α:Type}{E:bn->bp->Prop}:∀(n:Nat) (xs:List α) (s:bp) (Q:List α->bp->Prop),xs.length=n->(∀d ys,ys.Perm xs->Q ys { s with drawn:=d })->ck (model prog w) A (drawOrder n xs) Q E s
 | 0,xs,s,Q,h,q=>by
  have:xs=[]:=List.length_eq_zero_iff.mp h;subst this;exact br (q s.drawn [] (lr _))
 |n+1,[],s,Q,h,q=>by cases h
 |n+1,x::xs,s,Q,h,q=>by
  show ck _ _ (choose .order (x::xs).length >>= _) _ _ _;refine bj (fun Γ p hΓ=>⟨yv,?_⟩);show ck (model prog w) A (match (x::xs)[w.draws .order (s.drawn.get .order) % (x::xs).length]? with|some y=>(do let r <- drawOrder n ((x::xs).eraseIdx (w.draws .order (s.drawn.get .order) % (x::xs).length));pure (y::r))|none=>unsupported "internal:drawOrder") Q E { s with drawn:=s.drawn.bump .order };generalize hi:w.draws .order (s.drawn.get .order) % (x::xs).length=i;have hl:i<(x::xs).length:=by rw[<- hi];exact Nat.mod_lt _ yv
  rw[cp hl];dsimp only;refine bj (sT n _ _ _ (by rw[List.length_eraseIdx,cf hl];omega) fun d ys p=>br ?_);exact q d _ ((List.Perm.cons _ p).trans (o9 _ _ hl))
abbrev IsSI (h:Heap) (I S:Addr) (f:bn) (i n ep:Nat):Prop:=h.get? I=some { cls:=.type "set_iterator",dict:=none,data:=.fields #[f,oq i,.ref S,oq n,oq ep],slots:=#[] }
theorem fD{I S:Addr}{f:bn}{i n ep:Nat}(h:IsSI s.heap I S f i n ep):s.TypeIs (.ref I) "set_iterator":=⟨_,h,rfl⟩
theorem xV(i:Nat):oq ((i:Int)+1)=oq ((i+1:Nat):Int):=by simp
theorem xW{Q:PySem.Fin->bp->Prop}(hh:A.handled=none)(h:∀h' e,(∀b o,s.heap.get? b=some o->h'.get? b=some o)->(∃o,h'.get? e=some o/\o.cls=.type "StopIteration")->E (.ref e) { s with heap:=h' }):
  ck (model prog w) A (newExc (.type "StopIteration") [] >>= fun x=>raiseNew x) Q E s:=by
 refine bj ?_;simp only[newExc,newTuple];refine bj (ga ?_ (by size_fits));refine bj (m:=firstArgMember (.type "StopIteration") _) (wpAny_of_eq (a:=Value.none) (by first|rfl|(simp only[firstArgMember];rfl)) ?_);refine ga ?_ (by size_fits);simp only[raiseNew];refine bj (wpAny_handled ?_);rw[hh];refine bj (br (wpAny_throw ?_));exact h _ _ (fun b o e=>bz _ (bz _ e)) ⟨_,cz _ rfl,rfl⟩
theorem CI{I S:Addr}{o:Obj}{es:Array (Int×bn)}{t:gz}{slot nx i ep:Nat}{x:bn}{Q:Option bn->bp->Prop}(hI:IsSI s.heap I S (oq slot) i es.size ep)(hS:s.heap.get? S=some o)(hd:o.data=.set es ep t)(hf:t.fits es.size=true)
  (hn:∀(A:fq) (Q:Option (bn×Nat)->bp->Prop) (E:bn->bp->Prop) (s:bp),s.heap.get? S=some o->Q (some (x,nx)) s->ck (model prog w) A (setNext S slot i ep) Q E s)
  (hQ:∀h',IsSI h' I S (oq nx) (i+1) es.size ep->jn I s.heap h'->Q (some x) { s with heap:=h' }):ck (model prog w) A (lv (.ref I)) Q E s:=by
 unfold lv;refine bj (wpAny_attempt (ix (name:=ox "__next__") (fD hI) F4.slot_si_next (jj F4.slot_si_next (fD hI) F4.entry_si_next ?_ (F4.args_si_next _))));unfold oh.«set_iterator.__next__»;refine bj (m:=slotArgs "__next__" 0 _) (br ?_);refine bj (wpAny_fieldsOf hI rfl ?_);show ck _ _ (setEntries S >>= _) _ _ s;refine bj (ld hS hd hf ?_);rw[cb yv];show ck _ _ (setNext S ((slot:Int).toNat) ((i:Int).toNat) ((ep:Int).toNat) >>= _) _ _ s;rw[gl,gl,gl];refine bj (hn _ _ _ _ hS ?_);refine bj (kl hI yv fun g1 z1 b1=>?_);refine bj (kl (s:={ s with heap:=g1 }) z1 yv fun g2 z2 b2=>?_);refine br ⟨_,rfl,br (hQ g2 ?_ (b1.trans b2))⟩;rw[xV]at z2;exact z2
theorem An{I S:Addr}{o:Obj}{es:Array (Int×bn)}{t:gz}{slot i ep:Nat}{Q:Option bn->bp->Prop}(hh:A.handled=none)(hI:IsSI s.heap I S (oq slot) i es.size ep)(hS:s.heap.get? S=some o)(hd:o.data=.set es ep t)(hf:t.fits es.size=true)
  (hn:∀(A:fq) (Q:Option (bn×Nat)->bp->Prop) (E:bn->bp->Prop) (s:bp),s.heap.get? S=some o->Q none s->ck (model prog w) A (setNext S slot i ep) Q E s)
  (hQ:∀h',(∀b o,b≠I->s.heap.get? b=some o->h'.get? b=some o)->Q none { s with heap:=h' }):ck (model prog w) A (lv (.ref I)) Q E s:=by
 unfold lv;refine bj (wpAny_attempt (ix (name:=ox "__next__") (fD hI) F4.slot_si_next (jj F4.slot_si_next (fD hI) F4.entry_si_next ?_ (F4.args_si_next _))));unfold oh.«set_iterator.__next__»;refine bj (m:=slotArgs "__next__" 0 _) (br ?_);refine bj (wpAny_fieldsOf hI rfl ?_);show ck _ _ (setEntries S >>= _) _ _ s;refine bj (ld hS hd hf ?_);rw[cb yv];show ck _ _ (setNext S ((slot:Int).toNat) ((i:Int).toNat) ((ep:Int).toNat) >>= _) _ _ s;rw[gl,gl,gl];refine bj (hn _ _ _ _ hS ?_);refine bj (kl hI yv fun g1 z1 b1=>?_);refine xW (s:={ s with heap:=g1 }) hh fun h' e kp ⟨oe,e1,e2⟩=>?_;refine bj (lq (T:="StopIteration") (b:=true) ⟨oe,e1,e2⟩ isSubtype_stop ?_);exact br (hQ _ fun b ob nb eb=>kp b ob (b1.extBut b ob nb eb))
theorem Cz{I S T:Addr}{o:Obj}{es:Array (Int×bn)}{t:gz}{i ep p:Nat}{ps:Array bn}{x:Int×bn}{Q:Option bn->bp->Prop}(hI:IsSI s.heap I S (.ref T) i es.size ep)(hS:s.heap.get? S=some o)(hd:o.data=.set es ep t)(hf:t.fits es.size=true)
  (hT:IsT s.heap T ps) (hp:ps[i]?=some (oq p)) (hx:es[p]?=some x)
  (hQ:∀h',IsSI h' I S (.ref T) (i+1) es.size ep->jn I s.heap h'->Q (some x.2) { s with heap:=h' }):ck (model prog w) A (lv (.ref I)) Q E s:=by
 unfold lv;refine bj (wpAny_attempt (ix (name:=ox "__next__") (fD hI) F4.slot_si_next (jj F4.slot_si_next (fD hI) F4.entry_si_next ?_ (F4.args_si_next _))));unfold oh.«set_iterator.__next__»;refine bj (m:=slotArgs "__next__" 0 _) (br ?_);refine bj (wpAny_fieldsOf hI rfl ?_);show ck _ _ (setEntries S >>= _) _ _ s;refine bj (ld hS hd hf ?_);rw[cb yv];show ck _ _ (seqItems? (.ref T) >>= _) _ _ s;refine bj (bj (wpAny_load hT (br ?_)));show ck _ _ (match ps[(i:Int).toNat]? with|some (Value.int place _)=>_|some _=>_|none=>_) _ _ s;rw[gl,hp];show ck _ _ (setNextDrawn S ((p:Int).toNat) ((ep:Int).toNat) >>= _) _ _ s;rw[gl,gl];unfold setNextDrawn;refine bj (bj (ky hS hd hf ?_));dsimp only;rw[cb yv,hx];refine br ?_;refine bj (kl hI yv fun g1 z1 b1=>?_);refine br ⟨_,rfl,br (hQ g1 ?_ b1)⟩;rw[xV]at z1;exact z1
theorem FY{I S T:Addr}{o:Obj}{es:Array (Int×bn)}{t:gz}{i ep:Nat}{ps:Array bn}{Q:Option bn->bp->Prop}(hh:A.handled=none)(hI:IsSI s.heap I S (.ref T) i es.size ep)(hS:s.heap.get? S=some o)(hd:o.data=.set es ep t)(hf:t.fits es.size=true)
  (hT:IsT s.heap T ps) (hp:ps[i]?=none)
  (hQ:∀h',(∀b o,b≠I->s.heap.get? b=some o->h'.get? b=some o)->Q none { s with heap:=h' }):ck (model prog w) A (lv (.ref I)) Q E s:=by
 unfold lv;refine bj (wpAny_attempt (ix (name:=ox "__next__") (fD hI) F4.slot_si_next (jj F4.slot_si_next (fD hI) F4.entry_si_next ?_ (F4.args_si_next _))));unfold oh.«set_iterator.__next__»;refine bj (m:=slotArgs "__next__" 0 _) (br ?_);refine bj (wpAny_fieldsOf hI rfl ?_);show ck _ _ (setEntries S >>= _) _ _ s;refine bj (ld hS hd hf ?_);rw[cb yv];show ck _ _ (seqItems? (.ref T) >>= _) _ _ s;refine bj (bj (wpAny_load hT (br ?_)));show ck _ _ (match ps[(i:Int).toNat]? with|some (Value.int place _)=>_|some _=>_|none=>_) _ _ s;rw[gl,hp];refine bj (kl hI yv fun g1 z1 b1=>?_);refine bj (kl (s:={ s with heap:=g1 }) z1 yv fun g2 z2 b2=>?_);refine xW (s:={ s with heap:=g2 }) hh fun h' e kp ⟨oe,e1,e2⟩=>?_;refine bj (lq (T:="StopIteration") (b:=true) ⟨oe,e1,e2⟩ isSubtype_stop ?_);exact br (hQ _ fun b ob nb eb=>kp b ob (b2.extBut b ob nb (b1.extBut b ob nb eb)))
end
end
section
section
variable {prog:fe}{w:ft}{A:fq}{E:bn->bp->Prop}{s:bp}
theorem m8{α:Type}{M:Model}{c:Prop}[Decidable c]{a b:Sem α}{Q:α->bp->Prop}(h:¬ c)(q:ck M A b Q E s):ck M A (if c then a else b) Q E s:=by
 rw[cb h];exact q
theorem rG{α:Type}{M:Model}{c:Prop}[Decidable c]{a b:Sem α}{Q:α->bp->Prop}(h:c)(q:ck M A a Q E s):ck M A (if c then a else b) Q E s:=by
 rw[cf h];exact q
theorem t9{S:Addr}{o:Obj}{es:Array (Int×bn)}{t:gz}{slot i ep:Nat}{Q:Option (bn×Nat)->bp->Prop}(hS:s.heap.get? S=some o)(hd:o.data=.set es ep t)(hf:t.fits es.size=true)(hb:w.params.followText "set-order" = true)
  (h:Q ((pickOrder (w.params.setOrder S ep) es)[i]?.map fun e=>(e.2,slot)) s):ck (model prog w) A (setNext S slot i ep) Q E s:=by
 unfold setNext;refine bj (ky hS hd hf (bj (oQ ?_)));rw[hb];dsimp only;rw[cf rfl,cb yv];refine bj ?_;unfold setWalk;refine bj (ky hS hd hf (bj (oQ ?_)));rw[hb,cf rfl];exact bj (wpAny_askSetting (br (br h)))
theorem vC{S:Addr}{o:Obj}{es:Array (Int×bn)}{t:gz}{slot i ep:Nat}{Q:Option (bn×Nat)->bp->Prop}(hS:s.heap.get? S=some o)(hd:o.data=.set es ep t)(hf:t.fits es.size=true)(hb:w.params.followText "set-order" = false)
  (hdr:(!t.plain&&decide (es.size>1))=false) (hl:t.led=true) (hi:kj t.place slot=i)
  (h:Q (match es[i]?,t.place[i]? with|some (_,x),some j=>some (x,j+1)|_,_=>none) s):ck (model prog w) A (setNext S slot i ep) Q E s:=by
 unfold setNext;refine bj (ky hS hd hf (bj (oQ ?_)));rw[hb];dsimp only;rw[cb yv];refine m8 (show ¬((!t.plain&&decide (es.size>1))=true) by rw[hdr];simp) ?_;refine bj ?_;show ck _ _ (if (!t.led&&!es.isEmpty)=true then unsupported "set:maker-not-led" else pure ()) _ _ s;rw[cb (by rw[hl];simp)];refine br ?_;rw[hi];exact br h
structure Wk(prog:fe)(w:ft)(A:fq)(I:Addr)(fp:List Addr)(vs:List bn)(St:Nat->Heap->Prop):Prop where
 mem:I∈fp
 frame:∀i h h',St i h->(∀b∈fp,∀o,h.get? b=some o->h'.get? b=some o)->St i h'
 item:∀i v (s:bp) (Q:Option bn->bp->Prop) (E:bn->bp->Prop),vs[i]?=some v->St i s.heap->(∀h',St (i+1) h'->(∀b o,b≠I->s.heap.get? b=some o->h'.get? b=some o)->Q (some v) { s with heap:=h' })->ck (model prog w) A (lv (.ref I)) Q E s
 done:∀(s:bp) (Q:Option bn->bp->Prop) (E:bn->bp->Prop),St vs.length s.heap->(∀h',(∀b o,b≠I->s.heap.get? b=some o->h'.get? b=some o)->Q none { s with heap:=h' })->ck (model prog w) A (lv (.ref I)) Q E s
theorem F2{R:Result->bp->Prop}{I:Addr}{fp:List Addr}{vs:List bn}{St:Nat->Heap->Prop}(W:Wk prog w A.in1 I fp vs St)(hn:vs.length<=1000)(S:Addr)(ab:S∉fp)(res:bn):
  ∀(m i:Nat) (s:bp) (acc:Array bn) (c:Nat),vs.length-i=m->i<=vs.length->St i s.heap->s.heap.get? S=some (im "list" acc c)->acc.toList=vs.take i ->
  (∀h' c',(∀b o,b≠S->b≠I->s.heap.get? b=some o->h'.get? b=some o)->h'.get? S=some (im "list" vs.toArray c')->R (.ok (.ret res)) { s with heap:=h' }) ->
  ow (model prog w) A (.builtin "list.extend.loop" ⟨[.ref S,.ref I,res],[]⟩) R s:=by
 have aa:S≠I:=fun e=>ab (e▸W.mem);intro m;induction m with
 |zero=>
  intro i s acc c hm hi st hS ha hR;obtain rfl:i=vs.length:=yw
  refine gy F.entry_extend_loop ?_;rw[gd F.plain_extend_loop _];show ck _ A.in1 (lv (.ref I) >>= _) _ _ s;refine bj (W.done s _ _ st fun h' kp=>br (hR h' c (fun b o _ nI e=>kp b o nI e) ?_));have:acc=vs.toArray:=by
   rw[take_length]at ha;rw[<- ha]
  rw[<- this];exact kp S _ aa hS
 |succ m ih=>
  intro i s acc c hm hi st hS ha hR;have q:i<vs.length:=yw
  refine gy F.entry_extend_loop ?_;rw[gd F.plain_extend_loop _];show ck _ A.in1 (lv (.ref I) >>= _) _ _ s;refine bj (W.item i vs[i] s _ _ (cp q) st fun h' st' kp=>?_);have z:=kp S _ aa hS;have sz:acc.size=i:=by rw[<- fc,ha,jh];omega
  show ck _ A.in1 (updateSeq S (·.push vs[i]) >>= _) _ _ _;refine bj (wpAny_updateSeq (s:={ s with heap:=h' }) z rfl (br ⟨ke F.plain_extend_loop _,ih (i+1) _ (acc.push vs[i]) _ yw q (W.frame _ h' _ st' fun b hb o e=>?_) (nq _ z rfl) ?_ fun h'' c' ac hS''=>?_⟩)
   (by rw[sz,jg];omega) (by show (acc.push vs[i]).size<=_;rw[Array.size_push,sz,jg];omega))
  ·exact(ic _ _ (fun h:S=b=>ab (by rw[h];exact hb))).trans e
  ·rw[toList_push,ha,List.take_succ_eq_append_getElem q]
  ·exact hR h'' c' (fun b o nS nI e=>ac b o nS nI ((ic _ _ (fun h:S=b=>nS h.symm)).trans (kp b o nI e))) hS''
theorem uE{I S:Addr}{o:Obj}{es:Array (Int×bn)}{t:gz}{ep:Nat}(hh:A.handled=none)(q:S≠I)(hd:o.data=.set es ep t)(hf:t.fits es.size=true)(us:List (Int×bn))(sl:Nat->Nat)
  (hn:∀i e,us[i]?=some e->∀(A:fq) (Q:Option (bn×Nat)->bp->Prop) (E:bn->bp->Prop) (s:bp),s.heap.get? S=some o->Q (some (e.2,sl (i+1))) s->ck (model prog w) A (setNext S (sl i) i ep) Q E s)
  (he:∀(A:fq) (Q:Option (bn×Nat)->bp->Prop) (E:bn->bp->Prop) (s:bp),s.heap.get? S=some o->Q none s->ck (model prog w) A (setNext S (sl us.length) us.length ep) Q E s):
  Wk prog w A I [I,S] (us.map (·.2)) (fun i h=>IsSI h I S (oq (sl i)) i es.size ep/\h.get? S=some o) where
 mem:=by simp
 frame:=fun i h h' ⟨a,b⟩ k=>⟨k I yv _ a,k S yv _ b⟩
 item:=fun i v s Q E hv ⟨a,b⟩ hQ=>by
  rw[gh]at hv;obtain⟨e,he,rfl⟩:=map_eq_some_iff.mp hv;exact CI a b hd hf (hn i e he) fun h' z sb=>hQ h' ⟨z,sb.extBut S _ q b⟩ fun b' o' nb e=>sb.extBut b' o' nb e
 done:=fun s Q E ⟨a,b⟩ hQ=>by
  rw[dj]at a;exact An hh a b hd hf he fun h' kp=>hQ h' kp
theorem DY{I S T:Addr}{o:Obj}{es:Array (Int×bn)}{t:gz}{ep:Nat}(hh:A.handled=none)(aa:S≠I)(ab:T≠I)(hd:o.data=.set es ep t)(hf:t.fits es.size=true)(ps:List Nat)(hp:∀p∈ps,p<es.size):
  Wk prog w A I [I,S,T] (ps.map fun p=>(es.getD p (0,.none)).2) (fun i h=>IsSI h I S (.ref T) i es.size ep/\h.get? S=some o/\IsT h T (ps.map fun p:Nat=>oq p).toArray) where
 mem:=by simp
 frame:=fun i h h' ⟨a,b,c⟩ k=>⟨k I yv _ a,k S yv _ b,k T yv _ c⟩
 item:=fun i v s Q E hv ⟨a,b,c⟩ hQ=>by
  rw[gh]at hv;obtain⟨p,q,rfl⟩:=map_eq_some_iff.mp hv;have lp:=hp p (bq q);have ee:es[p]?=some (es.getD p (0,.none)):=by simp[Array.getD,lp]
  refine Cz a b hd hf c (p:=p) (by simp[q]) ee fun h' z sb=>hQ h' ⟨z,sb.extBut S _ aa b,sb.extBut T _ ab c⟩ fun b' o' nb e=>sb.extBut b' o' nb e
 done:=fun s Q E ⟨a,b,c⟩ hQ=>by
  rw[dj]at a;exact FY hh a b hd hf c yv fun h' kp=>hQ h' kp
end
end
section
def gS(t:gz):Nat->Nat
 | 0=>0
 |i+1=>t.place.getD i 0+1
theorem AB{t:gz}(h:Rise t.place):∀i,i<=t.place.size->kj t.place (gS t i)=i
 | 0,_=>uZ (bel h) ⟨jo _,fun _ _ z=>absurd z (Nat.not_lt_zero _),fun _ _ _ _=>jo _⟩
 |i+1,hi=>by
  have il:i<t.place.size:=yw
  have e:=fk il;have eg:gS t (i+1)=t.place[i]+1:=by simp[gS,Array.getD,il]
  rw[eg];refine uZ (bel h) ⟨hi,fun k x hk ek=>?_,fun k x hk ek=>?_⟩
  ·by_cases z:k=i
   ·subst z;rw[e]at ek;cases ek;omega
   ·have:=h.at (show k<i by omega) ek e;omega
  ·have:=h.at (show i<k by omega) e ek;omega
theorem EO{t:gz}{n:Nat}(h:t.fits n=true):t.place.size=n:=by
 unfold SetTable.fits at h;rw[iy]at h;simpa using h.1
section
variable {prog:fe}{w:ft}{A:fq}{E:bn->bp->Prop}{s:bp}
theorem Co{S:Addr}{o:Obj}{es:Array (Int×bn)}{t:gz}{ep:Nat}{Q:bn->bp->Prop}(hS:s.heap.get? S=some o)(hx:o.ExactSet)(hd:o.data=.set es ep t)(tb:Tab (!w.params.followText "set-order") t es.size)(hz:es.size<100)
  (h:∀I h' d fp us St,s.heap.objs.size<=I->(∀b∈fp,b=S\/s.heap.objs.size<=b)->(∀b o,s.heap.get? b=some o->h'.get? b=some o)->us.Perm (es.toList.map (·.2))->(∀A':fq,A'.handled=none->Wk prog w A' I fp us St)->St 0 h'->Q (.ref I) { s with heap:=h',drawn:=d }):
  ck (model prog w) A (pyIter (.ref S)) Q E s:=by
 have ty:s.TypeIs (.ref S) "set":=⟨o,hS,hx.1⟩;have lt:=ff hS;have ps:=EO tb.fits;refine wpAny_pyIter_slot ty F.slot_set_iter (jj F.slot_set_iter ty F4.entry_set_iter ?_ (F.args_set_iter_1 _));unfold oh.«frozenset.__iter__»;refine bj (m:=Builtin.Frozenset.slot0 "__iter__" _) (br ?_);refine bj (bj (ld hS hd tb.fits (br ?_)));unfold setDrawn;refine bj ?_;refine bj (ky hS hd tb.fits (bj (oQ (br ?_))));show ck _ _ (if (!w.params.followText "set-order" && (!t.plain&&decide (es.size>1)))=true then _ else _) _ _ s;cases hb:w.params.followText "set-order" with
 |true=>
  refine m8 yv (bj (br ?_));refine bj (wpAny_setEpoch_of hS hd tb.fits ?_);refine bj (ga (br ⟨_,rfl,"set_iterator",_,⟨_,cz _ rfl,rfl⟩,F4.slot_si_next.lookup,?_⟩));have hp:=Br (w.params.setOrder S ep) es;refine h _ _ s.drawn [s.heap.objs.size,S] ((pickOrder (w.params.setOrder S ep) es).toList.map (·.2)) _ (cv _) (fun b z=>?_) (fun b o e=>bz _ e) (hp.map _)
   (fun A' hh=>uE hh (fy lt) hd tb.fits (pickOrder (w.params.setOrder S ep) es).toList (fun _=>0) (fun i e hi A Q E s hS q=>t9 hS hd tb.fits hb (by rw[iq]at hi;rw[hi];exact q)) fun A Q E s hS q=>t9 hS hd tb.fits hb (by rw[fc,Array.getElem?_eq_none (cv _)];exact q))
   ⟨cz _ rfl,bz _ hS⟩
  simp only[ji,ie,or_false]at z;exact z.elim (fun e=>.inr (le_of_eq e.symm)) .inl
 |false=>
  have hl:t.led=true:=by rw[tb.led,hb];rfl
  cases hdr:(!t.plain&&decide (es.size>1))with
  |false=>
   refine m8 yv (bj (br ?_));refine bj (wpAny_setEpoch_of hS hd tb.fits ?_);refine bj (ga (br ⟨_,rfl,"set_iterator",_,⟨_,cz _ rfl,rfl⟩,F4.slot_si_next.lookup,?_⟩));refine h _ _ s.drawn [s.heap.objs.size,S] (es.toList.map (·.2)) _ (cv _) (fun b z=>?_) (fun b o e=>bz _ e) (lr _)
    (fun A' hh=>uE hh (fy lt) hd tb.fits es.toList (gS t) (fun i e hi A Q E s hS q=>vC (i:=i) hS hd tb.fits hb hdr hl (AB tb.rise i ?_) ?_) fun A Q E s hS q=>vC hS hd tb.fits hb hdr hl (AB tb.rise _ (by rw[fc];omega)) (by rw[fc,Array.getElem?_eq_none (cv _)];exact q))
    ⟨cz _ rfl,bz _ hS⟩
   ·simp only[ji,ie,or_false]at z;exact z.elim (fun e=>.inr (le_of_eq e.symm)) .inl
   ·have:=(List.getElem?_eq_some_iff.mp hi).1;rw[fc]at this;omega
   ·have il:=(List.getElem?_eq_some_iff.mp hi).1;rw[fc]at il;rw[iq]at hi;have ip:i<t.place.size:=yw
    rw[hi,fk ip];have:gS t (i+1)=t.place[i]+1:=by simp[gS,Array.getD,ip]
    rw[this]at q;exact q
  |true=>
   refine rG yv ?_;refine bj (sT es.size (fu es.size) s _ yv fun d ys hp=>bj (wpAny_newTuple ?_ ?_))
   ·have aa:(s.heap.push { cls:=.type "tuple",data:=.seq (ys.map fun i:Nat=>oq i).toArray }).get? S=some o:=bz _ hS;refine bj (wpAny_setEpoch_of (s:={ s with heap:=s.heap.push { cls:=.type "tuple",data:=.seq (ys.map fun i:Nat=>oq i).toArray },drawn:=d }) aa hd tb.fits ?_);refine bj (ga (br ⟨_,rfl,"set_iterator",_,⟨_,cz _ rfl,rfl⟩,F4.slot_si_next.lookup,?_⟩));have sz:(s.heap.push { cls:=.type "tuple",data:=.seq (ys.map fun i:Nat=>oq i).toArray }).objs.size=s.heap.objs.size+1:=size_push ..;refine h _ _ d [(s.heap.push { cls:=.type "tuple",data:=.seq (ys.map fun i:Nat=>oq i).toArray }).objs.size,S,s.heap.objs.size] (ys.map fun p=>(es.getD p (0,.none)).2) _ (by rw[sz];exact le_succ _) (fun b z=>?_) (fun b o e=>bz _ (bz _ e)) ?_
     (fun A' hh=>DY hh ?_ ?_ hd tb.fits ys fun p m=>?_)
     ⟨cz _ rfl,bz _ aa,bz _ (cz _ rfl)⟩
    ·simp only[ji,ie,or_false]at z;rcases z with e|e|e
     ·exact .inr (by rw[e,sz];exact le_succ _)
     ·exact .inl e
     ·exact .inr (le_of_eq e.symm)
    ·refine(hp.map _).trans ?_;have:(fu es.size).map (fun p=>(es.getD p (0,.none)).2)=es.toList.map (·.2):=by
      refine List.ext_getElem yv fun i h1 h2=>?_;have hi:i<es.size:=by simpa using h1
      simp[Array.getD,hi]
     rw[this]
    ·rw[sz];exact fy (lt_succ_of_lt lt)
    ·rw[sz];exact fy (Nat.lt_succ_self _)
    ·exact mem_range.mp (hp.mem_iff.mp m)
   ·have:=hp.length_eq;rw[List.length_range]at this;rw[dj,jg];omega
end
end
section
namespace F4
theorem len_set:typeLookup (.type "set") "__len__" = pure (some (.builtin "set.__len__")):=by rw[typeLookup_type,builtinLookup_eq_fast];kernel_rfl
end F4
section
variable {prog:fe}{w:ft}{A:fq}{E:bn->bp->Prop}{s:bp}
theorem CP{L:Addr}{c:Nat}{Q:Unit->bp->Prop}(hL:s.heap.get? L=some (im "list" #[] c))(h:∀h' c',jn L s.heap h'->h'.get? L=some (im "list" #[] c')->Q () { s with heap:=h' }):
  ck (model prog w) A (Builtin.List.listTouch (.ref L)) Q E s:=by
 unfold Builtin.List.listTouch;have g1:=oj hL (fun xs=>xs.push .none);refine bj (listUpdate_at hL rfl ?_ (jo _) (by show (#[]:Array bn).size+1<=_;simp));have g2:=oj g1 (fun xs=>xs.pop);refine listUpdate_at (s:={ s with heap:=s.heap.update L (gr fun xs=>xs.push .none) }) g1 rfl ?_ (by simp[jg]) yv;exact h _ _ ((jf ..).trans (jf ..)) g2
theorem Ba{S:Addr}{o:Obj}{es:Array (Int×bn)}{t:gz}{ep:Nat}{Q:List bn->bp->Prop}(hh:A.handled=none)(hS:s.heap.get? S=some o)(hx:o.ExactSet)(hd:o.data=.set es ep t)(tb:Tab (!w.params.followText "set-order") t es.size)(hz:es.size<100)
  (h:∀h' d us,us.Perm (es.toList.map (·.2))->(∀b o,s.heap.get? b=some o->h'.get? b=some o)->Q us { s with heap:=h',drawn:=d }):ck (model prog w) A (collect (.ref S)) Q E s:=by
 have lt:=ff hS;unfold collect;refine bj (wpAny_runValue (gy F.entry_proto_collect ?_));rw[gd F.plain_proto_collect _];show ck _ A.in1 (newList [] >>= fun l=>again (.builtin "list.__iadd__" ⟨[l,.ref S],[]⟩)) _ _ s;refine bj (ga ?_);refine br ⟨ke F.plain_list_iadd _,gy F.entry_list_iadd ?_⟩;rw[gd F.plain_list_iadd _];have hL:(s.heap.push (im "list" #[] 0)).get? s.heap.objs.size=some (im "list" #[] 0):=cz _ rfl;have q:(s.heap.push (im "list" #[] 0)).get? S=some o:=bz _ hS;have sz:(s.heap.push (im "list" #[] 0)).objs.size=s.heap.objs.size+1:=size_push ..;show ck _ A.in1 (Builtin.List.listExtendWith (.ref s.heap.objs.size) (.ref S) (.ref s.heap.objs.size)) _ _ { s with heap:=s.heap.push (im "list" #[] 0) };have ty:Shared.TypeIs { s with heap:=s.heap.push (im "list" #[] 0) } (.ref S) "set":=⟨o,q,hx.1⟩;have sr:Builtin.List.listSameRef (.ref s.heap.objs.size) (.ref S)=false:=by simp[Builtin.List.listSameRef,ne_of_gt lt]
 unfold Builtin.List.listExtendWith;refine bj (wpAny_typeOf ty ?_);rw[cb (by rw[sr];decide)];refine bj (Co (s:={ s with heap:=s.heap.push (im "list" #[] 0) }) q hx hd tb hz fun I h' d fp us St hI ab kp hp W st0=>?_);have aa:Shared.TypeIs { s with heap:=h',drawn:=d } (.ref S) "set":=⟨o,kp S o q,hx.1⟩;refine bj (gx ?_);unfold Builtin.List.listLengthHint;refine bj (wpAny_specialOf aa F4.len_set ?_)
 (generalize hid:("set.__len__":String)=id0;(fail_if_success (clear hid id0));wp_delta;rw[show splitId id0=some ("set","__len__")from by subst hid;decide +kernel];subst hid)
 refine bj (lq (b:=true) aa sub_set_self ?_);refine m8 dz ?_;refine rG (by decide +kernel) ?_;refine bj (wpAny_typeOf aa (br ?_));refine rG (by decide +kernel) ?_;refine bj (jw ?_);have ah:h'.get? s.heap.objs.size=some (im "list" #[] 0):=kp _ _ hL;have nL:s.heap.objs.size∉fp:=fun m=>by
  rcases ab _ m with e|e
  ·exact absurd e (ne_of_gt lt)
  ·have e':s.heap.objs.size+1<=s.heap.objs.size:=by rw[<- sz];exact e
   omega
 refine bj (CP (s:={ s with heap:=h',drawn:=d }) ah fun h2 c2 sb ae=>?_);have W1:=W A.in1 hh;refine br ⟨ke F.plain_extend_loop _,F2 W1 (by rw[hp.length_eq,dj,fc];omega) _ nL _ _ 0 { s with heap:=h2,drawn:=d } #[] c2 rfl (jo _) (W1.frame 0 h' h2 st0 fun b hb ob e=>sb.extBut b ob (fun z=>nL (z▸hb)) e) ae rfl fun h3 c3 af ac=>?_⟩;refine bj (wpAny_load ac ?_);show ck _ _ (pure us.toArray.toList) _ _ _;rw[List.toList_toArray];refine br (h h3 d us hp fun b ob e=>?_);have lb:=ff e;refine af b ob (fy lb) (fun z=>?_) (sb.extBut b ob (fy lb) (kp b ob (bz _ e)));rw[z]at lb;have ag:s.heap.objs.size+1<=I:=by rw[<- sz];exact hI
 exact absurd (lt_trans lb ag) (lg _)
end
end
section
theorem Inv.drw{X:Cx}{ze:List (Addr×Obj)}{σ:St}{H:Hp}{s:bp}(d:Drawn)(I:Inv X ze σ H s):Inv X ze σ H { s with drawn:=d } :=
 I.call (h':=s.heap) (g':=s.gens) (t':=s.toks) (ch:=[]) Un.refl I.hok I.bare (fun _ z=>nomatch z)
theorem BO:gg "set" = some (.type "set"):=by decide +kernel
end
end L2
namespace L2
open PySem PySem.Spec PyProof.Rows
section
abbrev EXD:=Addr->List (Str×bo)->Prop
abbrev PX:=List XV->Sto->RX->EXD->Prop
end
end L2
namespace L2
open PySem PySem.Spec PyProof.Rows
section
def jN(EX:EXD)(C:Addr)(ns:List Str)(da:DA):DS:=fun _ δ S=>da δ S fun xs _=>∃ds,datas xs=some ds/\ds.length=ns.length/\EX C (ns.zip ds)
end
end L2
namespace L2
open PySem PySem.Spec PyProof.Rows
section
abbrev Phi:=List Addr->List Addr->Hp->Prop
class Stb (Φ:Phi):Prop where
 st:∀{h o o':List Addr}{H H':Hp},Φ h o H->Ex o H o' H'->Φ h o' H'
section
variable {E:XK}{EX:EXD}{ta tb te:TE}{da db de:DE}{tl:TA}{dl:DA}{tt tu:TT}{dt du:DT}
def jA(EX:EXD)(m:Nat)(q:PX)(da:DA):DE:=fun δ S R=>da δ S fun xs S1=>∃ds,datas xs=some ds/\ds.length=m/\q (ds.map XV.d) [] (ret0 S1 R) EX
end
def pY(N P:List Str)(sc:Scope):Bool:=decide (sc.kind=.function)&&!sc.isCoroutine&&!sc.isGenerator&&decide N.Nodup&&decide (N.take P.length=P)&&P.all (fun x=>decide (sc.names.lookup x=some .local)||decide (sc.names.lookup x=some .cell))&&sc.names.all fun y=>decide (y.2≠.free)
theorem fsc{N P:List Str}{sc:Scope}(h:pY N P sc=true):FnScope N P sc:=by
 simp only[pY,iy,decide_eq_true_eq,Bool.not_eq_true',all_eq_true,Bool.or_eq_true]at h;obtain⟨⟨⟨⟨⟨⟨h1,h2⟩,h3⟩,h4⟩,h5⟩,h6⟩,h7⟩:=h;exact⟨h1,h2,h3,h4,h5,h6,h7⟩
end
section
section
variable {κ α:Type} [DecidableEq κ]
def lkA(m:List (κ×α))(k:κ):Option α:=(m.find? fun p=>decide (p.1=k)).map (·.2)
def ptA(m:List (κ×α))(k:κ)(v:α):List (κ×α):=if (m.any fun p=>decide (p.1=k))=true then m.map (fun p=>if p.1=k then (p.1,v)else p)else m++[(k,v)]
end
inductive KSg where
 |int|bool|many (s:KSg)|two (s t:KSg)
def KG:KSg->Type
 | .int=>Int
 | .bool=>Bool
 | .many s=>List (KG s)
 | .two s t=>KG s×KG t
instance decKG:(s:KSg)->DecidableEq (KG s)
 | .int=>inferInstanceAs (DecidableEq Int)
 | .bool=>inferInstanceAs (DecidableEq Bool)
 | .many s=>have:=decKG s;inferInstanceAs (DecidableEq (List (KG s)))
 | .two s t=>have:=decKG s;have:=decKG t;inferInstanceAs (DecidableEq (KG s×KG t))
def kdat:(g:KSg)->KG g->bo
 | .int,i=>.int i
 | .bool,b=>.bool b
 | .many g,ks=>.tuple (List.map (kdat g) ks)
 | .two g g',k=>.tuple [kdat g k.1,kdat g' k.2]
inductive DD where
 |k (m:List (Key×bo))
 |t (m:List (List Key×bo))
 |g (g:KSg) (ob:Obj) (m:List (KG g×bo))
def DD.pairs:DD->List (bo×bo)
 | .k m=>m.map fun p=>(kD p.1,p.2)
 | .t m=>m.map fun p=>(.tuple (p.1.map kD),p.2)
 | .g sg _ m=>m.map fun p=>(kdat sg p.1,p.2)
def Bt:bo->Option Key
 | .int i=>some (.inl i)
 | .str x=>some (.inr x)
 |_=>none
abbrev DM:=List (Addr×DD)
def ad(M:DM):List Addr:=M.map (·.1)
section
variable {h o o':List Addr}{H H':Hp}{M:DM}{S:Sto}
def BY(M:DM)(a:Addr)(D:DD):DM:=M.map fun p=>if p.1=a then (a,D)else p
end
end
section
structure DEndsM where
 nx:XE->Sto->DM->Prop
 rt:XV->Sto->DM->Prop
 bk:XE->Sto->DM->Prop:=fun _ _ _=>False
 ct:XE->Sto->DM->Prop:=fun _ _ _=>False
abbrev DSm:=DEndsM->XE->Sto->DM->Prop
def jE(dt:DS):DSm:=fun En δ S M=>dt { nx:=fun δ' S'=>En.nx δ' S' M,rt:=fun x S'=>En.rt x S' M,bk:=fun δ' S'=>En.bk δ' S' M,ct:=fun δ' S'=>En.ct δ' S' M } δ S
def iS(c:DM->DT)(t u:DSm):DSm:=fun En δ S M=>c M δ S fun b S1=>if b=true then t En δ S1 M else u En δ S1 M
def rL(g:DG)(b:DSm):List bo->DSm
 | [],E,δ,S,M=>E.nx δ S M
 |d::ds,E,δ,S,M=>g (.d d) δ S fun δ1 S1=>b { nx:=fun δ2 S2 M2=>rL g b ds E δ2 S2 M2,ct:=fun δ2 S2 M2=>rL g b ds E δ2 S2 M2,bk:=E.nx,rt:=E.rt } δ1 S1 M
def iL(i:DM->DI)(g:DG)(b:DSm):DSm:=fun En δ S M=>i M δ S fun ds S1=>rL g b ds En δ S1 M
end
section
def Ed(a:Addr)(m:List (Key×bo)):XV->XV
 | .o (.ref b)=>if b=a then .d (.dict (DD.pairs (.k m)))else .o (.ref b)
 |x=>x
def j3(f:Bool)(i:Nat)(D0:DD)(b:DSm):DSm:=fun En δ S M=>∀a,a∉ad M->b { nx:=(fun δ' S' M'=>if f=true then (∃M1 m,M'=M1++[(a,.k m)]/\δ'[i]?=some (some (.o (.ref a)))/\En.nx (δ'.map (Option.map (Ed a m))) S' M1)else (∃M1 D,M'=M1++[(a,D)]/\En.nx δ' S' M1)),rt:=(fun x S' M'=>∃M1 D,M'=M1++[(a,D)]/\En.rt x S' M1),bk:=(fun δ' S' M'=>∃M1 D,M'=M1++[(a,D)]/\En.bk δ' S' M1),ct:=(fun δ' S' M'=>∃M1 D,M'=M1++[(a,D)]/\En.ct δ' S' M1) } (δ.set i (some (.o (.ref a)))) S (M++[(a,D0)])
section
variable {E:XK}{EX:EXD}{tb:TS}{db:DSm}{i:Nat}
def jO(dt:DSm):DS:=fun En δ S=>dt { nx:=fun δ' S' _=>En.nx δ' S',rt:=fun x S' _=>En.rt x S',bk:=fun δ' S' _=>En.bk δ' S',ct:=fun δ' S' _=>En.ct δ' S' } δ S []
end
end
end L2
namespace L2
open PySem PySem.Spec PySem.Calls PyProof.Rows
def DD.itemsD(m:List (Key×bo)):List bo:=m.map fun p=>.tuple [kD p.1,p.2]
def i5(e:DE):DI:=fun δ S R=>e δ S fun x S1=>∃m,x=.d (.dict (DD.pairs (.k m)))/\R (DD.itemsD m) S1
end L2
namespace L2
open PySem PyProof.Rows
def vQ:Bool->cg->Array cg->Nat->Nat->Nat->StateT fg Sem (Option Nat):=sortPriv% PySem.Builtin.gallop
def Ab:Array cg->Array cg->StateT fg Sem (Array cg):=sortPriv% PySem.Builtin.mergeLo
def Bp:Array cg->Array cg->StateT fg Sem (Array cg):=sortPriv% PySem.Builtin.mergeHi
structure LtOk(prog:fe)(w:ft)(A:fq)(E:bn->bp->Prop)(s:bp)(kd:oy)(D:cg->Prop)(lt:cg->cg->Bool):Prop where
 ask:∀x y (st:fg) (Q:Option Bool->fg->Prop),D x->D y->kindOf st=kd->Q (some (lt x y)) st->wpS (model prog w) A E s (lt' x y) Q st
 asym:∀x y,D x->D y->lt x y=true->lt y x=false
 tr:∀x y z,D x->D y->D z->lt y x=false->lt z y=false->lt z x=false
section
variable {prog:fe}{w:ft}{A:fq}{E:bn->bp->Prop}{s:bp}{kd:oy}{D:cg->Prop}{lt:cg->cg->Bool}
theorem zq{z:Array cg}{i:Nat}{x:cg}{Q:cg->fg->Prop}{st:fg}(h:z[i]?=some x)(q:Q x st):wpS (model prog w) A E s (elem' z i) Q st:=by
 rw[elem'_eq,h];exact bw q
def bey(lt:cg->cg->Bool)(left:Bool)(key x:cg):Bool:=if left=true then lt x key else !lt key x
theorem i4(O:LtOk prog w A E s kd D lt){left:Bool}{key x:cg}{z:Array cg}{i:Nat}{Q:Option Bool->fg->Prop}{st:fg}(hk:kindOf st=kd)(hD:D key)(hg:z[i]?=some x)(hx:D x)(q:Q (some (bey lt left key x)) st):
  wpS (model prog w) A E s (do
   let y <- elem' z i
   if left=true then lt' y key
    else do
     let r <- lt' key y
     pure (Option.map (fun b=>!b) r)) Q st:=by
 refine bu (zq hg ?_);unfold bey at q;by_cases h:left=true
 ·rw[cf h]at q ⊢;exact O.ask _ _ _ _ hx hD hk q
 ·rw[cb h]at q ⊢;exact bu (O.ask _ _ _ _ hD hx hk (bw q))
theorem tO{n:Nat}{p:Nat->Bool}{α:Type}{f:Nat->Option α×Nat×Nat->StateT fg Sem (ForInStep (Option α×Nat×Nat))}{Q:Option α×Nat×Nat->fg->Prop}{st:fg}
  (hf:∀x lo hi (Q':ForInStep (Option α×Nat×Nat)->fg->Prop),hi<=n->(hi<=lo->Q' (.done (none,lo,hi)) st)->(lo<hi->p (lo+(hi-lo)/2)=true->Q' (.yield (none,lo+(hi-lo)/2+1,hi)) st) ->
   (lo<hi->p (lo+(hi-lo)/2)=false->Q' (.yield (none,lo,lo+(hi-lo)/2)) st)->wpS (model prog w) A E s (f x (none,lo,hi)) Q' st)
  (hmono:∀i j,i<=j->j<n->p j=true->p i=true) {lo hi:Nat} (h1:lo<=hi) (h2:hi<=n) (h3:∀i,i<lo->p i=true) (h4:∀i,hi<=i->i<n->p i=false)
  (q:∀k,k<=n->(∀i,i<k->p i=true)->(∀i,k<=i->i<n->p i=false)->Q (none,k,k) st):wpS (model prog w) A E s (forIn [:n] (none,lo,hi) f) Q st:=by
 refine fm (I:=fun k c st'=>st'=st/\∃lo hi,c=(none,lo,hi)/\lo<=hi/\hi<=n/\hi-lo+k<=n/\(∀i,i<lo->p i=true)/\∀i,hi<=i->i<n->p i=false) ?step ?fin ⟨rfl,lo,hi,rfl,h1,h2,yw,h3,h4⟩
 case fin=>
  rintro c st' ⟨rfl,lo,hi,rfl,a1,a2,a3,a4,a5⟩;have:lo=hi:=yw
  subst this;exact q lo a2 a4 a5
 case step=>
  rintro k c st' _ ae ⟨rfl,lo,hi,rfl,a1,a2,a3,a4,a5⟩;refine hf k lo hi _ a2 (fun ac=>?_) (fun ab hp=>?_) fun ab hp=>?_
  ·have:lo=hi:=yw
   subst this;exact q lo a2 a4 a5
  ·refine⟨rfl,_,_,rfl,yw,a2,yw,fun i z=>?_,a5⟩;exact hmono i (lo+(hi-lo)/2) yw yw hp
  ·refine⟨rfl,_,_,rfl,yw,yw,yw,a4,fun i z aa=>?_⟩;cases hpi:p i with
   |false=>rfl
   |true=>rw[hmono (lo+(hi-lo)/2) i z aa hpi]at hp;cases hp
theorem Cr(O:LtOk prog w A E s kd D lt){left:Bool}{key:cg}{ae:Array cg}{base n hint:Nat}{Q:Option Nat->fg->Prop}{st:fg}(hk:kindOf st=kd)(hD:D key)(g:Nat->cg)(hg:∀i,i<n->ae[base+i]?=some (g i))(aa:∀i,i<n->D (g i))
  (hmono:∀i j,i<=j->j<n->bey lt left key (g j)=true->bey lt left key (g i)=true) (hh:hint<n)
  (q:∀k,k<=n->(∀i,i<k->bey lt left key (g i)=true)->(∀i,k<=i->i<n->bey lt left key (g i)=false)->Q (some k) st):wpS (model prog w) A E s (vQ left key ae base n hint) Q st:=by
 have ac:∀i j,i<=j->j<n->bey lt left key (g i)=false->bey lt left key (g j)=false:=fun i j h1 h2 h3=>by
  cases h:bey lt left key (g j)with
  |false=>rfl
  |true=>rw[hmono i j h1 h2 h]at h3;cases h3
 refine bu (i4 O hk hD (hg hint hh) (aa hint hh) ?_);cases hb:bey lt left key (g hint)with
 |true=>
  simp only[if_true];refine bu (iz (fm (I:=fun k c st'=>st'=st/\∃la z,c=(none,la,z)/\la<z/\k+1<=z/\hint+la<n/\bey lt left key (g (hint+la))=true)
   (Q:=fun c st'=>st'=st/\∃la z,c=(none,la,z)/\la<z/\hint+la<n/\bey lt left key (g (hint+la))=true/\(n-hint<=z\/(hint+z<n/\bey lt left key (g (hint+z))=false))) ?step ?fin ⟨rfl,0,1,rfl,yw,yw,yw,hb⟩) ?post)
  case step=>
   rintro k c st' _ af ⟨rfl,la,z,rfl,h1,h2,h3,h4⟩;by_cases ho:z≥n-hint
   ·rw[cf ho];exact bw ⟨rfl,la,z,rfl,h1,h3,h4,.inl ho⟩
   ·rw[cb ho];have hn:hint+z<n:=yw
    refine bu (i4 O hk hD (hg _ hn) (aa _ hn) ?_);cases hb2:bey lt left key (g (hint+z))with
    |true=>exact bw ⟨rfl,z,2*z+1,rfl,yw,yw,hn,hb2⟩
    |false=>exact bw ⟨rfl,la,z,rfl,h1,h3,h4,.inr ⟨hn,hb2⟩⟩
  case fin=>
   rintro c st' ⟨rfl,la,z,rfl,h1,h2,h3,h4⟩;exact⟨rfl,la,z,rfl,h1,h3,h4,.inl yw⟩
  case post=>
   rintro c st' ⟨rfl,la,z,rfl,h1,h3,h4,h5⟩;dsimp only;refine bu (tO (p:=fun i=>bey lt left key (g i)) ?hf hmono yw yw (fun i hi=>hmono i (hint+la) yw h3 h4) (fun i hi ab=>?_) fun k k1 k2 k3=>?_)
   case hf=>
    intro x lo hi Q' hn e1 e2 e3;by_cases ho:lo≥hi
    ·rw[cf ho];exact bw (e1 ho)
    ·rw[cb ho];have hm:lo+(hi-lo)/2<n:=yw
     refine bu (i4 O hk hD (hg _ hm) (aa _ hm) ?_);dsimp only;cases hb2:bey lt left key (g (lo+(hi-lo)/2))with
     |true=>exact bw (e2 yw hb2)
     |false=>exact bw (e3 yw hb2)
   ·rcases h5 with h5|⟨h5,h6⟩
    ·omega
    ·exact ac (hint+z) i yw ab h6
   ·exact bw (q k k1 k2 k3)
 |false=>
  simp only[cw,if_false];refine bu (iz (fm (I:=fun k c st'=>st'=st/\∃la z,c=(none,la,z)/\la<z/\k+1<=z/\la<=hint/\bey lt left key (g (hint-la))=false)
   (Q:=fun c st'=>st'=st/\∃la z,c=(none,la,z)/\la<z/\la<=hint/\bey lt left key (g (hint-la))=false/\(hint+1<=z\/(z<=hint/\bey lt left key (g (hint-z))=true))) ?step ?fin ⟨rfl,0,1,rfl,yw,yw,yw,hb⟩) ?post)
  case step=>
   rintro k c st' _ af ⟨rfl,la,z,rfl,h1,h2,h3,h4⟩;by_cases ho:z≥hint+1
   ·rw[cf ho];exact bw ⟨rfl,la,z,rfl,h1,h3,h4,.inl ho⟩
   ·rw[cb ho];have hn:hint-z<n:=yw
    refine bu (i4 O hk hD (hg _ hn) (aa _ hn) ?_);cases hb2:bey lt left key (g (hint-z))with
    |true=>exact bw ⟨rfl,la,z,rfl,h1,h3,h4,.inr ⟨yw,hb2⟩⟩
    |false=>exact bw ⟨rfl,z,2*z+1,rfl,yw,yw,yw,hb2⟩
  case fin=>
   rintro c st' ⟨rfl,la,z,rfl,h1,h2,h3,h4⟩;exact⟨rfl,la,z,rfl,h1,h3,h4,.inl yw⟩
  case post=>
   rintro c st' ⟨rfl,la,z,rfl,h1,h3,h4,h5⟩;dsimp only;refine bu (tO (p:=fun i=>bey lt left key (g i)) ?hf hmono yw yw (fun i hi=>?_) (fun i hi ab=>ac (hint-la) i yw ab h4) fun k k1 k2 k3=>?_)
   case hf=>
    intro x lo hi Q' hn e1 e2 e3;by_cases ho:lo≥hi
    ·rw[cf ho];exact bw (e1 ho)
    ·rw[cb ho];have hm:lo+(hi-lo)/2<n:=yw
     refine bu (i4 O hk hD (hg _ hm) (aa _ hm) ?_);dsimp only;cases hb2:bey lt left key (g (lo+(hi-lo)/2))with
     |true=>exact bw (e2 yw hb2)
     |false=>exact bw (e3 yw hb2)
   ·rcases h5 with h5|⟨h5,h6⟩
    ·omega
    ·exact hmono i (hint-z) yw yw h6
   ·exact bw (q k k1 k2 k3)
def SrtL(lt:cg->cg->Bool)(l:List cg):Prop:=l.Pairwise fun x y=>lt y x=false
structure MI(lt:cg->cg->Bool)(L0 out A B:List cg):Prop where
 pm:(out++(A++B)).Perm L0
 so:SrtL lt out
 le:∀x∈out,∀y∈A++B,lt y x=false
 sa:SrtL lt A
 sb:SrtL lt B
theorem yZ{l:List cg}{x:cg}(h:SrtL lt l)(k:∀y∈l,lt x y=false):SrtL lt (l++[x]):=by
 unfold SrtL at *;rw[pairwise_append];exact⟨h,yv,fun y m z mz=>by rw[mem_singleton.mp mz];exact k y m⟩
theorem MI.takeA{L0 out A B:List cg}{x:cg}(h:MI lt L0 out (x::A) B)(k:∀y∈B,lt y x=false):MI lt L0 (out++[x]) A B:=by
 have sa:=h.sa;unfold SrtL at sa;rw[pairwise_cons]at sa;refine⟨by rw[io];exact h.pm,yZ h.so fun y m=>h.le y m x yv,fun z mz y my=>?_,sa.2,h.sb⟩;rcases mem_append.mp mz with mz|mz
 ·exact h.le z mz y (by rcases mem_append.mp my with m|m<;>simp[m])
 ·rw[mem_singleton.mp mz];rcases mem_append.mp my with m|m
  ·exact sa.1 y m
  ·exact k y m
theorem MI.takeB{L0 out A B:List cg}{y:cg}(h:MI lt L0 out A (y::B))(k:∀x∈A,lt x y=false):MI lt L0 (out++[y]) A B:=by
 have sb:=h.sb;unfold SrtL at sb;rw[pairwise_cons]at sb;refine⟨?_,yZ h.so fun x m=>h.le x m y yv,fun z mz x mx=>?_,h.sa,sb.2⟩
 ·refine .trans ?_ h.pm;rw[io];refine List.Perm.append_left _ ?_;exact(List.perm_middle (a:=y) (l₁:=A) (l₂:=B)).symm
 ·rcases mem_append.mp mz with mz|mz
  ·exact h.le z mz x (by rcases mem_append.mp mx with m|m<;>simp[m])
  ·rw[mem_singleton.mp mz];rcases mem_append.mp mx with m|m
   ·exact k x m
   ·exact sb.1 x m
theorem MI.takesA{L0:List cg}:∀{X out A B:List cg},MI lt L0 out (X++A) B->(∀x∈X,∀y∈B,lt y x=false)->MI lt L0 (out++X) A B
 | [],out,A,B,h,_=>by simpa using h
 |x::X,out,A,B,h,k=>by
  have:=MI.takesA (MI.takeA h (k x dh)) fun z m=>k z (cr _ m);simpa using this
theorem MI.takesB{L0:List cg}:∀{Y out A B:List cg},MI lt L0 out A (Y++B)->(∀y∈Y,∀x∈A,lt x y=false)->MI lt L0 (out++Y) A B
 | [],out,A,B,h,_=>by simpa using h
 |y::Y,out,A,B,h,k=>by
  have:=MI.takesB (MI.takeB h (k y dh)) fun z m=>k z (cr _ m);simpa using this
def MDone(lt:cg->cg->Bool)(L0 l:List cg):Prop:=l.Perm L0/\SrtL lt l
theorem MI.doneA{L0 out A:List cg}(h:MI lt L0 out A []):MDone lt L0 (out++A):=by
 refine⟨by simpa using h.pm,?_⟩;unfold SrtL;rw[pairwise_append];exact⟨h.so,h.sa,fun x m y m'=>h.le x m y (by simpa using m')⟩
theorem MI.lastA{L0 out B:List cg}{x:cg}(h:MI lt L0 out [x] B)(k:∀y∈B,lt x y=false):MDone lt L0 (out++B++[x]):=by
 have h2:MI lt L0 (out++B) [x] []:=MI.takesB (B:=[]) (by simpa using h) fun y m z mz=>by rw[mem_singleton.mp mz];exact k y m
 exact h2.doneA
def sameSt(st st':fg):Prop:=kindOf st'=kindOf st/\bx st'=bx st/\cj st'=cj st/\ny st'=ny st
theorem sameSt.rfl'{st:fg}:sameSt st st:=⟨rfl,rfl,rfl,rfl⟩
theorem LtOk.irr(O:LtOk prog w A E s kd D lt){x:cg}(h:D x):lt x x=false:=by
 cases e:lt x x with
 |false=>rfl
 |true=>rw[O.asym x x h h e]at e;cases e
theorem bO(O:LtOk prog w A E s kd D lt){l:List cg}(h:SrtL lt l)(hD:∀x∈l,D x){i j:Nat}{x y:cg}(ij:i<=j)(hx:l[i]?=some x)(hy:l[j]?=some y):lt y x=false:=by
 rcases Nat.lt_or_eq_of_le ij with h1|h1
 ·obtain⟨hi,ex⟩:=List.getElem?_eq_some_iff.mp hx;obtain⟨hj,ey⟩:=List.getElem?_eq_some_iff.mp hy;have:=List.pairwise_iff_getElem.mp h i j hi hj h1;rw[ex,ey]at this;exact this
 ·subst h1;rw[hx]at hy;cases hy;exact O.irr (hD x (bq hx))
theorem g8{l:List cg}{i:Nat}{x:cg}(h:l[i]?=some x):l.drop i=x::l.drop (i+1):=by
 obtain⟨hi,e⟩:=List.getElem?_eq_some_iff.mp h;rw[List.drop_eq_getElem_cons hi,e]
theorem bI{a:Array cg}{i:Nat}(h:i<a.size):∃x,a[i]?=some x/\a.toList[i]?=some x:=⟨a[i],by simp[h],by simp[h]⟩
theorem zX{l:List cg}{i:Nat}{y:cg}(h:y∈l.drop i):∃j,i<=j/\l[j]?=some y:=by
 obtain⟨j,hj⟩:=mem_iff_getElem?.mp h;rw[nv]at hj;exact⟨i+j,yw,hj⟩
structure MInv(lt:cg->cg->Bool)(a b out:Array cg)(ia ib:Nat):Prop where
 mi:MI lt (a.toList++b.toList) out.toList (a.toList.drop ia) (b.toList.drop ib)
 ha:ia+1<a.size
 hb:ib<b.size
section
variable {a b out:Array cg}{ia ib:Nat}
theorem MInv.stepB(O:LtOk prog w A E s kd D lt)(q:∀x∈a.toList,D x)(aa:∀x∈b.toList,D x)(ab:SrtL lt a.toList){x y:cg}(h:MInv lt a b out ia ib)(hx:a.toList[ia]?=some x)(hy:b.toList[ib]?=some y)(l:lt y x=true):
  MI lt (a.toList++b.toList) (out.push y).toList (a.toList.drop ia) (b.toList.drop (ib+1)):=by
 have m:=h.mi;rw[g8 hy]at m;have:=m.takeB fun z mz=>by
  obtain⟨j,hj,ez⟩:=zX mz;have Dx:=q x (bq hx);have Dy:=aa y (bq hy);have Dz:=q z (bq ez);exact O.tr y x z Dy Dx Dz (O.asym y x Dy Dx l) (bO O ab q hj hx ez)
 simpa using this
theorem MInv.stepA(O:LtOk prog w A E s kd D lt)(ab:∀x∈a.toList,D x)(q:∀x∈b.toList,D x)(aa:SrtL lt b.toList){x y:cg}(h:MInv lt a b out ia ib)(hx:a.toList[ia]?=some x)(hy:b.toList[ib]?=some y)(l:lt y x=false):
  MI lt (a.toList++b.toList) (out.push x).toList (a.toList.drop (ia+1)) (b.toList.drop ib):=by
 have m:=h.mi;rw[g8 hx]at m;have:=m.takeA fun z mz=>by
  obtain⟨j,hj,ez⟩:=zX mz;exact O.tr x y z (ab x (bq hx)) (q y (bq hy)) (q z (bq ez)) l (bO O aa q hj hy ez)
 simpa using this
theorem g9(a:Array cg)(i:Nat):(a.extract i a.size).toList=a.toList.drop i:=by
 rw[km,gu,jv yv]
theorem iK(q:ib=b.size)(m:MI lt (a.toList++b.toList) out.toList (a.toList.drop ia) (b.toList.drop ib)):MDone lt (a.toList++b.toList) (out++a.extract ia a.size++b.extract ib b.size).toList:=by
 have e:b.toList.drop ib=[]:=List.drop_of_length_le (by simp[q]);rw[gf,gf,g9,g9,e,jb];rw[e]at m;exact m.doneA
theorem BC(q:ia=a.size)(m:MI lt (a.toList++b.toList) out.toList (a.toList.drop ia) (b.toList.drop ib)):MDone lt (a.toList++b.toList) (out++a.extract ia a.size++b.extract ib b.size).toList:=by
 have e:a.toList.drop ia=[]:=List.drop_of_length_le (by simp[q]);rw[gf,gf,g9,g9,e,jb];rw[e]at m;have h2:MI lt (a.toList++b.toList) (out.toList++b.toList.drop ib) [] []:=MI.takesB (B:=[]) (by simpa using m) (fun y my x mx=>by cases mx);have:=h2.doneA;simpa using this
theorem gI(hl:∀x,a[a.size-1]?=some x->∀y∈b.toList,lt x y=false)(h1:ia+1=a.size)(m:MI lt (a.toList++b.toList) out.toList (a.toList.drop ia) (b.toList.drop ib)):MDone lt (a.toList++b.toList) (out++b.extract ib b.size++a.extract ia a.size).toList:=by
 obtain⟨x,e1,e2⟩:=bI (a:=a) (i:=ia) yw;have ed:a.toList.drop ia=[x]:=by
  rw[g8 e2,List.drop_of_length_le (by simp;omega)]
 rw[ed]at m;have hx:=hl x (by rw[show a.size-1=ia by omega];exact e1);have:=m.lastA fun y my=>hx y (mem_of_mem_drop my);rw[gf,gf,g9,g9,ed];exact this
end
theorem gal(O:LtOk prog w A E s kd D lt){left:Bool}{key:cg}{z:Array cg}{base n hint:Nat}{Q:Option Nat->fg->Prop}{st:fg}(hk:kindOf st=kd)(Dk:D key)(hD:∀j,base<=j->j<base+n->∃x,z[j]?=some x/\D x)
  (hs:∀i j x y,base<=i->i<=j->j<base+n->z[i]?=some x->z[j]?=some y->lt y x=false) (hh:hint<n)
  (q:∀k,k<=n->(∀j x,base<=j->j<base+k->z[j]?=some x->bey lt left key x=true)->(∀j x,base+k<=j->j<base+n->z[j]?=some x->bey lt left key x=false)->Q (some k) st):wpS (model prog w) A E s (vQ left key z base n hint) Q st:=by
 have hg:∀i,i<n->z[base+i]?=some ((z[base+i]?).getD key):=fun i hi=>by
  obtain⟨x,e,_⟩:=hD (base+i) yw yw;rw[e];rfl
 have aa:∀i,i<n->D ((z[base+i]?).getD key):=fun i hi=>by
  obtain⟨x,e,d⟩:=hD (base+i) yw yw;rw[e];exact d
 refine Cr O hk Dk (fun i=>(z[base+i]?).getD key) hg aa (fun i j ac hj hb=>?_) hh fun k k1 k2 k3=>q k k1 (fun j x h1 h2 e=>?_) fun j x h1 h2 e=>?_
 ·have s1:=hs (base+i) (base+j) _ _ yw yw yw (hg i yw) (hg j hj);have Di:=aa i yw;have Dj:=aa j hj
  try dsimp only at hb ⊢
  generalize (z[base+i]?).getD key=x at s1 Di ⊢;generalize (z[base+j]?).getD key=y at s1 Dj hb;cases left with
  |true=>
   unfold bey at hb ⊢;rw[cf rfl]at hb ⊢;cases hx:lt x key with
   |true=>rfl
   |false=>rw[O.tr key x y Dk Di Dj hx s1]at hb;cases hb
  |false=>
   unfold bey at hb ⊢;rw[cb dz]at hb ⊢;have ab:lt key y=false:=by simpa using hb
   rw[O.tr x y key Di Dj Dk s1 ab];rfl
 ·have:=k2 (j-base) yw
  try dsimp only at this
  rw[show base+(j-base)=j by omega,e]at this;exact this
 ·have:=k3 (j-base) yw yw
  try dsimp only at this
  rw[show base+(j-base)=j by omega,e]at this;exact this
theorem rF{a:Array cg}{i k:Nat}:(a.extract i (i+k)).toList=(a.toList.drop i).take k:=by
 rw[km,gu,Nat.add_sub_cancel_left]
theorem oV{l:List cg}{i k:Nat}{x:cg}(h:x∈(l.drop i).take k):∃j,i<=j/\j<i+k/\l[j]?=some x:=by
 obtain⟨j,hj⟩:=mem_iff_getElem?.mp h;rw[nu]at hj;split at hj
 ·rw[nv]at hj;exact⟨i+j,yw,yw,hj⟩
 ·cases hj
theorem gQ(a:Array cg)(i:Nat):a.extract i (i+0) = #[]:=by
 apply Array.toList_inj.mp;rw[rF,take_zero]
section
variable {a b out:Array cg}{ia ib k:Nat}{L0:List cg}
theorem Ek(m:MI lt L0 out.toList (a.toList.drop ia) (b.toList.drop ib))(h:∀j x,ia<=j->j<ia+k->a.toList[j]?=some x->∀y∈b.toList.drop ib,lt y x=false):MI lt L0 (out++a.extract ia (ia+k)).toList (a.toList.drop (ia+k)) (b.toList.drop ib):=by
 rw[gf,rF];refine MI.takesA ?_ fun x mx y my=>?_
 ·rw[<- List.drop_drop,jk];exact m
 ·obtain⟨j,h1,h2,e⟩:=oV mx;exact h j x h1 h2 e y my
theorem v0(m:MI lt L0 out.toList (a.toList.drop ia) (b.toList.drop ib))(h:∀j y,ib<=j->j<ib+k->b.toList[j]?=some y->∀x∈a.toList.drop ia,lt x y=false):MI lt L0 (out++b.extract ib (ib+k)).toList (a.toList.drop ia) (b.toList.drop (ib+k)):=by
 rw[gf,rF];refine MI.takesB ?_ fun x mx y my=>?_
 ·rw[<- List.drop_drop,jk];exact m
 ·obtain⟨j,h1,h2,e⟩:=oV mx;exact h j x h1 h2 e y my
theorem nQ(m:MI lt L0 out.toList (a.toList.drop ia) (b.toList.drop ib)){x:cg}(hx:a.toList[ia]?=some x)(h:∀y∈b.toList.drop ib,lt y x=false):MI lt L0 (out.push x).toList (a.toList.drop (ia+1)) (b.toList.drop ib):=by
 rw[g8 hx]at m;have:=m.takeA h;simpa using this
theorem wT(m:MI lt L0 out.toList (a.toList.drop ia) (b.toList.drop ib)){y:cg}(hy:b.toList[ib]?=some y)(h:∀x∈a.toList.drop ia,lt x y=false):MI lt L0 (out.push y).toList (a.toList.drop ia) (b.toList.drop (ib+1)):=by
 rw[g8 hy]at m;have:=m.takeB h;simpa using this
end
theorem zO{a:Array cg}{i:Nat}{x:cg}:a[i]?=some x↔a.toList[i]?=some x:=by simp
theorem fin3{prog:fe}{w:ft}{A:fq}{E:bn->bp->Prop}{s:bp}{τ:Type}{P C:Prop}{_:Decidable P}{f g:StateT fg Sem τ}{Q':τ->fg->Prop}{st':fg}(hf:C->wpS (model prog w) A E s f Q' st')(hg:C->wpS (model prog w) A E s g Q' st')(h:C):wpS (model prog w) A E s (if P then f else g) Q' st':=by
 split
 ·exact hf h
 ·exact hg h
theorem C4(O:LtOk prog w A E s kd D lt){a b:Array cg}{Q:Array cg->fg->Prop}{st:fg}(hk:kindOf st=kd)(ay:∀x∈a.toList,D x)(a0:∀x∈b.toList,D x)(ha:SrtL lt a.toList)(hb:SrtL lt b.toList)(aa:1<=a.size)(ab:1<=b.size)
  (h0:∀y,b[0]?=some y->∀x∈a.toList,lt x y=false) (hl:∀x,a[a.size-1]?=some x->∀y∈b.toList,lt x y=false)
  (q:∀(out:Array cg) st',MDone lt (a.toList++b.toList) out.toList->sameSt st st'->Q out st'):wpS (model prog w) A E s (Ab a b) Q st:=by
 refine bu (wpS_lift (jw ⟨rfl,?_⟩));obtain⟨y0,bg,bh⟩:=bI (a:=b) (i:=0) (by clear aa;omega);refine bu (zq bg ?_);have m0:MI lt (a.toList++b.toList) [] a.toList b.toList:=⟨lr _,List.Pairwise.nil,(fun x m=>by cases m),ha,hb⟩;have m1:MI lt (a.toList++b.toList) (#[y0]:Array cg).toList (a.toList.drop 0) (b.toList.drop 1):=by
  have e:b.toList=y0::b.toList.drop 1:=by have:=g8 bh;simpa using this
  have m2:MI lt (a.toList++b.toList) [] a.toList (y0::b.toList.drop 1):=by
   have:=m0
   conv at this=>arg 5;rw[e]
   exact this
  have:=m2.takeB (h0 y0 bg);simpa using this
 by_cases c1:1=b.size
 ·rw[cf (by simpa using c1)];exact bw (q _ _ (iK c1 m1) sameSt.rfl')
 rw[cb (by simpa using c1)];by_cases c2:0+1=a.size
 ·rw[cf (by simpa using c2)];exact bw (q _ _ (gI hl c2 m1) sameSt.rfl')
 rw[cb (by simpa using c2)];refine bu (ol ?_);have be:∀{out:Array cg}{ia ib:Nat},MInv lt a b out ia ib->ia+ib<a.size+b.size:=fun h=>by have:=h.ha;have:=h.hb;(clear c2 c1 ab aa;omega)
 refine bu (iz (fm
  (I:=fun k c st'=>sameSt st st'/\∃out ia ib mg,c=(none,out,ia,ib,mg)/\MInv lt a b out ia ib/\k<ia+ib)
  (Q:=fun c st'=>sameSt st st'/\∃r rest,c=(some r,rest)/\MDone lt (a.toList++b.toList) r.toList) ?step ?fin ⟨sameSt.rfl',#[y0],0,1,_,rfl,⟨m1,by clear c1 ab;omega,by clear c2 aa;omega⟩,by clear c2 c1 ab aa;omega⟩) ?post)
 case fin=>
  rintro c st' ⟨a8,out,ia,ib,mg,rfl,hm,ae⟩;have:=be hm
  (clear c2 c1 ab aa;omega)
 case post=>
  rintro c st' ⟨a8,r,rest,rfl,hd⟩;exact bw (q r st' hd a8)
 case step=>
  rintro k c st' _ af ⟨a8,out,ia,ib,mg,rfl,hm,ae⟩;refine bu (iz (fm
   (I:=fun j c st'=>sameSt st st'/\∃av ar aq ac bc,c=(none,av,ar,aq,ac,bc)/\MInv lt a b av ar aq/\j+(ia+ib)<=ar+aq)
   (Q:=fun c st'=>sameSt st st'/\((∃r rest,c=(some r,rest)/\MDone lt (a.toList++b.toList) r.toList)\/∃av ar aq ac bc,c=(none,av,ar,aq,ac,bc)/\MInv lt a b av ar aq/\ia+ib<ar+aq)) ?step1 ?fin1 ⟨a8,out,ia,ib,0,0,rfl,hm,by clear ae af c2 c1 ab aa;omega⟩) ?post1)
  case fin1=>
   rintro c a9 ⟨as,av,ar,aq,ac,bc,rfl,az,ah⟩;have:=be az
   (clear ae af c2 c1 ab aa;omega)
  case step1=>
   rintro j c a9 _ hj ⟨as,av,ar,aq,ac,bc,rfl,az,ah⟩;obtain⟨y,ey,a3⟩:=bI (a:=b) (i:=aq) az.hb;obtain⟨x,ex,ex'⟩:=bI (a:=a) (i:=ar) (by have:=az.ha;(clear ah hj ae af c2 c1 ab aa;omega));have Dx:=ay x (bq ex');have Dy:=a0 y (bq a3);have am:kindOf a9=kd:=as.1.trans hk;refine bu (zq ey (bu (zq ex (bu (O.ask y x a9 _ Dy Dx am ?_)))));cases hlt2:lt y x with
   |true=>
    have ms:=az.stepB O ay a0 ha ex' a3 hlt2;simp only[if_true];refine bu (zq ey ?_);by_cases c3:aq+1=b.size
    ·rw[cf (by simpa using c3)];exact bw ⟨as,.inl ⟨_,_,rfl,iK c3 ms⟩⟩
    ·rw[cb (by simpa using c3)];have ax:MInv lt a b (av.push y) ar (aq+1):=⟨ms,az.ha,by have:=az.hb;(clear ah hj ae af c2 c1 ab aa;omega)⟩;by_cases c4:bc+1≥mg
     ·rw[cf c4];exact bw ⟨as,.inr ⟨_,_,_,_,_,rfl,ax,by clear c4 c3 hj ae af c2 c1 ab aa;omega⟩⟩
     ·rw[cb c4];exact bw ⟨as,_,_,_,_,_,rfl,ax,by clear c4 c3 hj ae af c2 c1 ab aa;omega⟩
   |false=>
    have ms:=az.stepA O ay a0 hb ex' a3 hlt2;simp only[cw,if_false];refine bu (zq ex ?_);by_cases c3:ar+1+1=a.size
    ·rw[cf (by simpa using c3)];exact bw ⟨as,.inl ⟨_,_,rfl,gI hl c3 ms⟩⟩
    ·rw[cb (by simpa using c3)];have ax:MInv lt a b (av.push x) (ar+1) aq:=⟨ms,by have:=az.ha;(clear ah hj ae af c2 c1 ab aa;omega),az.hb⟩;by_cases c4:ac+1≥mg
     ·rw[cf c4];exact bw ⟨as,.inr ⟨_,_,_,_,_,rfl,ax,by clear c4 c3 hj ae af c2 c1 ab aa;omega⟩⟩
     ·rw[cb c4];exact bw ⟨as,_,_,_,_,_,rfl,ax,by clear c4 c3 hj ae af c2 c1 ab aa;omega⟩
  case post1=>
   rintro c a9 ⟨as,hc⟩;rcases hc with ⟨r,rest,rfl,hd⟩|⟨av,ar,aq,ac,bc,rfl,az,ah⟩
   ·dsimp only;exact bw ⟨as,_,_,rfl,hd⟩
   ·dsimp only;refine bu (wpS_lift (jw ⟨rfl,?_⟩));refine bu (iz (fm
     (I:=fun j c st'=>sameSt st st'/\∃ap an ao a2 a5 a6,c=(none,ap,an,ao,a2,a5,a6)/\MInv lt a b ap an ao/\j+(ar+aq)<=an+ao)
     (Q:=fun c st'=>sameSt st st'/\((∃r rest,c=(some r,rest)/\MDone lt (a.toList++b.toList) r.toList)\/∃ap an ao a2 a5 a6,c=(none,ap,an,ao,a2,a5,a6)/\MInv lt a b ap an ao/\ar+aq<=an+ao)) ?step2 ?a1 ⟨as,av,ar,aq,_,_,_,rfl,az,by clear ah ae af c2 c1 ab aa;omega⟩) ?post2)
    case a1=>
     rintro c bf ⟨au,ap,an,ao,a2,a5,a6,rfl,ax,ag⟩;have:=be ax
     (clear ah ae af c2 c1 ab aa;omega)
    case post2=>
     rintro c bf ⟨au,hc⟩;rcases hc with ⟨r,rest,rfl,hd⟩|⟨ap,an,ao,a2,a5,a6,rfl,ax,ag⟩
     ·dsimp only;exact bw ⟨au,_,_,rfl,hd⟩
     ·dsimp only;refine bu (jl (bw ⟨⟨au.1,au.2.1,au.2.2.1,au.2.2.2⟩,ap,an,ao,_,rfl,ax,by clear af c2 c1 ab aa;omega⟩))
    case step2=>
     rintro j c bf _ hj ⟨au,ap,an,ao,a2,a5,a6,rfl,ax,ag⟩;obtain⟨y,ey,a3⟩:=bI (a:=b) (i:=ao) ax.hb;have aj:=ax.ha;have ai:=ax.hb;have Dy:=a0 y (bq a3);have aD:∀j,j<a.size->∃x,a[j]?=some x/\D x:=fun j hj=>by
      obtain⟨x,e,e'⟩:=bI (a:=a) hj;exact⟨x,e,ay x (bq e')⟩
     have bD:∀j,j<b.size->∃x,b[j]?=some x/\D x:=fun j hj=>by
      obtain⟨x,e,e'⟩:=bI (a:=b) hj;exact⟨x,e,a0 x (bq e')⟩
     dsimp only;have a1:∀(P:Prop) (_:Decidable P) (f g:StateT fg Sem (ForInStep (Option (Array cg)×Array cg×Nat×Nat×Nat×Nat×Nat))) (Q':ForInStep (Option (Array cg)×Array cg×Nat×Nat×Nat×Nat×Nat)->fg->Prop) (st':fg),wpS (model prog w) A E s f Q' st'->wpS (model prog w) A E s g Q' st'->wpS (model prog w) A E s (if P then f else g) Q' st':=fun P _ f g Q' st' h1 h2=>by
      split
      ·exact h1
      ·exact h2
     refine fin3 (C:=?C3) ?f3 ?g3 ?h3
     case f3=>intro h;generalize a2-1=m0;revert m0;exact h
     case g3=>intro h;generalize a2=m0;revert m0;exact h
     intro m0
     all_goals
      refine bu (jl ?_);refine bu (zq ey ?_);refine bu (gal O (au.1.trans hk) Dy (fun j h1 h2=>aD j (by clear h1 ai ag hj ah ae af c2 c1 ab aa;omega)) (fun i j x z h1 h2 h3 e1 e2=>bO O ha ay h2 (zO.mp e1) (zO.mp e2)) (by clear ai ag hj ah ae af c2 c1 ab aa;omega) fun k1 ak g1 g2=>?_);dsimp only;have al:sameSt st bf:=au
      have bl:MI lt (a.toList++b.toList) (ap++a.extract an (an+k1)).toList (a.toList.drop (an+k1)) (b.toList.drop ao):=Ek ax.mi fun j x h1 h2 e z mz=>by
       have:=g1 j x h1 h2 (zO.mpr e);obtain⟨j2,aw,ez⟩:=zX mz;have l1:lt y x=false:=by simpa[bey]using this
       exact O.tr x y z (ay x (bq e)) Dy (a0 z (bq ez)) l1 (bO O hb a0 aw a3 ez)
      have gt:∀x∈a.toList.drop (an+k1),lt x y=false:=fun x mx=>by
       obtain⟨j2,aw,ex⟩:=zX mx;have a4:=(List.getElem?_eq_some_iff.mp ex).1;have:=g2 j2 x aw (by simp at a4;(clear aw ak ai aj ag hj ah ae af c2 c1 ab aa;omega)) (zO.mpr ex);have l1:lt y x=true:=by simpa[bey]using this
       exact O.asym y x Dy (ay x (bq ex)) l1
      have bi:k1=0->(ap++a.extract an (an+k1))=ap:=fun z=>by subst z;rw[gQ,Array.append_empty]
      have go:∀(outA:Array cg) (iaA:Nat) (mgA acA:Nat),MI lt (a.toList++b.toList) outA.toList (a.toList.drop iaA) (b.toList.drop ao)->(∀x∈a.toList.drop iaA,lt x y=false)->an<=iaA->iaA+1<a.size->True:=fun _ _ _ _ _ _ _ _=>trivial;by_cases c5:k1>0
      ·rw[cf c5];by_cases c6:an+k1+1=a.size
       ·rw[cf (by simpa using c6)];exact bw ⟨al,.inl ⟨_,_,rfl,gI hl c6 bl⟩⟩
       rw[cb (by simpa using c6)];by_cases c7:an+k1=a.size
       ·rw[cf (by simpa using c7)];exact bw ⟨al,.inl ⟨_,_,rfl,BC c7 bl⟩⟩
       rw[cb (by simpa using c7)];refine bu (zq ey ?_);have mb:=wT bl a3 gt;by_cases d1:ao+1=b.size
       ·rw[cf (by simpa using d1)];exact bw ⟨al,.inl ⟨_,_,rfl,iK d1 mb⟩⟩
       rw[cb (by simpa using d1)];obtain⟨x,ex,ex'⟩:=bI (a:=a) (i:=(an+k1)) (by clear d1 c6 c5 ai ag hj ah ae af c2 c1 ab aa;omega);have Dx:=ay x (bq ex');refine bu (zq ex ?_);refine bu (gal O (au.1.trans hk) Dx (fun j h1 h2=>bD j (by clear h1 d1 c7 c6 c5 ak aj ag hj ah ae af c2 c1 ab aa;omega)) (fun i j x z h1 h2 h3 e1 e2=>bO O hb a0 h2 (zO.mp e1) (zO.mp e2)) (by clear c7 c6 c5 ak aj ag hj ah ae af c2 c1 ab aa;omega) fun k2 am f1 f2=>?_);dsimp only;have bb:=v0 (k:=k2) mb fun j z h1 h2 e x2 ba=>by
        have:=f1 j z h1 h2 (zO.mpr e);obtain⟨j2,aw,a7⟩:=zX ba;have Dz:=a0 z (bq e);have l1:lt z x=true:=by simpa[bey]using this
        exact O.tr z x x2 Dz Dx (ay x2 (bq a7)) (O.asym z x Dz Dx l1) (bO O ha ay aw ex' a7)
       have gb:∀z∈b.toList.drop (ao+1+k2),lt z x=false:=fun z mz=>by
        obtain⟨j2,aw,ez⟩:=zX mz;have a4:=(List.getElem?_eq_some_iff.mp ez).1;have:=f2 j2 z aw (by simp at a4;(clear aw am d1 c7 c6 c5 ak ai aj ag hj ah ae af c2 c1 ab aa;omega)) (zO.mpr ez);simpa[bey]using this
       by_cases d2:k2>0
       ·rw[cf d2];by_cases d3:ao+1+k2=b.size
        ·rw[cf (by simpa using d3)];exact bw ⟨al,.inl ⟨_,_,rfl,iK d3 bb⟩⟩
        rw[cb (by simpa using d3)];refine bu (zq ex ?_);have mf:=nQ bb ex' gb;by_cases d4:(an+k1)+1+1=a.size
        ·rw[cf (by simpa using d4)];exact bw ⟨al,.inl ⟨_,_,rfl,gI hl d4 mf⟩⟩
        rw[cb (by simpa using d4)];refine a1 _ _ _ _ _ _ ?_ ?_
        ·exact bw ⟨al,.inr ⟨_,_,_,_,_,_,rfl,⟨mf,by clear d3 d2 am d1 c5 ai ag hj ah ae af c2 c1 ab aa;omega,by clear d4 d2 d1 c7 c6 c5 ak aj ag hj ah ae af c2 c1 ab aa;omega⟩,by clear d4 d3 d2 am d1 c7 c6 c5 ak ai aj hj ah ae af c2 c1 ab aa;omega⟩⟩
        ·exact bw ⟨al,_,_,_,_,_,_,rfl,⟨mf,by clear d3 d2 am d1 c5 ai ag hj ah ae af c2 c1 ab aa;omega,by clear d4 d2 d1 c7 c6 c5 ak aj ag hj ah ae af c2 c1 ab aa;omega⟩,by clear d4 d3 d2 am d1 c7 c6 c5 ak ai aj hj ah ae af c2 c1 ab aa;omega⟩
       ·rw[cb d2];have bd:k2=0:=by clear am d1 c7 c6 c5 ak ai aj ag hj ah ae af c2 c1 ab aa;omega
        subst bd;have ee:∀o:Array cg,o++b.extract (ao+1) (ao+1+0)=o:=fun o=>by rw[gQ,Array.append_empty]
        rw[ee,pb]at bb;rw[pb]at gb;refine bu (zq ex ?_);have mf:=nQ bb ex' gb;by_cases d4:(an+k1)+1+1=a.size
        ·rw[cf (by simpa using d4)];exact bw ⟨al,.inl ⟨_,_,rfl,gI hl d4 mf⟩⟩
        rw[cb (by simpa using d4)];refine a1 _ _ _ _ _ _ ?_ ?_
        ·exact bw ⟨al,.inr ⟨_,_,_,_,_,_,rfl,⟨mf,by clear d2 am d1 c5 ai ag hj ah ae af c2 c1 ab aa;omega,by clear d4 d2 am c7 c6 c5 ak aj ag hj ah ae af c2 c1 ab aa;omega⟩,by clear d4 d2 am d1 c7 c6 c5 ak ai aj hj ah ae af c2 c1 ab aa;omega⟩⟩
        ·exact bw ⟨al,_,_,_,_,_,_,rfl,⟨mf,by clear d2 am d1 c5 ai ag hj ah ae af c2 c1 ab aa;omega,by clear d4 d2 am c7 c6 c5 ak aj ag hj ah ae af c2 c1 ab aa;omega⟩,by clear d4 d2 am d1 c7 c6 c5 ak ai aj hj ah ae af c2 c1 ab aa;omega⟩
      ·rw[cb c5];have k0:k1=0:=by clear ak ai aj ag hj ah ae af c2 c1 ab aa;omega
       subst k0;rw[bi rfl,pb]at bl;rw[pb]at gt;refine bu (zq ey ?_);have mb:=wT bl a3 gt;by_cases d1:ao+1=b.size
       ·rw[cf (by simpa using d1)];exact bw ⟨al,.inl ⟨_,_,rfl,iK d1 mb⟩⟩
       rw[cb (by simpa using d1)];obtain⟨x,ex,ex'⟩:=bI (a:=a) (i:=an) (by clear d1 c5 ak ai ag hj ah ae af c2 c1 ab aa;omega);have Dx:=ay x (bq ex');refine bu (zq ex ?_);refine bu (gal O (au.1.trans hk) Dx (fun j h1 h2=>bD j (by clear h1 d1 c5 ak aj ag hj ah ae af c2 c1 ab aa;omega)) (fun i j x z h1 h2 h3 e1 e2=>bO O hb a0 h2 (zO.mp e1) (zO.mp e2)) (by clear c5 ak aj ag hj ah ae af c2 c1 ab aa;omega) fun k2 am f1 f2=>?_);dsimp only;have bb:=v0 (k:=k2) mb fun j z h1 h2 e x2 ba=>by
        have:=f1 j z h1 h2 (zO.mpr e);obtain⟨j2,aw,a7⟩:=zX ba;have Dz:=a0 z (bq e);have l1:lt z x=true:=by simpa[bey]using this
        exact O.tr z x x2 Dz Dx (ay x2 (bq a7)) (O.asym z x Dz Dx l1) (bO O ha ay aw ex' a7)
       have gb:∀z∈b.toList.drop (ao+1+k2),lt z x=false:=fun z mz=>by
        obtain⟨j2,aw,ez⟩:=zX mz;have a4:=(List.getElem?_eq_some_iff.mp ez).1;have:=f2 j2 z aw (by simp at a4;(clear aw am d1 c5 ak ai aj ag hj ah ae af c2 c1 ab aa;omega)) (zO.mpr ez);simpa[bey]using this
       by_cases d2:k2>0
       ·rw[cf d2];by_cases d3:ao+1+k2=b.size
        ·rw[cf (by simpa using d3)];exact bw ⟨al,.inl ⟨_,_,rfl,iK d3 bb⟩⟩
        rw[cb (by simpa using d3)];refine bu (zq ex ?_);have mf:=nQ bb ex' gb;by_cases d4:an+1+1=a.size
        ·rw[cf (by simpa using d4)];exact bw ⟨al,.inl ⟨_,_,rfl,gI hl d4 mf⟩⟩
        rw[cb (by simpa using d4)];refine a1 _ _ _ _ _ _ ?_ ?_
        ·exact bw ⟨al,.inr ⟨_,_,_,_,_,_,rfl,⟨mf,by clear d3 d2 am d1 c5 ak ai ag hj ah ae af c2 c1 ab aa;omega,by clear d4 d2 d1 c5 ak aj ag hj ah ae af c2 c1 ab aa;omega⟩,by clear d4 d3 d2 am d1 c5 ak ai aj hj ah ae af c2 c1 ab aa;omega⟩⟩
        ·exact bw ⟨al,_,_,_,_,_,_,rfl,⟨mf,by clear d3 d2 am d1 c5 ak ai ag hj ah ae af c2 c1 ab aa;omega,by clear d4 d2 d1 c5 ak aj ag hj ah ae af c2 c1 ab aa;omega⟩,by clear d4 d3 d2 am d1 c5 ak ai aj hj ah ae af c2 c1 ab aa;omega⟩
       ·rw[cb d2];have bd:k2=0:=by clear am d1 c5 ak ai aj ag hj ah ae af c2 c1 ab aa;omega
        subst bd;have ee:∀o:Array cg,o++b.extract (ao+1) (ao+1+0)=o:=fun o=>by rw[gQ,Array.append_empty]
        rw[ee,pb]at bb;rw[pb]at gb;refine bu (zq ex ?_);have mf:=nQ bb ex' gb;by_cases d4:an+1+1=a.size
        ·rw[cf (by simpa using d4)];exact bw ⟨al,.inl ⟨_,_,rfl,gI hl d4 mf⟩⟩
        rw[cb (by simpa using d4)];refine a1 _ _ _ _ _ _ ?_ ?_
        ·exact bw ⟨al,.inr ⟨_,_,_,_,_,_,rfl,⟨mf,by clear d2 am d1 c5 ak ai ag hj ah ae af c2 c1 ab aa;omega,by clear d4 d2 am c5 ak aj ag hj ah ae af c2 c1 ab aa;omega⟩,by clear d4 d2 am d1 c5 ak ai aj hj ah ae af c2 c1 ab aa;omega⟩⟩
        ·exact bw ⟨al,_,_,_,_,_,_,rfl,⟨mf,by clear d2 am d1 c5 ak ai ag hj ah ae af c2 c1 ab aa;omega,by clear d4 d2 am c5 ak aj ag hj ah ae af c2 c1 ab aa;omega⟩,by clear d4 d2 am d1 c5 ak ai aj hj ah ae af c2 c1 ab aa;omega⟩
def flt(lt:cg->cg->Bool):cg->cg->Bool:=fun x y=>lt y x
theorem MDone.rev{L0 l:List cg}(h:MDone (flt lt) L0 l):MDone lt L0 l.reverse:=by
 refine⟨(List.reverse_perm l).trans h.1,?_⟩;unfold SrtL;rw[List.pairwise_reverse];exact h.2
theorem pU{l:List cg}{i:Nat}{x:cg}(h:l[i]?=some x):(l.take (i+1)).reverse=x::(l.take i).reverse:=by
 rw[take_add_one,h];simp
theorem zZ{l:List cg}{i:Nat}{y:cg}(h:y∈(l.take i).reverse):∃j,j<i/\l[j]?=some y:=by
 obtain⟨j,hj⟩:=mem_iff_getElem?.mp (mem_reverse.mp h);rw[nu]at hj;split at hj
 ·exact⟨j,by assumption,hj⟩
 ·cases hj
theorem hJ(a:Array cg)(n:Nat):(a.extract 0 n).toList=a.toList.take n:=by
 rw[km,gu];simp
theorem AE{l:List cg}(h:SrtL lt l)(n:Nat):SrtL (flt lt) (l.take n).reverse:=by
 unfold SrtL;rw[List.pairwise_reverse];exact List.Pairwise.sublist (List.take_sublist n l) h
section
variable {a b out:Array cg}{na nb k:Nat}{L0:List cg}
theorem oX(m:MI (flt lt) L0 out.toList (a.toList.take (na+1)).reverse (b.toList.take nb).reverse){x:cg}(hx:a.toList[na]?=some x)(h:∀y∈(b.toList.take nb).reverse,lt x y=false):MI (flt lt) L0 (out.push x).toList (a.toList.take na).reverse (b.toList.take nb).reverse:=by
 rw[pU hx]at m;have:=m.takeA h;simpa using this
theorem uT(m:MI (flt lt) L0 out.toList (a.toList.take na).reverse (b.toList.take (nb+1)).reverse){y:cg}(hy:b.toList[nb]?=some y)(h:∀x∈(a.toList.take na).reverse,lt y x=false):MI (flt lt) L0 (out.push y).toList (a.toList.take na).reverse (b.toList.take nb).reverse:=by
 rw[pU hy]at m;have:=m.takeB h;simpa using this
theorem nR{n:Nat}(hn:n=na+1)(m:MI (flt lt) L0 out.toList (a.toList.take n).reverse (b.toList.take nb).reverse){x:cg}(hx:a.toList[na]?=some x)(h:∀y∈(b.toList.take nb).reverse,lt x y=false):MI (flt lt) L0 (out.push x).toList (a.toList.take na).reverse (b.toList.take nb).reverse:=by
 subst hn;exact oX m hx h
theorem y3{n:Nat}(hn:n=nb+1)(m:MI (flt lt) L0 out.toList (a.toList.take na).reverse (b.toList.take n).reverse){y:cg}(hy:b.toList[nb]?=some y)(h:∀x∈(a.toList.take na).reverse,lt y x=false):MI (flt lt) L0 (out.push y).toList (a.toList.take na).reverse (b.toList.take nb).reverse:=by
 subst hn;exact uT m hy h
theorem wW{l:List cg}{i n:Nat}(h:i<=n):(l.take n).reverse=((l.drop i).take (n-i)).reverse++(l.take i).reverse:=by
 rw[<- List.reverse_append];congr 1;have:=List.take_add (l:=l) (i:=i) (j:=n-i);rw[show i+(n-i)=n by omega]at this;exact this
theorem wD(a:Array cg){i n:Nat}(h:i<=n):(a.extract i n).reverse.toList=((a.toList.drop i).take (n-i)).reverse:=by
 rw[Array.toList_reverse,km,gu]
theorem Be(m:MI (flt lt) L0 out.toList (a.toList.take na).reverse (b.toList.take nb).reverse)(hk:k<=na)(h:∀j x,k<=j->j<na->a.toList[j]?=some x->∀y∈(b.toList.take nb).reverse,lt x y=false):MI (flt lt) L0 (out++(a.extract k na).reverse).toList (a.toList.take k).reverse (b.toList.take nb).reverse:=by
 rw[gf,wD a hk];rw[wW hk]at m;refine MI.takesA m fun x mx y my=>?_;obtain⟨j,h1,h2,e⟩:=oV (mem_reverse.mp mx);exact h j x h1 (by clear h1;omega) e y my
theorem v6(m:MI (flt lt) L0 out.toList (a.toList.take na).reverse (b.toList.take nb).reverse)(hk:k<=nb)(h:∀j y,k<=j->j<nb->b.toList[j]?=some y->∀x∈(a.toList.take na).reverse,lt y x=false):MI (flt lt) L0 (out++(b.extract k nb).reverse).toList (a.toList.take na).reverse (b.toList.take k).reverse:=by
 rw[gf,wD b hk];rw[wW hk]at m;refine MI.takesB m fun x mx y my=>?_;obtain⟨j,h1,h2,e⟩:=oV (mem_reverse.mp mx);exact h j x h1 yw e y my
theorem gE(h0:na=0)(m:MI (flt lt) L0 out.toList (a.toList.take na).reverse (b.toList.take nb).reverse):MDone lt L0 (a.extract 0 na++b.extract 0 nb++out.reverse).toList:=by
 subst h0;have h2:MI (flt lt) L0 (out.toList++(b.toList.take nb).reverse) [] []:=MI.takesB (B:=[]) (by simpa using m) (fun y my x mx=>by cases mx);have:=h2.doneA.rev;rw[gf,gf,hJ,hJ,Array.toList_reverse];simpa using this
theorem uL(h0:nb=0)(m:MI (flt lt) L0 out.toList (a.toList.take na).reverse (b.toList.take nb).reverse):MDone lt L0 (a.extract 0 na++b.extract 0 nb++out.reverse).toList:=by
 subst h0;have h1:MI (flt lt) L0 out.toList (a.toList.take na).reverse []:=by simpa using m
 have:=h1.doneA.rev;rw[gf,gf,hJ,hJ,Array.toList_reverse];simpa using this
theorem h9(hf:∀y,b[0]?=some y->∀x∈a.toList,lt x y=false)(h1:nb=1)(q:1<=b.size)(m:MI (flt lt) L0 out.toList (a.toList.take na).reverse (b.toList.take nb).reverse):MDone lt L0 (b.extract 0 nb++a.extract 0 na++out.reverse).toList:=by
 subst h1;obtain⟨y,e1,e2⟩:=bI (a:=b) (i:=0) yw;have ed:(b.toList.take (0+1)).reverse=[y]:=by rw[pU e2];simp
 rw[show (1:Nat)=0+1 from rfl,ed]at m;have h2:MI (flt lt) L0 (out.toList++(a.toList.take na).reverse) [] [y]:=MI.takesA (A:=[]) (by simpa using m) fun x mx z mz=>by
  rw[mem_singleton.mp mz];exact hf y e1 x (mq (mem_reverse.mp mx))
 have h3:MI (flt lt) L0 (out.toList++(a.toList.take na).reverse++[y]) [] []:=MI.takesB (B:=[]) (by simpa using h2) (fun y my x mx=>by cases mx);have:=h3.doneA.rev;have ee:b.toList.take 1=[y]:=by have:=congrArg List.reverse ed;simpa using this
 rw[gf,gf,hJ,hJ,Array.toList_reverse,ee];simpa using this
end
structure HInv(lt:cg->cg->Bool)(a b out:Array cg)(na nb:Nat):Prop where
 mi:MI (flt lt) (a.toList++b.toList) out.toList (a.toList.take na).reverse (b.toList.take nb).reverse
 a0:0<na
 a1:na<=a.size
 b0:1<nb
 b1:nb<=b.size
theorem CD(O:LtOk prog w A E s kd D lt){a b:Array cg}{Q:Array cg->fg->Prop}{st:fg}(hk:kindOf st=kd)(ax:∀x∈a.toList,D x)(av:∀x∈b.toList,D x)(ha:SrtL lt a.toList)(hb:SrtL lt b.toList)(ae:1<=a.size)(aa:1<=b.size)
  (h0:∀y,b[0]?=some y->∀x∈a.toList,lt x y=false) (hl:∀x,a[a.size-1]?=some x->∀y∈b.toList,lt x y=false)
  (q:∀(out:Array cg) st',MDone lt (a.toList++b.toList) out.toList->sameSt st st'->Q out st'):wpS (model prog w) A E s (Bp a b) Q st:=by
 refine bu (wpS_lift (jw ⟨rfl,?_⟩));obtain⟨x0,bf,be⟩:=bI (a:=a) (i:=a.size-1) (by clear aa;omega);refine bu (zq bf ?_);have aw:∀{τ:Type} (P:Prop) (_:Decidable P) (f g:StateT fg Sem τ) (Q':τ->fg->Prop) (st':fg),wpS (model prog w) A E s f Q' st'->wpS (model prog w) A E s g Q' st'->wpS (model prog w) A E s (if P then f else g) Q' st':=fun P _ f g Q' st' h1 h2=>by
  split
  ·exact h1
  ·exact h2
 have ta:a.toList.take a.size=a.toList:=jv yv;have tb:b.toList.take b.size=b.toList:=jv yv;have m0:MI (flt lt) (a.toList++b.toList) (#[]:Array cg).toList (a.toList.take a.size).reverse (b.toList.take b.size).reverse:=by
  refine⟨?_,List.Pairwise.nil,(fun x m=>by cases m),AE ha _,AE hb _⟩;rw[ta,tb];exact(List.reverse_perm _).append (List.reverse_perm _)
 have m1:MI (flt lt) (a.toList++b.toList) (#[x0]:Array cg).toList (a.toList.take (a.size-1)).reverse (b.toList.take b.size).reverse:=by
  have m2:=m0;rw[show a.size=a.size-1+1 by clear aa;omega]at m2;have:=oX m2 be fun y my=>hl x0 bf y (mq (mem_reverse.mp my));simpa using this
 by_cases c1:a.size-1=0
 ·rw[cf (by simpa using c1)];exact bw (q _ _ (gE c1 m1) sameSt.rfl')
 rw[cb (by simpa using c1)];by_cases c2:b.size=1
 ·rw[cf (by simpa using c2)];exact bw (q _ _ (h9 h0 c2 aa m1) sameSt.rfl')
 rw[cb (by simpa using c2)];refine bu (ol ?_);refine bu (iz (fm (a:=0)
  (I:=fun k c st'=>sameSt st st'/\∃out na nb mg,c=(none,na,nb,out,mg)/\HInv lt a b out na nb/\na+nb+k<a.size+b.size)
  (Q:=fun c st'=>sameSt st st'/\∃(r:Array cg),∃rest,c=(some r,rest)/\MDone lt (a.toList++b.toList) r.toList) ?step ?fin ⟨sameSt.rfl',#[x0],a.size-1,b.size,_,rfl,⟨m1,by clear c2 aa ae;omega,by clear c2 c1 aa ae;omega,by clear c1 ae;omega,by clear c2 c1 aa ae;omega⟩,by clear c2 c1 aa;omega⟩) ?post)
 case fin=>
  rintro c st' ⟨a7,out,na,nb,mg,rfl,hm,ag⟩
  (clear c2 c1 aa ae;omega)
 case post=>
  rintro c st' ⟨a7,r,rest,rfl,hd⟩;exact bw (q r st' hd a7)
 case step=>
  rintro k c st' _ af ⟨a7,out,na,nb,mg,rfl,hm,ag⟩;refine bu (iz (fm (a:=0)
   (I:=fun j c st'=>sameSt st st'/\∃ap ao an ac bc,c=(none,ao,an,ap,ac,bc)/\HInv lt a b ap ao an/\ao+an+j<=na+nb)
   (Q:=fun c st'=>sameSt st st'/\((∃(r:Array cg),∃rest,c=(some r,rest)/\MDone lt (a.toList++b.toList) r.toList)\/∃ap ao an ac bc,c=(none,ao,an,ap,ac,bc)/\HInv lt a b ap ao an/\ao+an<na+nb)) ?step1 ?fin1 ⟨a7,out,na,nb,0,0,rfl,hm,by clear ag af c2 c1 aa ae;omega⟩) ?post1)
  case fin1=>
   rintro c a8 ⟨ar,ap,ao,an,ac,bc,rfl,ay,ah⟩;have:=ay.a0
   (clear this af c2 c1 aa ae;omega)
  case step1=>
   rintro j c a8 _ hj ⟨ar,ap,ao,an,ac,bc,rfl,ay,ah⟩;have z1:=ay.a0;have z2:=ay.a1;have z3:=ay.b0;have z4:=ay.b1;obtain⟨y,ey,a3⟩:=bI (a:=b) (i:=an-1) (by clear z3 z2 z1 ah hj ag af c2 c1 ae;omega);obtain⟨x,ex,ex'⟩:=bI (a:=a) (i:=ao-1) (by clear z4 z3 z1 ah hj ag af c2 c1 aa;omega);have Dx:=ax x (bq ex');have Dy:=av y (bq a3);have aj:kindOf a8=kd:=ar.1.trans hk;have mm:=ay.mi;refine bu (zq ey (bu (zq ex (bu (O.ask y x a8 _ Dy Dx aj ?_)))));cases hlt2:lt y x with
   |true=>
    have ms:MI (flt lt) (a.toList++b.toList) (ap.push x).toList (a.toList.take (ao-1)).reverse (b.toList.take an).reverse:=by
     rw[show ao=ao-1+1 by clear z4 z3 z2 ah hj ag af c2 c1 aa ae;omega]at mm;exact oX mm ex' fun z mz=>by
      obtain⟨j2,az,ez⟩:=zZ mz;exact O.tr z y x (av z (bq ez)) Dy Dx (bO O hb av (by clear z4 z3 z2 z1 ah hj ag af c2 c1 aa ae;omega) ez a3) (O.asym y x Dy Dx hlt2)
    simp only[if_true];refine bu (zq ex ?_);by_cases c3:ao-1=0
    ·rw[cf (by simpa using c3)];exact bw ⟨ar,.inl ⟨_,_,rfl,gE c3 ms⟩⟩
    ·rw[cb (by simpa using c3)];have au:HInv lt a b (ap.push x) (ao-1) an:=⟨ms,by clear z4 z3 z2 z1 ah hj ag af c2 c1 aa ae;omega,by clear c3 z4 z3 z1 ah hj ag af c2 c1 aa ae;omega,z3,z4⟩;refine aw _ _ _ _ _ _ ?_ ?_
     ·exact bw ⟨ar,.inr ⟨_,_,_,_,_,rfl,au,by clear c3 z4 z3 z2 hj ag af c2 c1 aa ae;omega⟩⟩
     ·exact bw ⟨ar,_,_,_,_,_,rfl,au,by clear c3 z4 z3 z2 hj ag af c2 c1 aa ae;omega⟩
   |false=>
    have ms:MI (flt lt) (a.toList++b.toList) (ap.push y).toList (a.toList.take ao).reverse (b.toList.take (an-1)).reverse:=by
     rw[show an=an-1+1 by clear z4 z2 z1 ah hj ag af c2 c1 aa ae;omega]at mm;exact uT mm a3 fun z mz=>by
      obtain⟨j2,az,ez⟩:=zZ mz;exact O.tr z x y (ax z (bq ez)) Dx Dy (bO O ha ax (by clear z4 z3 z2 z1 ah hj ag af c2 c1 aa ae;omega) ez ex') hlt2
    simp only[cw,if_false];refine bu (zq ey ?_);by_cases c3:an-1=1
    ·rw[cf (by simpa using c3)];exact bw ⟨ar,.inl ⟨_,_,rfl,h9 h0 c3 aa ms⟩⟩
    ·rw[cb (by simpa using c3)];have au:HInv lt a b (ap.push y) ao (an-1):=⟨ms,z1,z2,by clear z4 z2 z1 ah hj ag af c2 c1 aa ae;omega,by clear c3 z3 z2 z1 ah hj ag af c2 c1 aa ae;omega⟩;refine aw _ _ _ _ _ _ ?_ ?_
     ·exact bw ⟨ar,.inr ⟨_,_,_,_,_,rfl,au,by clear c3 z4 z2 z1 hj ag af c2 c1 aa ae;omega⟩⟩
     ·exact bw ⟨ar,_,_,_,_,_,rfl,au,by clear c3 z4 z2 z1 hj ag af c2 c1 aa ae;omega⟩
  case post1=>
   rintro c a8 ⟨ar,hc⟩;rcases hc with ⟨r,rest,rfl,hd⟩|⟨ap,ao,an,ac,bc,rfl,ay,ah⟩
   ·dsimp only;exact bw ⟨ar,_,_,rfl,hd⟩
   ·dsimp only;refine bu (wpS_lift (jw ⟨rfl,?_⟩));refine bu (iz (fm (a:=0)
     (I:=fun j c st'=>sameSt st st'/\∃am aq ak a2 a4 a5,c=(none,aq,ak,am,a2,a4,a5)/\HInv lt a b am aq ak/\aq+ak+j<=ao+an)
     (Q:=fun c st'=>sameSt st st'/\((∃(r:Array cg),∃rest,c=(some r,rest)/\MDone lt (a.toList++b.toList) r.toList)\/∃am aq ak a2 a4 a5,c=(none,aq,ak,am,a2,a4,a5)/\HInv lt a b am aq ak/\aq+ak<=ao+an)) ?step2 ?aw ⟨ar,ap,ao,an,_,_,_,rfl,ay,by clear ah ag af c2 c1 aa ae;omega⟩) ?post2)
    case aw=>
     rintro c bd ⟨as,am,aq,ak,a2,a4,a5,rfl,au,ab⟩;have:=au.a0;have:=ay.a1;have:=ay.b1
     (clear this af c2 c1 aa ae;omega)
    case post2=>
     rintro c bd ⟨as,hc⟩;rcases hc with ⟨r,rest,rfl,hd⟩|⟨am,aq,ak,a2,a4,a5,rfl,au,ab⟩
     ·dsimp only;exact bw ⟨as,_,_,rfl,hd⟩
     ·dsimp only;refine bu (jl (bw ⟨⟨as.1,as.2.1,as.2.2.1,as.2.2.2⟩,am,aq,ak,_,rfl,au,by clear af c2 c1 aa ae;omega⟩))
    case step2=>
     rintro j c bd _ hj ⟨as,am,aq,ak,a2,a4,a5,rfl,au,ab⟩;have z1:=au.a0;have z2:=au.a1;have z3:=au.b0;have z4:=au.b1;obtain⟨y,ey,a3⟩:=bI (a:=b) (i:=ak-1) (by clear z3 z2 z1 ab hj ah ag af c2 c1 ae;omega);have Dy:=av y (bq a3);have aD:∀j,j<a.size->∃x,a[j]?=some x/\D x:=fun j hj=>by
      obtain⟨x,e,e'⟩:=bI (a:=a) hj;exact⟨x,e,ax x (bq e')⟩
     have bD:∀j,j<b.size->∃x,b[j]?=some x/\D x:=fun j hj=>by
      obtain⟨x,e,e'⟩:=bI (a:=b) hj;exact⟨x,e,av x (bq e')⟩
     dsimp only;refine fin3 (C:=?C3) ?f3 ?g3 ?h3
     case f3=>intro h;generalize a2-1=m0;revert m0;exact h
     case g3=>intro h;generalize a2=m0;revert m0;exact h
     intro m0
     all_goals
      refine bu (jl ?_);refine bu (zq ey ?_);refine bu (gal O (as.1.trans hk) Dy (fun j h1 h2=>aD j (by clear h1 z4 z3 z1 ab hj ah ag af c2 c1 aa ae;omega)) (fun i j x z h1 h2 h3 e1 e2=>bO O ha ax h2 (zO.mp e1) (zO.mp e2)) (by clear z4 z3 z2 ab hj ah ag af c2 c1 aa ae;omega) fun k1 ai g1 g2=>?_);dsimp only;have al:sameSt st bd:=as;have bl:MI (flt lt) (a.toList++b.toList) (am++(a.extract k1 aq).reverse).toList (a.toList.take k1).reverse (b.toList.take ak).reverse:=Be au.mi ai fun j x h1 h2 e z mz=>by
       have:=g2 j x (by clear h2 ai z4 z3 z2 z1 ab hj ah ag af c2 c1 aa ae;omega) (by clear h1 ai z4 z3 z2 z1 ab hj ah ag af c2 c1 aa ae;omega) (zO.mpr e);obtain⟨j2,az,ez⟩:=zZ mz;have Dx:=ax x (bq e);have l1:lt y x=true:=by simpa[bey]using this
       exact O.tr z y x (av z (bq ez)) Dy Dx (bO O hb av (by clear h2 h1 ai z4 z3 z2 z1 ab hj ah ag af c2 c1 aa ae;omega) ez a3) (O.asym y x Dy Dx l1)
      have gt:∀x∈(a.toList.take k1).reverse,lt y x=false:=fun x mx=>by
       obtain⟨j2,az,ex⟩:=zZ mx;have:=g1 j2 x (by clear az ai z4 z3 z2 z1 ab hj ah ag af c2 c1 aa ae;omega) (by clear ai z4 z3 z2 z1 ab hj ah ag af c2 c1 aa ae;omega) (zO.mpr ex);simpa[bey]using this
      by_cases c5:aq-k1>0
      ·rw[cf c5];by_cases c6:k1=0
       ·rw[cf (by simpa using c6)];exact bw ⟨al,.inl ⟨_,_,rfl,gE c6 bl⟩⟩
       rw[cb (by simpa using c6)];refine bu (zq ey ?_);have mb:MI (flt lt) (a.toList++b.toList) ((am++(a.extract k1 aq).reverse).push y).toList (a.toList.take k1).reverse (b.toList.take (ak-1)).reverse:=y3 (by clear c6 c5 ai z4 z2 z1 ab hj ah ag af c2 c1 aa ae;omega) bl a3 gt;by_cases d1:ak-1=1
       ·rw[cf (by simpa using d1)];exact bw ⟨al,.inl ⟨_,_,rfl,h9 h0 d1 aa mb⟩⟩
       rw[cb (by simpa using d1)];obtain⟨x,ex,ex'⟩:=bI (a:=a) (i:=k1-1) (by clear d1 c6 c5 z4 z3 z1 ab hj ah ag af c2 c1 aa;omega);have Dx:=ax x (bq ex');refine bu (zq ex ?_);refine bu (gal O (as.1.trans hk) Dx (fun j h1 h2=>bD j (by clear h1 d1 c6 c5 ai z3 z2 z1 ab hj ah ag af c2 c1 aa ae;omega)) (fun i j x z h1 h2 h3 e1 e2=>bO O hb av h2 (zO.mp e1) (zO.mp e2)) (by clear d1 c6 c5 ai z4 z2 z1 ab hj ah ag af c2 c1 aa ae;omega) fun k2 aj f1 f2=>?_);dsimp only;have bb:=v6 (k:=k2) mb aj fun j z h1 h2 e x2 a9=>by
        have:=f2 j z (by clear h2 aj d1 c6 c5 ai z4 z3 z2 z1 ab hj ah ag af c2 c1 aa ae;omega) (by clear h1 aj d1 c6 c5 ai z4 z3 z2 z1 ab hj ah ag af c2 c1 aa ae;omega) (zO.mpr e);obtain⟨j2,az,a6⟩:=zZ a9;have Dz:=av z (bq e);have l1:lt z x=false:=by simpa[bey]using this
        exact O.tr x2 x z (ax x2 (bq a6)) Dx Dz (bO O ha ax (by clear h2 h1 aj d1 c6 c5 ai z4 z3 z2 z1 ab hj ah ag af c2 c1 aa ae;omega) a6 ex') l1
       have gb:∀z∈(b.toList.take k2).reverse,lt x z=false:=fun z mz=>by
        obtain⟨j2,az,ez⟩:=zZ mz;have:=f1 j2 z (by clear az aj d1 c6 c5 ai z4 z3 z2 z1 ab hj ah ag af c2 c1 aa ae;omega) (by clear aj d1 c6 c5 ai z4 z3 z2 z1 ab hj ah ag af c2 c1 aa ae;omega) (zO.mpr ez);have l1:lt z x=true:=by simpa[bey]using this
        exact O.asym z x (av z (bq ez)) Dx l1
       by_cases d2:ak-1-k2>0
       ·rw[cf d2];by_cases d3:k2=1
        ·rw[cf (by simpa using d3)];exact bw ⟨al,.inl ⟨_,_,rfl,h9 h0 d3 aa bb⟩⟩
        rw[cb (by simpa using d3)];by_cases d5:k2=0
        ·rw[cf (by simpa using d5)];exact bw ⟨al,.inl ⟨_,_,rfl,uL d5 bb⟩⟩
        rw[cb (by simpa using d5)];refine bu (zq ex ?_);have mf:MI (flt lt) (a.toList++b.toList) (((am++(a.extract k1 aq).reverse).push y++(b.extract k2 (ak-1)).reverse).push x).toList (a.toList.take (k1-1)).reverse (b.toList.take k2).reverse:=nR (by clear d5 d3 d2 aj d1 c5 ai z4 z3 z2 z1 ab hj ah ag af c2 c1 aa ae;omega) bb ex' gb;by_cases d4:k1-1=0
        ·rw[cf (by simpa using d4)];exact bw ⟨al,.inl ⟨_,_,rfl,gE d4 mf⟩⟩
        rw[cb (by simpa using d4)];refine aw _ _ _ _ _ _ ?_ ?_
        ·exact bw ⟨al,.inr ⟨_,_,_,_,_,_,rfl,⟨mf,by clear d5 d3 d2 aj d1 c6 c5 ai z4 z3 z2 z1 ab hj ah ag af c2 c1 aa ae;omega,by clear d4 d5 d3 d2 aj d1 c6 c5 z4 z3 z1 ab hj ah ag af c2 c1 aa ae;omega,by clear d4 d2 aj d1 c6 c5 ai z4 z3 z2 z1 ab hj ah ag af c2 c1 aa ae;omega,by clear d4 d5 d3 d2 d1 c6 c5 ai z3 z2 z1 ab hj ah ag af c2 c1 aa ae;omega⟩,by clear d4 d5 d3 d2 d1 c6 c5 z4 z3 z2 z1 hj ah ag af c2 c1 aa ae;omega⟩⟩
        ·exact bw ⟨al,_,_,_,_,_,_,rfl,⟨mf,by clear d5 d3 d2 aj d1 c6 c5 ai z4 z3 z2 z1 ab hj ah ag af c2 c1 aa ae;omega,by clear d4 d5 d3 d2 aj d1 c6 c5 z4 z3 z1 ab hj ah ag af c2 c1 aa ae;omega,by clear d4 d2 aj d1 c6 c5 ai z4 z3 z2 z1 ab hj ah ag af c2 c1 aa ae;omega,by clear d4 d5 d3 d2 d1 c6 c5 ai z3 z2 z1 ab hj ah ag af c2 c1 aa ae;omega⟩,by clear d4 d5 d3 d2 d1 c6 c5 z4 z3 z2 hj ah ag af c2 c1 aa ae;omega⟩
       ·rw[cb d2];have ba:k2=ak-1:=by clear d1 c6 c5 ai z4 z3 z2 z1 ab hj ah ag af c2 c1 aa ae;omega
        subst ba;have ee:∀o:Array cg,o++(b.extract (ak-1) (ak-1)).reverse=o:=fun o=>by
         have:b.extract (ak-1) (ak-1+0) = #[]:=gQ b _;rw[pb]at this;rw[this];simp
        rw[ee]at bb;refine bu (zq ex ?_);have mf:MI (flt lt) (a.toList++b.toList) (((am++(a.extract k1 aq).reverse).push y).push x).toList (a.toList.take (k1-1)).reverse (b.toList.take (ak-1)).reverse:=nR (by clear d2 aj d1 c5 ai z4 z3 z2 z1 ab hj ah ag af c2 c1 aa ae;omega) bb ex' gb;by_cases d4:k1-1=0
        ·rw[cf (by simpa using d4)];exact bw ⟨al,.inl ⟨_,_,rfl,gE d4 mf⟩⟩
        rw[cb (by simpa using d4)];refine aw _ _ _ _ _ _ ?_ ?_
        ·exact bw ⟨al,.inr ⟨_,_,_,_,_,_,rfl,⟨mf,by clear d2 aj d1 c6 c5 ai z4 z3 z2 z1 ab hj ah ag af c2 c1 aa ae;omega,by clear d4 d2 aj d1 c6 c5 z4 z3 z1 ab hj ah ag af c2 c1 aa ae;omega,by clear d4 d2 aj c6 c5 ai z4 z2 z1 ab hj ah ag af c2 c1 aa ae;omega,by clear d4 d2 aj d1 c6 c5 ai z3 z2 z1 ab hj ah ag af c2 c1 aa ae;omega⟩,by clear d4 d2 aj d1 c6 c5 z4 z3 z2 z1 hj ah ag af c2 c1 aa ae;omega⟩⟩
        ·exact bw ⟨al,_,_,_,_,_,_,rfl,⟨mf,by clear d2 aj d1 c6 c5 ai z4 z3 z2 z1 ab hj ah ag af c2 c1 aa ae;omega,by clear d4 d2 aj d1 c6 c5 z4 z3 z1 ab hj ah ag af c2 c1 aa ae;omega,by clear d4 d2 aj c6 c5 ai z4 z2 z1 ab hj ah ag af c2 c1 aa ae;omega,by clear d4 d2 aj d1 c6 c5 ai z3 z2 z1 ab hj ah ag af c2 c1 aa ae;omega⟩,by clear d4 d2 aj d1 c6 c5 z4 z3 z2 hj ah ag af c2 c1 aa ae;omega⟩
      ·rw[cb c5];have k0:k1=aq:=by clear z4 z3 z2 z1 ab hj ah ag af c2 c1 aa ae;omega
       subst k0;have bg:∀o:Array cg,o++(a.extract k1 k1).reverse=o:=fun o=>by
        have:a.extract k1 (k1+0) = #[]:=gQ a k1;rw[pb]at this;rw[this];simp
       rw[bg]at bl;refine bu (zq ey ?_);have mb:MI (flt lt) (a.toList++b.toList) (am.push y).toList (a.toList.take k1).reverse (b.toList.take (ak-1)).reverse:=y3 (by clear c5 ai z2 z1 ab z4 hj ah ag af c2 c1 aa ae;omega) bl a3 gt;by_cases d1:ak-1=1
       ·rw[cf (by simpa using d1)];exact bw ⟨al,.inl ⟨_,_,rfl,h9 h0 d1 aa mb⟩⟩
       rw[cb (by simpa using d1)];obtain⟨x,ex,ex'⟩:=bI (a:=a) (i:=k1-1) (by clear d1 c5 ai z1 ab z4 z3 hj ah ag af c2 c1 aa;omega);have Dx:=ax x (bq ex');refine bu (zq ex ?_);refine bu (gal O (as.1.trans hk) Dx (fun j h1 h2=>bD j (by clear h1 d1 c5 ai z2 z1 ab z3 hj ah ag af c2 c1 aa ae;omega)) (fun i j x z h1 h2 h3 e1 e2=>bO O hb av h2 (zO.mp e1) (zO.mp e2)) (by clear d1 c5 ai z2 z1 ab z4 hj ah ag af c2 c1 aa ae;omega) fun k2 aj f1 f2=>?_);dsimp only;have bb:=v6 (k:=k2) mb aj fun j z h1 h2 e x2 a9=>by
        have:=f2 j z (by clear h2 aj d1 c5 ai z2 z1 ab z4 z3 hj ah ag af c2 c1 aa ae;omega) (by clear h1 aj d1 c5 ai z2 z1 ab z4 z3 hj ah ag af c2 c1 aa ae;omega) (zO.mpr e);obtain⟨j2,az,a6⟩:=zZ a9;have Dz:=av z (bq e);have l1:lt z x=false:=by simpa[bey]using this
        exact O.tr x2 x z (ax x2 (bq a6)) Dx Dz (bO O ha ax (by clear h2 h1 aj d1 c5 ai z2 z1 ab z4 z3 hj ah ag af c2 c1 aa ae;omega) a6 ex') l1
       have gb:∀z∈(b.toList.take k2).reverse,lt x z=false:=fun z mz=>by
        obtain⟨j2,az,ez⟩:=zZ mz;have:=f1 j2 z (by clear az aj d1 c5 ai z2 z1 ab z4 z3 hj ah ag af c2 c1 aa ae;omega) (by clear aj d1 c5 ai z2 z1 ab z4 z3 hj ah ag af c2 c1 aa ae;omega) (zO.mpr ez);have l1:lt z x=true:=by simpa[bey]using this
        exact O.asym z x (av z (bq ez)) Dx l1
       by_cases d2:ak-1-k2>0
       ·rw[cf d2];by_cases d3:k2=1
        ·rw[cf (by simpa using d3)];exact bw ⟨al,.inl ⟨_,_,rfl,h9 h0 d3 aa bb⟩⟩
        rw[cb (by simpa using d3)];by_cases d5:k2=0
        ·rw[cf (by simpa using d5)];exact bw ⟨al,.inl ⟨_,_,rfl,uL d5 bb⟩⟩
        rw[cb (by simpa using d5)];refine bu (zq ex ?_);have mf:MI (flt lt) (a.toList++b.toList) ((am.push y++(b.extract k2 (ak-1)).reverse).push x).toList (a.toList.take (k1-1)).reverse (b.toList.take k2).reverse:=nR (by clear d5 d3 d2 aj d1 c5 ai z2 ab z4 z3 hj ah ag af c2 c1 aa ae;omega) bb ex' gb;by_cases d4:k1-1=0
        ·rw[cf (by simpa using d4)];exact bw ⟨al,.inl ⟨_,_,rfl,gE d4 mf⟩⟩
        rw[cb (by simpa using d4)];refine aw _ _ _ _ _ _ ?_ ?_
        ·exact bw ⟨al,.inr ⟨_,_,_,_,_,_,rfl,⟨mf,by clear d5 d3 d2 aj d1 c5 ai z2 z1 ab z4 z3 hj ah ag af c2 c1 aa ae;omega,by clear d4 d5 d3 d2 aj d1 c5 ai z1 ab z4 z3 hj ah ag af c2 c1 aa ae;omega,by clear d4 d2 aj d1 c5 ai z2 z1 ab z4 z3 hj ah ag af c2 c1 aa ae;omega,by clear d4 d5 d3 d2 d1 c5 ai z2 z1 ab z3 hj ah ag af c2 c1 aa ae;omega⟩,by clear d4 d5 d3 d2 d1 c5 ai z2 z1 z4 z3 hj ah ag af c2 c1 aa ae;omega⟩⟩
        ·exact bw ⟨al,_,_,_,_,_,_,rfl,⟨mf,by clear d5 d3 d2 aj d1 c5 ai z2 z1 ab z4 z3 hj ah ag af c2 c1 aa ae;omega,by clear d4 d5 d3 d2 aj d1 c5 ai z1 ab z4 z3 hj ah ag af c2 c1 aa ae;omega,by clear d4 d2 aj d1 c5 ai z2 z1 ab z4 z3 hj ah ag af c2 c1 aa ae;omega,by clear d4 d5 d3 d2 d1 c5 ai z2 z1 ab z3 hj ah ag af c2 c1 aa ae;omega⟩,by clear d4 d5 d3 d2 d1 c5 ai z2 z1 z4 hj ah ag af c2 c1 aa ae;omega⟩
       ·rw[cb d2];have ba:k2=ak-1:=by clear d1 c5 ai z2 z1 ab z4 z3 hj ah ag af c2 c1 aa ae;omega
        subst ba;have ee:∀o:Array cg,o++(b.extract (ak-1) (ak-1)).reverse=o:=fun o=>by
         have:b.extract (ak-1) (ak-1+0) = #[]:=gQ b _;rw[pb]at this;rw[this];simp
        rw[ee]at bb;refine bu (zq ex ?_);have mf:MI (flt lt) (a.toList++b.toList) ((am.push y).push x).toList (a.toList.take (k1-1)).reverse (b.toList.take (ak-1)).reverse:=nR (by clear d2 aj d1 c5 ai z2 ab z4 z3 hj ah ag af c2 c1 aa ae;omega) bb ex' gb;by_cases d4:k1-1=0
        ·rw[cf (by simpa using d4)];exact bw ⟨al,.inl ⟨_,_,rfl,gE d4 mf⟩⟩
        rw[cb (by simpa using d4)];refine aw _ _ _ _ _ _ ?_ ?_
        ·exact bw ⟨al,.inr ⟨_,_,_,_,_,_,rfl,⟨mf,by clear d2 aj d1 c5 ai z2 z1 ab z4 z3 hj ah ag af c2 c1 aa ae;omega,by clear d4 d2 aj d1 c5 ai z1 ab z4 z3 hj ah ag af c2 c1 aa ae;omega,by clear d4 d2 aj c5 ai z2 z1 ab z4 hj ah ag af c2 c1 aa ae;omega,by clear d4 d2 aj d1 c5 ai z2 z1 ab z3 hj ah ag af c2 c1 aa ae;omega⟩,by clear d4 d2 aj d1 c5 ai z2 z1 z4 z3 hj ah ag af c2 c1 aa ae;omega⟩⟩
        ·exact bw ⟨al,_,_,_,_,_,_,rfl,⟨mf,by clear d2 aj d1 c5 ai z2 z1 ab z4 z3 hj ah ag af c2 c1 aa ae;omega,by clear d4 d2 aj d1 c5 ai z1 ab z4 z3 hj ah ag af c2 c1 aa ae;omega,by clear d4 d2 aj c5 ai z2 z1 ab z4 hj ah ag af c2 c1 aa ae;omega,by clear d4 d2 aj d1 c5 ai z2 z1 ab z3 hj ah ag af c2 c1 aa ae;omega⟩,by clear d4 d2 aj d1 c5 ai z2 z1 z4 hj ah ag af c2 c1 aa ae;omega⟩
def G(xs:Array cg)(i:Nat):cg:=(xs[i]?).getD (.none,.none)
theorem qL{xs:Array cg}{i:Nat}(h:i<xs.size):xs[i]?=some (G xs i):=by unfold G;simp[h]
def Sg(lt:cg->cg->Bool)(xs:Array cg)(lo hi:Nat):Prop:=∀i j,lo<=i->i<=j->j<hi->lt (G xs j) (G xs i)=false
structure Tb(kd:oy)(D:cg->Prop)(a₀:Array cg)(lo:Nat)(st0 st:fg):Prop where
 kd:kindOf st=kd
 fl:ny st=none
 pm:(bx st).Perm a₀
 pe:cj st=cj st0
 lo:∀i,i<lo->G (bx st) i=G (bx st0) i
 d:∀x∈a₀.toList,D x
section
variable {a₀:Array cg}{lo:Nat}{st0 st st':fg}
theorem Tb.size(h:Tb kd D a₀ lo st0 st):(bx st).size=a₀.size:=h.pm.size_eq
theorem Tb.at(h:Tb kd D a₀ lo st0 st){i:Nat}(hi:i<a₀.size):(bx st)[i]?=some (G (bx st) i):=qL (by rw[h.size];exact hi)
theorem Tb.dd(h:Tb kd D a₀ lo st0 st){i:Nat}(hi:i<a₀.size):D (G (bx st) i):=by
 have e:=h.at hi;have m:G (bx st) i∈(bx st).toList:=bq (by rw[<- zO];exact e);exact h.d _ ((Array.perm_iff_toList_perm.mp h.pm).mem_iff.mp m)
theorem cP(O:LtOk prog w A E s kd D lt)(h:Tb kd D a₀ lo st0 st){i j:Nat}{Q:Option Bool->fg->Prop}(hi:i<a₀.size)(hj:j<a₀.size)(q:Q (some (lt (G (bx st) i) (G (bx st) j))) st):wpS (model prog w) A E s (ltAt' i j) Q st:=by
 rw[ltAt'_eq];refine bu (ol ?_);refine bu (zq (h.at hi) (bu (zq (h.at hj) ?_)));exact O.ask _ _ _ _ (h.dd hi) (h.dd hj) h.kd q
theorem fM{xs:Array cg}{i j k:Nat}(hj:j<=xs.size):G (mirror xs i j ((j-i)/2)) k=if i<=k/\k<j then G xs (i+j-1-k)else G xs k:=by
 unfold G;rw[getElem?_mirror_all hj];split<;>rfl
theorem rM{xs:Array cg}{src d k:Nat}(hs:src<xs.size)(hd:d<=src):G (bubble xs src d) k=if k=src-d then G xs src else if src-d<k/\k<=src then G xs (k-1)else G xs k:=by
 unfold G;rw[getElem?_bubble hs d hd];split
 ·rfl
 ·split<;>rfl
theorem Tb.mirror(h:Tb kd D a₀ lo st0 st){i j:Nat}(hi:lo<=i)(hj:j<=a₀.size):Tb kd D a₀ lo st0 (kr st (mirror (bx st) i j ((j-i)/2))):=by
 refine⟨h.kd,h.fl,(mirror_perm _ _ _ _).trans h.pm,h.pe,fun k hk=>?_,h.d⟩;show G (PyProof.Rows.mirror (bx st) i j ((j-i)/2)) k=_;rw[fM (by rw[h.size];exact hj),cb yw];exact h.lo k hk
theorem Tb.bubble(h:Tb kd D a₀ lo st0 st){src d:Nat}(hs:src<a₀.size)(hd:d<=src)(hl:lo<=src-d):Tb kd D a₀ lo st0 (kr st (bubble (bx st) src d)):=by
 refine⟨h.kd,h.fl,(bubble_perm _ _ _).trans h.pm,h.pe,fun k hk=>?_,h.d⟩;show G (PyProof.Rows.bubble (bx st) src d) k=_;rw[rM (by rw[h.size];exact hs) hd,cb yw,cb yw];exact h.lo k hk
theorem dU{i j:Nat}{Q:Unit->fg->Prop}(q:Q () (kr st (mirror (bx st) i j ((j-i)/2)))):wpS (model prog w) A E s (reverseSlice' i j) Q st:=by
 rw[reverseSlice'_eq];exact jl q
theorem Sg.more(O:LtOk prog w A E s kd D lt)(h:Tb kd D a₀ lo st0 st){l n:Nat}(hn:n<a₀.size)(hl:l<n)(hs:Sg lt (bx st) l n)(h1:lt (G (bx st) n) (G (bx st) (n-1))=false):Sg lt (bx st) l (n+1):=fun i j hi q hj=>by
 by_cases e:j<n
 ·exact hs i j hi q e
 ·have ej:j=n:=yw
  subst ej;by_cases e2:i=j
  ·rw[e2];exact O.irr (h.dd hn)
  ·exact O.tr _ (G (bx st) (j-1)) _ (h.dd yw) (h.dd yw) (h.dd hn) (hs i (j-1) hi yw yw) h1
theorem Sg.one(O:LtOk prog w A E s kd D lt)(h:Tb kd D a₀ lo st0 st){l:Nat}(hn:l<a₀.size):Sg lt (bx st) l (l+1):=fun i j hi q hj=>by
 have e1:i=l:=by clear hn;omega
 have e2:j=l:=by clear e1 hn;omega
 rw[e1,e2];exact O.irr (h.dd hn)
def Fg(lt:cg->cg->Bool)(xs:Array cg)(lo hi:Nat):Prop:=∀i j,lo<=i->i<=j->j<hi->lt (G xs i) (G xs j)=false
theorem oG{xs:Array cg}{l n:Nat}(hn:n<=xs.size)(hs:Fg lt xs l n):Sg lt (mirror xs l n ((n-l)/2)) l n:=fun i j hi q hj=>by
 rw[fM hn,fM hn,cf (by clear hn;omega),cf (by clear hn;omega)];exact hs _ _ (by clear q hi hn;omega) (by clear hj hi hn;omega) (by clear q hn;omega)
end
def Eg(lt:cg->cg->Bool)(xs:Array cg)(lo hi:Nat):Prop:=∀i j,lo<=i->i<hi->lo<=j->j<hi->lt (G xs i) (G xs j)=false
theorem kM{xs:Array cg}{l i n:Nat}(hn:n<=xs.size)(hl:l<=i)(hf:Fg lt xs l n)(he:Eg lt xs i n):Fg lt (mirror xs i n ((n-i)/2)) l n:=fun p q hp z hq=>by
 rw[fM hn,fM hn];by_cases h1:i<=p
 ·rw[cf (by clear hp hl hn;omega),cf (by clear hp hl hn;omega)];exact he _ _ (by clear h1 hp hl hn;omega) (by clear z hp hl hn;omega) (by clear h1 z hp hl hn;omega) (by clear hp hl hn;omega)
 ·rw[cb (by clear hq z hp hl hn;omega)];by_cases h2:i<=q
  ·rw[cf (by clear h1 z hp hl hn;omega)];exact hf _ _ hp (by clear h2 z hp hl hn;omega) (by clear h1 z hp hl hn;omega)
  ·rw[cb (by clear h1 hq z hp hl hn;omega)];exact hf p q hp z hq
theorem sI{xs:Array cg}{i n k:Nat}(hn:n<=xs.size)(hk:n<=k):G (mirror xs i n ((n-i)/2)) k=G xs k:=by
 rw[fM hn,cb (by clear hn;omega)]
theorem pW{xs:Array cg}{i n:Nat}(hn:n<=xs.size)(hi:i<n):G (mirror xs i n ((n-i)/2)) (n-1)=G xs i:=by
 rw[fM hn,cf (by clear hn;omega)];congr 1
 (clear hn;omega)
theorem fH(O:LtOk prog w A E s kd D lt){a₀:Array cg}{lo:Nat}{st0 st:fg}(h:Tb kd D a₀ lo st0 st){l n:Nat}(hn:n<a₀.size)(hl:l<n)(hs:Fg lt (bx st) l n)(h1:lt (G (bx st) (n-1)) (G (bx st) n)=false):Fg lt (bx st) l (n+1):=fun i j hi q hj=>by
 by_cases e:j<n
 ·exact hs i j hi q e
 ·have ej:j=n:=yw
  subst ej;by_cases e2:i=j
  ·rw[e2];exact O.irr (h.dd hn)
  ·exact O.tr _ (G (bx st) (j-1)) _ (h.dd hn) (h.dd yw) (h.dd yw) h1 (hs i (j-1) hi yw yw)
theorem ES(O:LtOk prog w A E s kd D lt){a₀:Array cg}{lo ah:Nat}{st0 st:fg}{Q:Option Nat->fg->Prop}(h:Tb kd D a₀ lo st0 st)(hn:lo+ah<=a₀.size)(h1:1<=ah)
  (q:∀m st',Tb kd D a₀ lo st0 st'->1<=m->m<=ah->Sg lt (bx st') lo (lo+m)->Q (some m) st'):wpS (model prog w) A E s (countRun' lo ah) Q st:=by
 refine bu (iz (fm (a:=1)
  (I:=fun k c st'=>st'=st/\c=(none,k)/\Sg lt (bx st) lo (lo+k))
  (Q:=fun c st'=>st'=st/\∃n,c=(none,n)/\1<=n/\n<=ah/\Sg lt (bx st) lo (lo+n)/\(n=ah\/lt (G (bx st) (lo+n)) (G (bx st) (lo+n-1))=true)) ?step ?fin ⟨rfl,rfl,Sg.one O h yw⟩) ?post)
 case fin=>
  rintro c st' ⟨rfl,rfl,hs⟩;rw[show max 1 ah=ah by clear hn;omega]at hs ⊢;exact⟨rfl,ah,rfl,h1,cv _,hs,.inl rfl⟩
 case step=>
  rintro k c st' ac af ⟨rfl,rfl,hs⟩;refine bu (cP O h (i:=lo+k) (j:=lo+k-1) (by clear ac h1;omega) (by clear ac h1;omega) ?_);cases e:lt (G (bx st') (lo+k)) (G (bx st') (lo+k-1))with
  |true=>
   simp only[if_true];exact bw ⟨rfl,k,rfl,ac,by clear ac h1 hn;omega,hs,.inr e⟩
  |false=>
   simp only[cw,if_false];refine bw ⟨rfl,rfl,?_⟩;exact Sg.more (n:=lo+k) O h (by clear ac h1;omega) (by clear af h1 hn;omega) hs e
 case post=>
  rintro c st' ⟨rfl,n,rfl,n1,n2,hs,z⟩;dsimp only;by_cases hnn:n=ah
  ·rw[cf (by simpa using hnn)];exact bw (q n st' h n1 n2 hs)
  rw[cb (by simpa using hnn)];have ar:=z.resolve_left hnn;by_cases hgt:n>1
  ·rw[cf hgt];refine bu (cP O h (i:=lo) (j:=lo+n-1) (by clear hgt hnn z n2 n1;omega) (by clear hgt hnn z n1;omega) ?_);cases e0:lt (G (bx st') lo) (G (bx st') (lo+n-1))with
   |true=>
    simp only[if_true];exact bw (q n st' h n1 n2 hs)
   |false=>
    simp only[cw,if_false];have aa:lo+n<=(bx st').size:=by rw[h.size];(clear hgt hnn z n1 h1;omega)
    have hal:∀p q,lo<=p->p<lo+n->lo<=q->q<lo+n->lt (G (bx st') p) (G (bx st') q)=false:=fun p q p1 p2 q1 q2=>by
     have s1:=hs lo q (cv _) q1 q2;have s2:=hs p (lo+n-1) p1 (by clear q2 q1 p1 aa hgt hnn z n2 n1 h1 hn;omega) (by clear q2 q1 p2 p1 aa hgt hnn z n2 h1 hn;omega);have d0:=h.dd (i:=lo) (by clear q2 q1 p2 p1 aa hgt hnn z n2 n1;omega);have dn:=h.dd (i:=lo+n-1) (by clear q2 q1 p2 p1 aa hgt hnn z n1;omega);have dp:=h.dd (i:=p) (by clear q2 q1 p1 aa hgt hnn z n1 h1;omega);have dq:=h.dd (i:=q) (by clear q1 p2 p1 aa hgt hnn z n1 h1;omega);have s3:=hs q (lo+n-1) q1 (by clear q1 p2 p1 aa hgt hnn z n2 n1 h1 hn;omega) (by clear q2 q1 p2 p1 aa hgt hnn z n2 h1 hn;omega);have s4:=hs lo p (cv _) p1 p2;by_cases hpq:p<=q
     ·exact O.tr _ (G (bx st') lo) _ dq d0 dp (O.tr _ (G (bx st') (lo+n-1)) _ dq dn d0 s3 e0) s4
     ·exact hs q p q1 (by clear q2 q1 p2 p1 aa hgt hnn z n2 n1 h1 hn;omega) p2
    have hT:=h.mirror (i:=lo) (j:=lo+n) (cv _) (by clear aa hgt hnn z n1 h1;omega);have hF:Fg lt (bx (kr st' (mirror (bx st') lo (lo+n) ((lo+n-lo)/2)))) lo (lo+(n+1)):=by
     have au:Fg lt (bx st') lo (lo+n):=fun p q p1 pq q2=>hal p q p1 (by clear p1 aa hgt hnn z n2 n1 h1 hn;omega) (by clear q2 aa hgt hnn z n2 n1 h1 hn;omega) q2;have as:=kM aa (cv _) au fun p q p1 p2 q1 q2=>hal p q p1 p2 q1 q2;refine fH (n:=lo+n) O hT (by clear aa hgt z n1 h1;omega) (by clear aa hgt hnn z n2 h1 hn;omega) as ?_;show lt (G (mirror (bx st') lo (lo+n) _) (lo+n-1)) (G (mirror (bx st') lo (lo+n) _) (lo+n))=false;rw[sI aa (cv _),pW aa (by clear aa hgt hnn z n2 h1 hn;omega)];have d1:=h.dd (i:=lo+n) (by clear aa hgt z n1 h1;omega);have d2:=h.dd (i:=lo+n-1) (by clear aa hgt hnn z n1;omega);exact O.tr _ _ _ d1 d2 (h.dd (by clear aa hgt hnn z n2 n1;omega)) (O.asym _ _ d1 d2 ar) e0
    refine bu (dU ?_)
    revert hT hF
    generalize (kr st' (mirror (bx st') lo (lo+n) ((lo+n-lo)/2)))=stA;intro hT hF;refine bu (wpS_lift (jw ⟨rfl,?_⟩));refine bu (iz (fm (a:=n+1)
     (I:=fun k c st'=>Tb kd D a₀ lo st0 st'/\∃ag,c=(none,k,ag)/\Fg lt (bx st') lo (lo+k)/\ag+1<=k/\Eg lt (bx st') (lo+k-(ag+1)) (lo+k))
     (Q:=fun c st'=>Tb kd D a₀ lo st0 st'/\∃m ag,c=(none,m,ag)/\1<=m/\m<=ah/\Fg lt (bx st') lo (lo+m)/\ag+1<=m/\Eg lt (bx st') (lo+m-(ag+1)) (lo+m)) ?step2 ?fin2 ⟨hT,0,rfl,hF,by clear aa hgt hnn z n2 n1 h1 hn;omega,fun i j h1 h2 h3 h4=>by
      have e1:i=j:=by clear aa hgt hnn z n2 n1 hn;omega
      rw[e1];exact O.irr (hT.dd (by clear e1 h3 h2 h1 aa hgt z n1;omega))⟩) ?post2)
    case fin2=>
     rintro c aj ⟨ai,ag,rfl,an,ab,al⟩;rw[show max (n+1) ah=ah by clear ab aa hgt z n1 h1 hn;omega]at an ab al ⊢;exact⟨ai,ah,ag,rfl,by clear ab aa hgt hnn z n2 n1 hn;omega,cv _,an,ab,al⟩
    case step2=>
     rintro k c aj ac af ⟨ai,ag,rfl,an,ab,al⟩;refine bu (cP O ai (i:=lo+k) (j:=lo+k-1) (by clear ab ac aa hgt hnn z n2 n1 h1;omega) (by clear ab ac aa hgt hnn z n2 n1 h1;omega) ?_);have aa:lo+k<=(bx aj).size:=by rw[ai.size];(clear ab ac aa hgt hnn z n2 n1 h1;omega)
     cases e:lt (G (bx aj) (lo+k)) (G (bx aj) (lo+k-1))with
     |true=>
      simp only[if_true];by_cases hq0:ag>0
      ·rw[cf hq0];have ap:=ai.mirror (i:=lo+k-(ag+1)) (j:=lo+k) (by clear hq0 aa af ac hgt hnn z n2 n1 h1 hn;omega) (by clear hq0 aa ab ac hgt hnn z n2 n1 h1;omega);refine bu (dU (bw ⟨ap,0,rfl,?_,by clear hq0 aa ab af ac hgt hnn z n2 n1 h1 hn;omega,fun i j h1 h2 h3 h4=>by
        have e1:i=j:=by clear hq0 aa ab af ac hgt hnn z n2 n1 hn;omega
        rw[e1];exact O.irr (ap.dd (by clear e1 h3 h2 h1 hq0 aa ab ac hgt hnn z n2 n1;omega))⟩))
       refine fH (n:=lo+k) O ap (by clear hq0 aa ab ac hgt hnn z n2 n1 h1;omega) (by clear hq0 aa ab af hgt hnn z n2 n1 h1 hn;omega) (kM aa (by clear hq0 aa af ac hgt hnn z n2 n1 h1 hn;omega) an al) ?_;show lt (G (mirror (bx aj) (lo+k-(ag+1)) (lo+k) _) (lo+k-1)) (G (mirror (bx aj) (lo+k-(ag+1)) (lo+k) _) (lo+k))=false;rw[sI aa (cv _),pW aa (by clear hq0 aa ab af hgt hnn z n2 n1 h1 hn;omega)];have d1:=ai.dd (i:=lo+k) (by clear hq0 aa ab ac hgt hnn z n2 n1 h1;omega);have d2:=ai.dd (i:=lo+k-1) (by clear hq0 aa ab ac hgt hnn z n2 n1 h1;omega);have d3:=ai.dd (i:=lo+k-(ag+1)) (by clear hq0 aa ab ac hgt hnn z n2 n1 h1;omega);exact O.tr _ _ _ d1 d2 d3 (O.asym _ _ d1 d2 e) (al _ _ (by clear hq0 aa ab af ac hgt hnn z n2 n1 h1 hn;omega) (by clear hq0 aa ab af hgt hnn z n2 n1 h1 hn;omega) (by clear hq0 aa ab af ac hgt hnn z n2 n1 h1 hn;omega) (by clear hq0 aa ab af hgt hnn z n2 n1 h1 hn;omega))
      ·rw[cb hq0];refine bw ⟨ai,0,rfl,?_,by clear hq0 aa ab af ac hgt hnn z n2 n1 h1 hn;omega,fun i j h1 h2 h3 h4=>by
        have e1:i=j:=by clear hq0 aa ab af ac hgt hnn z n2 n1 hn;omega
        rw[e1];exact O.irr (ai.dd (by clear e1 h3 h2 h1 hq0 aa ab ac hgt hnn z n2 n1;omega))⟩
       exact fH (n:=lo+k) O ai (by clear hq0 aa ab ac hgt hnn z n2 n1 h1;omega) (by clear hq0 aa ab af hgt hnn z n2 n1 h1 hn;omega) an (O.asym _ _ (ai.dd (by clear hq0 aa ab ac hgt hnn z n2 n1 h1;omega)) (ai.dd (by clear hq0 aa ab ac hgt hnn z n2 n1 h1;omega)) e)
     |false=>
      simp only[cw,if_false];refine bu (cP O ai (i:=lo+k-1) (j:=lo+k) (by clear aa ab ac hgt hnn z n2 n1 h1;omega) (by clear aa ab ac hgt hnn z n2 n1 h1;omega) ?_);cases e2:lt (G (bx aj) (lo+k-1)) (G (bx aj) (lo+k))with
      |true=>
       simp only[if_true];exact bw ⟨ai,k,ag,rfl,by clear aa ab af hgt hnn z n2 n1 h1 hn;omega,by clear aa ab ac hgt hnn z n2 n1 h1 hn;omega,an,ab,al⟩
      |false=>
       simp only[cw,if_false];refine bw ⟨ai,ag+1,rfl,fH (n:=lo+k) O ai (by clear aa ab ac hgt hnn z n2 n1 h1;omega) (by clear aa ab af hgt hnn z n2 n1 h1 hn;omega) an e2,by clear aa af ac hgt hnn z n2 n1 h1 hn;omega,fun i j h1 h2 h3 h4=>?_⟩;have dk:=ai.dd (i:=lo+k) (by clear h4 h3 h2 h1 aa ab ac hgt hnn z n2 n1;omega);have dl:=ai.dd (i:=lo+k-1) (by clear h4 h3 h2 h1 aa ab ac hgt hnn z n2 n1;omega);by_cases z1:i=lo+k
       ·rw[z1];by_cases z2:j=lo+k
        ·rw[z2];exact O.irr dk
        ·exact O.tr _ _ _ (ai.dd (by clear z2 z1 h3 h2 h1 aa ab ac hgt hnn z n2 n1;omega)) dl dk (al _ _ (by clear z2 z1 h4 h3 h2 h1 aa ab af ac hgt hnn z n2 n1 hn;omega) (by clear z2 z1 h4 h3 h2 h1 aa ab af hgt hnn z n2 n1 hn;omega) (by clear z2 z1 h4 h2 h1 aa ab af ac hgt hnn z n2 n1 hn;omega) (by clear z1 h3 h2 h1 aa ab af ac hgt hnn z n2 n1 hn;omega)) e
       ·by_cases z2:j=lo+k
        ·rw[z2];exact O.tr _ _ _ dk dl (ai.dd (by clear z2 z1 h4 h3 h1 aa ab ac hgt hnn z n2 n1;omega)) e2 (al _ _ (by clear z2 z1 h4 h3 h2 aa ab af ac hgt hnn z n2 n1 hn;omega) (by clear z2 h4 h3 h1 aa ab af ac hgt hnn z n2 n1 hn;omega) (by clear z2 z1 h4 h3 h2 h1 aa ab af ac hgt hnn z n2 n1 hn;omega) (by clear z2 z1 h4 h3 h2 h1 aa ab af hgt hnn z n2 n1 hn;omega))
        ·exact al i j (by clear z2 z1 h4 h3 h2 aa ab af ac hgt hnn z n2 n1 hn;omega) (by clear z2 h4 h3 h1 aa ab af ac hgt hnn z n2 n1 hn;omega) (by clear z2 z1 h4 h2 h1 aa ab af ac hgt hnn z n2 n1 hn;omega) (by clear z1 h3 h2 h1 aa ab af ac hgt hnn z n2 n1 hn;omega)
    case post2=>
     rintro c aj ⟨ai,m,ag,rfl,m1,m2,an,ab,al⟩;have aa:lo+m<=(bx aj).size:=by rw[ai.size];(clear ab m1 aa hgt hnn z n2 n1 h1;omega)
     have ap:=ai.mirror (i:=lo+m-(ag+1)) (j:=lo+m) (by clear aa m2 m1 hgt hnn z n2 n1 h1 hn;omega) (by clear aa ab m1 hgt hnn z n2 n1 h1;omega);have aq:=kM aa (by clear aa m2 m1 hgt hnn z n2 n1 h1 hn;omega) an al;by_cases hq0:ag>0
     ·rw[cf hq0];refine bu (dU ?_);have am:=ap.mirror (i:=lo) (j:=lo+m) (cv _) (by clear hq0 aa ab m1 hgt hnn z n2 n1 h1;omega);have ao:Sg lt (bx (kr (kr aj (mirror (bx aj) (lo+m-(ag+1)) (lo+m) ((lo+m-(lo+m-(ag+1)))/2))) (mirror (mirror (bx aj) (lo+m-(ag+1)) (lo+m) ((lo+m-(lo+m-(ag+1)))/2)) lo (lo+m) ((lo+m-lo)/2)))) lo (lo+m):=oG (by rw[mirror_size];exact aa) aq;refine bu (dU ?_)
      revert am ao
      generalize (kr (kr aj (mirror (bx aj) (lo+m-(ag+1)) (lo+m) ((lo+m-(lo+m-(ag+1)))/2))) (mirror (mirror (bx aj) (lo+m-(ag+1)) (lo+m) ((lo+m-(lo+m-(ag+1)))/2)) lo (lo+m) ((lo+m-lo)/2)))=st4;intro am ao;refine bu (iz (fm (a:=m)
       (I:=fun k c st'=>st'=st4/\c=(none,k)/\Sg lt (bx st4) lo (lo+k))
       (Q:=fun c st'=>st'=st4/\∃n,c=(none,n)/\1<=n/\n<=ah/\Sg lt (bx st4) lo (lo+n)) ?step3 ?fin3 ⟨rfl,rfl,ao⟩) ?post3)
      case fin3=>
       rintro c ak ⟨rfl,rfl,hs⟩;rw[show max m ah=ah by clear hq0 aa ab m1 hgt hnn z n2 n1 h1 hn;omega]at hs ⊢;exact⟨rfl,ah,rfl,by clear hq0 aa ab m2 m1 hgt hnn z n2 n1 hn;omega,cv _,hs⟩
      case step3=>
       rintro k c ak ac af ⟨rfl,rfl,hs⟩;refine bu (cP O am (i:=lo+k) (j:=lo+k-1) (by clear ac hq0 aa ab m2 m1 hgt hnn z n2 n1 h1;omega) (by clear ac hq0 aa ab m2 m1 hgt hnn z n2 n1 h1;omega) ?_);cases e:lt (G (bx ak) (lo+k)) (G (bx ak) (lo+k-1))with
       |true=>
        simp only[if_true];exact bw ⟨rfl,k,rfl,by clear af hq0 aa ab m2 hgt hnn z n2 n1 h1 hn;omega,by clear ac hq0 aa ab m2 m1 hgt hnn z n2 n1 h1 hn;omega,hs⟩
       |false=>
        simp only[cw,if_false];exact bw ⟨rfl,rfl,Sg.more (n:=lo+k) O am (by clear ac hq0 aa ab m2 m1 hgt hnn z n2 n1 h1;omega) (by clear af hq0 aa ab m2 hgt hnn z n2 n1 h1 hn;omega) hs e⟩
      case post3=>
       rintro c ak ⟨rfl,n',rfl,p1,p2,hs⟩;exact bw (q n' ak am p1 p2 hs)
     ·rw[cb hq0];have am:=ai.mirror (i:=lo) (j:=lo+m) (cv _) (by clear hq0 aa ab m1 hgt hnn z n2 n1 h1;omega);have ao:Sg lt (bx (kr aj (mirror (bx aj) lo (lo+m) ((lo+m-lo)/2)))) lo (lo+m):=oG aa an;refine bu (dU ?_)
      revert am ao
      generalize (kr aj (mirror (bx aj) lo (lo+m) ((lo+m-lo)/2)))=st4;intro am ao;refine bu (iz (fm (a:=m)
       (I:=fun k c st'=>st'=st4/\c=(none,k)/\Sg lt (bx st4) lo (lo+k))
       (Q:=fun c st'=>st'=st4/\∃n,c=(none,n)/\1<=n/\n<=ah/\Sg lt (bx st4) lo (lo+n)) ?step3 ?fin3 ⟨rfl,rfl,ao⟩) ?post3)
      case fin3=>
       rintro c ak ⟨rfl,rfl,hs⟩;rw[show max m ah=ah by clear hq0 aa ab m1 hgt hnn z n2 n1 h1 hn;omega]at hs ⊢;exact⟨rfl,ah,rfl,by clear hq0 aa ab m2 m1 hgt hnn z n2 n1 hn;omega,cv _,hs⟩
      case step3=>
       rintro k c ak ac af ⟨rfl,rfl,hs⟩;refine bu (cP O am (i:=lo+k) (j:=lo+k-1) (by clear ac hq0 aa ab m2 m1 hgt hnn z n2 n1 h1;omega) (by clear ac hq0 aa ab m2 m1 hgt hnn z n2 n1 h1;omega) ?_);cases e:lt (G (bx ak) (lo+k)) (G (bx ak) (lo+k-1))with
       |true=>
        simp only[if_true];exact bw ⟨rfl,k,rfl,by clear af hq0 aa ab m2 hgt hnn z n2 n1 h1 hn;omega,by clear ac hq0 aa ab m2 m1 hgt hnn z n2 n1 h1 hn;omega,hs⟩
       |false=>
        simp only[cw,if_false];exact bw ⟨rfl,rfl,Sg.more (n:=lo+k) O am (by clear ac hq0 aa ab m2 m1 hgt hnn z n2 n1 h1;omega) (by clear af hq0 aa ab m2 hgt hnn z n2 n1 h1 hn;omega) hs e⟩
      case post3=>
       rintro c ak ⟨rfl,n',rfl,p1,p2,hs⟩;exact bw (q n' ak am p1 p2 hs)
  ·rw[cb hgt];have ae:n=1:=by clear hnn z n2 h1 hn;omega
   have hT:=h;have hF:Fg lt (bx st') lo (lo+(n+1)):=by
    subst ae;refine fH (n:=lo+1) O h (by clear hgt z n2 n1;omega) (by clear hgt hnn z n2 n1 h1 hn;omega) (fun p q p1 pq q2=>?_) (O.asym _ _ (h.dd (by clear hgt z n2 n1;omega)) (h.dd (by clear hgt hnn z n2 n1;omega)) ar);have e1:p=q:=by clear hgt hnn z n2 n1 h1 hn;omega
    rw[e1];exact O.irr (h.dd (by clear e1 pq p1 hgt hnn z n2 n1;omega))
   refine bu (wpS_lift (jw ⟨rfl,?_⟩));refine bu (iz (fm (a:=n+1)
    (I:=fun k c st'=>Tb kd D a₀ lo st0 st'/\∃ag,c=(none,k,ag)/\Fg lt (bx st') lo (lo+k)/\ag+1<=k/\Eg lt (bx st') (lo+k-(ag+1)) (lo+k))
    (Q:=fun c st'=>Tb kd D a₀ lo st0 st'/\∃m ag,c=(none,m,ag)/\1<=m/\m<=ah/\Fg lt (bx st') lo (lo+m)/\ag+1<=m/\Eg lt (bx st') (lo+m-(ag+1)) (lo+m)) ?step2 ?fin2 ⟨hT,0,rfl,hF,by clear ae hgt hnn z n2 n1 h1 hn;omega,fun i j h1 h2 h3 h4=>by
     have e1:i=j:=by clear ae hgt hnn z n2 n1 hn;omega
     rw[e1];exact O.irr (hT.dd (by clear e1 h3 h2 h1 ae hgt z n1;omega))⟩) ?post2)
   case fin2=>
    rintro c aj ⟨ai,ag,rfl,an,ab,al⟩;rw[show max (n+1) ah=ah by clear ab ae hgt z n1 h1 hn;omega]at an ab al ⊢;exact⟨ai,ah,ag,rfl,by clear ab ae hgt hnn z n2 n1 hn;omega,cv _,an,ab,al⟩
   case step2=>
    rintro k c aj ac af ⟨ai,ag,rfl,an,ab,al⟩;refine bu (cP O ai (i:=lo+k) (j:=lo+k-1) (by clear ab ac ae hgt hnn z n2 n1 h1;omega) (by clear ab ac ae hgt hnn z n2 n1 h1;omega) ?_);have aa:lo+k<=(bx aj).size:=by rw[ai.size];(clear ab ac ae hgt hnn z n2 n1 h1;omega)
    cases e:lt (G (bx aj) (lo+k)) (G (bx aj) (lo+k-1))with
    |true=>
     simp only[if_true];by_cases hq0:ag>0
     ·rw[cf hq0];have ap:=ai.mirror (i:=lo+k-(ag+1)) (j:=lo+k) (by clear hq0 aa af ac ae hgt hnn z n2 n1 h1 hn;omega) (by clear hq0 aa ab ac ae hgt hnn z n2 n1 h1;omega);refine bu (dU (bw ⟨ap,0,rfl,?_,by clear hq0 aa ab af ac ae hgt hnn z n2 n1 h1 hn;omega,fun i j h1 h2 h3 h4=>by
       have e1:i=j:=by clear hq0 aa ab af ac ae hgt hnn z n2 n1 hn;omega
       rw[e1];exact O.irr (ap.dd (by clear e1 h3 h2 h1 hq0 aa ab ac ae hgt hnn z n2 n1;omega))⟩))
      refine fH (n:=lo+k) O ap (by clear hq0 aa ab ac ae hgt hnn z n2 n1 h1;omega) (by clear hq0 aa ab af ae hgt hnn z n2 n1 h1 hn;omega) (kM aa (by clear hq0 aa af ac ae hgt hnn z n2 n1 h1 hn;omega) an al) ?_;show lt (G (mirror (bx aj) (lo+k-(ag+1)) (lo+k) _) (lo+k-1)) (G (mirror (bx aj) (lo+k-(ag+1)) (lo+k) _) (lo+k))=false;rw[sI aa (cv _),pW aa (by clear hq0 aa ab af ae hgt hnn z n2 n1 h1 hn;omega)];have d1:=ai.dd (i:=lo+k) (by clear hq0 aa ab ac ae hgt hnn z n2 n1 h1;omega);have d2:=ai.dd (i:=lo+k-1) (by clear hq0 aa ab ac ae hgt hnn z n2 n1 h1;omega);have d3:=ai.dd (i:=lo+k-(ag+1)) (by clear hq0 aa ab ac ae hgt hnn z n2 n1 h1;omega);exact O.tr _ _ _ d1 d2 d3 (O.asym _ _ d1 d2 e) (al _ _ (by clear hq0 aa ab af ac ae hgt hnn z n2 n1 h1 hn;omega) (by clear hq0 aa ab af ae hgt hnn z n2 n1 h1 hn;omega) (by clear hq0 aa ab af ac ae hgt hnn z n2 n1 h1 hn;omega) (by clear hq0 aa ab af ae hgt hnn z n2 n1 h1 hn;omega))
     ·rw[cb hq0];refine bw ⟨ai,0,rfl,?_,by clear hq0 aa ab af ac ae hgt hnn z n2 n1 h1 hn;omega,fun i j h1 h2 h3 h4=>by
       have e1:i=j:=by clear hq0 aa ab af ac ae hgt hnn z n2 n1 hn;omega
       rw[e1];exact O.irr (ai.dd (by clear e1 h3 h2 h1 hq0 aa ab ac ae hgt hnn z n2 n1;omega))⟩
      exact fH (n:=lo+k) O ai (by clear hq0 aa ab ac ae hgt hnn z n2 n1 h1;omega) (by clear hq0 aa ab af ae hgt hnn z n2 n1 h1 hn;omega) an (O.asym _ _ (ai.dd (by clear hq0 aa ab ac ae hgt hnn z n2 n1 h1;omega)) (ai.dd (by clear hq0 aa ab ac ae hgt hnn z n2 n1 h1;omega)) e)
    |false=>
     simp only[cw,if_false];refine bu (cP O ai (i:=lo+k-1) (j:=lo+k) (by clear aa ab ac ae hgt hnn z n2 n1 h1;omega) (by clear aa ab ac ae hgt hnn z n2 n1 h1;omega) ?_);cases e2:lt (G (bx aj) (lo+k-1)) (G (bx aj) (lo+k))with
     |true=>
      simp only[if_true];exact bw ⟨ai,k,ag,rfl,by clear aa ab af ae hgt hnn z n2 n1 h1 hn;omega,by clear aa ab ac ae hgt hnn z n2 n1 h1 hn;omega,an,ab,al⟩
     |false=>
      simp only[cw,if_false];refine bw ⟨ai,ag+1,rfl,fH (n:=lo+k) O ai (by clear aa ab ac ae hgt hnn z n2 n1 h1;omega) (by clear aa ab af ae hgt hnn z n2 n1 h1 hn;omega) an e2,by clear aa af ac ae hgt hnn z n2 n1 h1 hn;omega,fun i j h1 h2 h3 h4=>?_⟩;have dk:=ai.dd (i:=lo+k) (by clear h4 h3 h2 h1 aa ab ac ae hgt hnn z n2 n1;omega);have dl:=ai.dd (i:=lo+k-1) (by clear h4 h3 h2 h1 aa ab ac ae hgt hnn z n2 n1;omega);by_cases z1:i=lo+k
      ·rw[z1];by_cases z2:j=lo+k
       ·rw[z2];exact O.irr dk
       ·exact O.tr _ _ _ (ai.dd (by clear z2 z1 h3 h2 h1 aa ab ac ae hgt hnn z n2 n1;omega)) dl dk (al _ _ (by clear z2 z1 h4 h3 h2 h1 aa ab af ac ae hgt hnn z n2 n1 hn;omega) (by clear z2 z1 h4 h3 h2 h1 aa ab af ae hgt hnn z n2 n1 hn;omega) (by clear z2 z1 h4 h2 h1 aa ab af ac ae hgt hnn z n2 n1 hn;omega) (by clear z1 h3 h2 h1 aa ab af ac ae hgt hnn z n2 n1 hn;omega)) e
      ·by_cases z2:j=lo+k
       ·rw[z2];exact O.tr _ _ _ dk dl (ai.dd (by clear z2 z1 h4 h3 h1 aa ab ac ae hgt hnn z n2 n1;omega)) e2 (al _ _ (by clear z2 z1 h4 h3 h2 aa ab af ac ae hgt hnn z n2 n1 hn;omega) (by clear z2 h4 h3 h1 aa ab af ac ae hgt hnn z n2 n1 hn;omega) (by clear z2 z1 h4 h3 h2 h1 aa ab af ac ae hgt hnn z n2 n1 hn;omega) (by clear z2 z1 h4 h3 h2 h1 aa ab af ae hgt hnn z n2 n1 hn;omega))
       ·exact al i j (by clear z2 z1 h4 h3 h2 aa ab af ac ae hgt hnn z n2 n1 hn;omega) (by clear z2 h4 h3 h1 aa ab af ac ae hgt hnn z n2 n1 hn;omega) (by clear z2 z1 h4 h2 h1 aa ab af ac ae hgt hnn z n2 n1 hn;omega) (by clear z1 h3 h2 h1 aa ab af ac ae hgt hnn z n2 n1 hn;omega)
   case post2=>
    rintro c aj ⟨ai,m,ag,rfl,m1,m2,an,ab,al⟩;have aa:lo+m<=(bx aj).size:=by rw[ai.size];(clear ab m1 ae hgt hnn z n2 n1 h1;omega)
    have ap:=ai.mirror (i:=lo+m-(ag+1)) (j:=lo+m) (by clear aa m2 m1 ae hgt hnn z n2 n1 h1 hn;omega) (by clear aa ab m1 ae hgt hnn z n2 n1 h1;omega);have aq:=kM aa (by clear aa m2 m1 ae hgt hnn z n2 n1 h1 hn;omega) an al;by_cases hq0:ag>0
    ·rw[cf hq0];refine bu (dU ?_);have am:=ap.mirror (i:=lo) (j:=lo+m) (cv _) (by clear hq0 aa ab m1 ae hgt hnn z n2 n1 h1;omega);have ao:Sg lt (bx (kr (kr aj (mirror (bx aj) (lo+m-(ag+1)) (lo+m) ((lo+m-(lo+m-(ag+1)))/2))) (mirror (mirror (bx aj) (lo+m-(ag+1)) (lo+m) ((lo+m-(lo+m-(ag+1)))/2)) lo (lo+m) ((lo+m-lo)/2)))) lo (lo+m):=oG (by rw[mirror_size];exact aa) aq;refine bu (dU ?_)
     revert am ao
     generalize (kr (kr aj (mirror (bx aj) (lo+m-(ag+1)) (lo+m) ((lo+m-(lo+m-(ag+1)))/2))) (mirror (mirror (bx aj) (lo+m-(ag+1)) (lo+m) ((lo+m-(lo+m-(ag+1)))/2)) lo (lo+m) ((lo+m-lo)/2)))=st4;intro am ao;refine bu (iz (fm (a:=m)
      (I:=fun k c st'=>st'=st4/\c=(none,k)/\Sg lt (bx st4) lo (lo+k))
      (Q:=fun c st'=>st'=st4/\∃n,c=(none,n)/\1<=n/\n<=ah/\Sg lt (bx st4) lo (lo+n)) ?step3 ?fin3 ⟨rfl,rfl,ao⟩) ?post3)
     case fin3=>
      rintro c ak ⟨rfl,rfl,hs⟩;rw[show max m ah=ah by clear hq0 aa ab m1 ae hgt hnn z n2 n1 h1 hn;omega]at hs ⊢;exact⟨rfl,ah,rfl,by clear hq0 aa ab m2 m1 ae hgt hnn z n2 n1 hn;omega,cv _,hs⟩
     case step3=>
      rintro k c ak ac af ⟨rfl,rfl,hs⟩;refine bu (cP O am (i:=lo+k) (j:=lo+k-1) (by clear ac hq0 aa ab m2 m1 ae hgt hnn z n2 n1 h1;omega) (by clear ac hq0 aa ab m2 m1 ae hgt hnn z n2 n1 h1;omega) ?_);cases e:lt (G (bx ak) (lo+k)) (G (bx ak) (lo+k-1))with
      |true=>
       simp only[if_true];exact bw ⟨rfl,k,rfl,by clear af hq0 aa ab m2 ae hgt hnn z n2 n1 h1 hn;omega,by clear ac hq0 aa ab m2 m1 ae hgt hnn z n2 n1 h1 hn;omega,hs⟩
      |false=>
       simp only[cw,if_false];exact bw ⟨rfl,rfl,Sg.more (n:=lo+k) O am (by clear ac hq0 aa ab m2 m1 ae hgt hnn z n2 n1 h1;omega) (by clear af hq0 aa ab m2 ae hgt hnn z n2 n1 h1 hn;omega) hs e⟩
     case post3=>
      rintro c ak ⟨rfl,n',rfl,p1,p2,hs⟩;exact bw (q n' ak am p1 p2 hs)
    ·rw[cb hq0];have am:=ai.mirror (i:=lo) (j:=lo+m) (cv _) (by clear hq0 aa ab m1 ae hgt hnn z n2 n1 h1;omega);have ao:Sg lt (bx (kr aj (mirror (bx aj) lo (lo+m) ((lo+m-lo)/2)))) lo (lo+m):=oG aa an;refine bu (dU ?_)
     revert am ao
     generalize (kr aj (mirror (bx aj) lo (lo+m) ((lo+m-lo)/2)))=st4;intro am ao;refine bu (iz (fm (a:=m)
      (I:=fun k c st'=>st'=st4/\c=(none,k)/\Sg lt (bx st4) lo (lo+k))
      (Q:=fun c st'=>st'=st4/\∃n,c=(none,n)/\1<=n/\n<=ah/\Sg lt (bx st4) lo (lo+n)) ?step3 ?fin3 ⟨rfl,rfl,ao⟩) ?post3)
     case fin3=>
      rintro c ak ⟨rfl,rfl,hs⟩;rw[show max m ah=ah by clear hq0 aa ab m1 ae hgt hnn z n2 n1 h1 hn;omega]at hs ⊢;exact⟨rfl,ah,rfl,by clear hq0 aa ab m2 m1 ae hgt hnn z n2 n1 hn;omega,cv _,hs⟩
     case step3=>
      rintro k c ak ac af ⟨rfl,rfl,hs⟩;refine bu (cP O am (i:=lo+k) (j:=lo+k-1) (by clear ac hq0 aa ab m2 m1 ae hgt hnn z n2 n1 h1;omega) (by clear ac hq0 aa ab m2 m1 ae hgt hnn z n2 n1 h1;omega) ?_);cases e:lt (G (bx ak) (lo+k)) (G (bx ak) (lo+k-1))with
      |true=>
       simp only[if_true];exact bw ⟨rfl,k,rfl,by clear af hq0 aa ab m2 ae hgt hnn z n2 n1 h1 hn;omega,by clear ac hq0 aa ab m2 m1 ae hgt hnn z n2 n1 h1 hn;omega,hs⟩
      |false=>
       simp only[cw,if_false];exact bw ⟨rfl,rfl,Sg.more (n:=lo+k) O am (by clear ac hq0 aa ab m2 m1 ae hgt hnn z n2 n1 h1;omega) (by clear af hq0 aa ab m2 ae hgt hnn z n2 n1 h1 hn;omega) hs e⟩
     case post3=>
      rintro c ak ⟨rfl,n',rfl,p1,p2,hs⟩;exact bw (q n' ak am p1 p2 hs)
theorem DQ(O:LtOk prog w A E s kd D lt){a₀:Array cg}{lo n ok:Nat}{st0 st:fg}{Q:Bool->fg->Prop}(h:Tb kd D a₀ lo st0 st)(hn:lo+n<=a₀.size)(h1:1<=ok)(hok:ok<=n)(hs:Sg lt (bx st) lo (lo+ok))
  (q:∀st',Tb kd D a₀ lo st0 st'->Sg lt (bx st') lo (lo+n)->Q true st'):wpS (model prog w) A E s (binarySort' lo n ok) Q st:=by
 refine bu (iz (fm (a:=max ok 1)
  (I:=fun k c st'=>c=(none,())/\Tb kd D a₀ lo st0 st'/\Sg lt (bx st') lo (lo+k))
  (Q:=fun c st'=>c=(none,())/\Tb kd D a₀ lo st0 st'/\Sg lt (bx st') lo (lo+n)) ?step ?fin ⟨rfl,h,by rw[show max ok 1=ok by omega];exact hs⟩) ?post)
 case fin=>
  rintro c st' ⟨rfl,hT,hS⟩;rw[show max (max ok 1) n=n by omega]at hS;exact⟨rfl,hT,hS⟩
 case post=>
  rintro c st' ⟨rfl,hT,hS⟩;exact bw (q st' hT hS)
 case step=>
  rintro k c st' ae ac ⟨rfl,hT,hS⟩;have k1:1<=k:=yw
  refine bu (iz (fm (a:=0)
   (I:=fun j c z=>z=st'/\∃l r,c=(none,l,r)/\l<=r/\r<=k/\r-l+j<=k/\(∀i,i<l->lt (G (bx st') (lo+k)) (G (bx st') (lo+i))=false)/\∀i,r<=i->i<k->lt (G (bx st') (lo+k)) (G (bx st') (lo+i))=true)
   (Q:=fun c z=>z=st'/\∃l,c=(none,l,l)/\l<=k/\(∀i,i<l->lt (G (bx st') (lo+k)) (G (bx st') (lo+i))=false)/\∀i,l<=i->i<k->lt (G (bx st') (lo+k)) (G (bx st') (lo+i))=true) ?step2 ?fin2 ⟨rfl,0,k,rfl,yw,yw,yw,fun i hi=>by omega,fun i h1 h2=>by omega⟩) ?post2)
  case fin2=>
   rintro c z ⟨rfl,l,r,rfl,a1,a2,a3,a4,a5⟩;have:l=r:=yw
   subst this;exact⟨rfl,l,rfl,a2,a4,a5⟩
  case step2=>
   rintro j c z _ hj ⟨rfl,l,r,rfl,a1,a2,a3,a4,a5⟩;by_cases hlr:l≥r
   ·rw[cf hlr];have:l=r:=yw
    subst this;exact bw ⟨rfl,l,rfl,a2,a4,a5⟩
   rw[cb hlr];have hm:(l+r)/2<k:=yw
   refine bu (cP O hT (i:=lo+k) (j:=lo+(l+r)/2) yw yw ?_);have dk:=hT.dd (i:=lo+k) yw;have dm:=hT.dd (i:=lo+(l+r)/2) yw;cases e:lt (G (bx z) (lo+k)) (G (bx z) (lo+(l+r)/2))with
   |true=>
    simp only[if_true];refine bw ⟨rfl,l,(l+r)/2,rfl,yw,yw,yw,a4,fun i i1 i2=>?_⟩;have di:=hT.dd (i:=lo+i) yw;cases e2:lt (G (bx z) (lo+k)) (G (bx z) (lo+i))with
    |true=>rfl
    |false=>
     have:=O.tr _ _ _ dm di dk (hS (lo+(l+r)/2) (lo+i) yw yw yw) e2;rw[this]at e;cases e
   |false=>
    simp only[cw,if_false];refine bw ⟨rfl,(l+r)/2+1,r,rfl,yw,yw,yw,fun i i1=>?_,a5⟩;exact O.tr _ _ _ (hT.dd yw) dm dk (hS (lo+i) (lo+(l+r)/2) yw yw yw) e
  case post2=>
   rintro c z ⟨rfl,l,rfl,l1,l2,l3⟩;have aa:lo+k<(bx z).size:=by rw[hT.size];omega
   have hd:lo+k-(lo+l)=k-l:=yw
   refine bu (jl (bw ⟨rfl,hT.bubble (src:=lo+k) (d:=lo+k-(lo+l)) yw yw yw,?_⟩));intro i j hi ab hj;show lt (G (bubble (bx z) (lo+k) (lo+k-(lo+l))) j) (G (bubble (bx z) (lo+k) (lo+k-(lo+l))) i)=false;rw[rM aa yw,rM aa yw,show lo+k-(lo+k-(lo+l))=lo+l by omega];have dk:=hT.dd (i:=lo+k) yw;by_cases i1:i=lo+l
   ·rw[cf i1];by_cases j1:j=lo+l
    ·rw[cf j1];exact O.irr dk
    ·rw[cb j1,cf yw];have:=l3 (j-1-lo) yw yw;rw[show lo+(j-1-lo)=j-1 by omega]at this;exact O.asym _ _ dk (hT.dd yw) this
   ·rw[cb i1];by_cases i2:lo+l<i/\i<=lo+k
    ·rw[cf i2,cb yw,cf yw];exact hS _ _ yw yw yw
    ·rw[cb i2];by_cases j1:j=lo+l
     ·rw[cf j1];have:=l2 (i-lo) yw;rw[show lo+(i-lo)=i by omega]at this;exact this
     ·rw[cb j1];by_cases j2:lo+l<j/\j<=lo+k
      ·rw[cf j2];exact hS _ _ yw yw yw
      ·rw[cb j2];exact hS i j hi ab yw
structure Ts(kd:oy)(D:cg->Prop)(a₀:Array cg)(st:fg):Prop where
 kd:kindOf st=kd
 fl:ny st=none
 pm:(bx st).Perm a₀
 d:∀x∈a₀.toList,D x
section
variable {a₀:Array cg}{st:fg}
theorem Ts.size(h:Ts kd D a₀ st):(bx st).size=a₀.size:=h.pm.size_eq
theorem Ts.mem(h:Ts kd D a₀ st){x:cg}(m:x∈(bx st).toList):D x:=h.d x ((Array.perm_iff_toList_perm.mp h.pm).mem_iff.mp m)
theorem Ts.at(h:Ts kd D a₀ st){i:Nat}(hi:i<a₀.size):(bx st)[i]?=some (G (bx st) i):=qL (by rw[h.size];exact hi)
theorem Ts.dd(h:Ts kd D a₀ st){i:Nat}(hi:i<a₀.size):D (G (bx st) i):=h.mem (bq (by rw[<- zO];exact h.at hi))
theorem Ts.tb(h:Ts kd D a₀ st)(lo:Nat):Tb kd D a₀ lo st st:=⟨h.kd,h.fl,h.pm,rfl,fun _ _=>rfl,h.d⟩
end
theorem tT{xs:Array cg}{i:Nat}{x:cg}(h:xs.toList[i]?=some x):G xs i=x:=by
 unfold G;rw[zO.mpr h];rfl
theorem wO(s:Nat):∀(l:List cg) (k:Nat) (xs:Array cg),s+k+l.length<=xs.size->((l.zipIdx k).foldl (fun a p=>a.setIfInBounds (s+p.2) p.1) xs).toList=xs.toList.take (s+k)++l++xs.toList.drop (s+k+l.length)
 | [],k,xs,_=>by simp
 |x::l,k,xs,h=>by
  rw[fj]at h;rw[List.zipIdx_cons,nk,wO s l (k+1) _ (by rw[Array.size_setIfInBounds];omega)];simp only[Array.toList_setIfInBounds];have hl:s+k<xs.toList.length:=by simp;omega
  have e1:(xs.toList.set (s+k) x).take (s+(k+1))=xs.toList.take (s+k)++[x]:=by
   rw[show s+(k+1)=s+k+1 by omega,take_add_one,jr hl,List.take_set_of_le (cv _)];rfl
  have e2:(xs.toList.set (s+k) x).drop (s+(k+1)+l.length)=xs.toList.drop (s+k+(x::l).length):=by
   rw[List.drop_set_of_lt yw,fj];congr 1;omega
  rw[e1,e2];simp
theorem BN{x:fg}{Q:PUnit->fg->Prop}{st:fg}(h:Q ⟨⟩ x):wpS (model prog w) A E s (set x:StateT fg Sem PUnit) Q st:=by
 unfold wpS;rw[StateT.run_set];exact br ⟨rfl,h⟩
theorem iC{xs:Array cg}{lo hi:Nat}(hh:hi<=xs.size){x:cg}(m:x∈(xs.extract lo hi).toList):∃r,lo<=r/\r<hi/\G xs r=x:=by
 rw[km,gu]at m;obtain⟨j,hj⟩:=mem_iff_getElem?.mp m;rw[nu]at hj;split at hj
 ·rw[nv]at hj;exact⟨lo+j,by clear hh;omega,by clear hh;omega,tT hj⟩
 ·cases hj
theorem p8{xs:Array cg}{lo hi j:Nat}(hh:hi<=xs.size)(hj:j<hi-lo):(xs.extract lo hi)[j]?=some (G xs (lo+j)):=by
 rw[zO,km,gu,nu,cf yw,nv,<- zO];exact qL yw
theorem yV{xs:Array cg}{lo hi:Nat}(hh:hi<=xs.size)(h:Sg lt xs lo hi):SrtL lt (xs.extract lo hi).toList:=by
 unfold SrtL;rw[List.pairwise_iff_getElem];intro i j q z aa;have e1:=cp q;have e2:=cp z;have hl:(xs.extract lo hi).toList.length=hi-lo:=by simp;omega
 rw[<- zO,p8 hh yw]at e1 e2;rw[<- fx e1,<- fx e2];exact h _ _ yw yw yw
theorem Bv(O:LtOk prog w A E s kd D lt){a₀:Array cg}{i sa na pw sb nb aw:Nat}{st:fg}{Q:Bool->fg->Prop}(h:Ts kd D a₀ st)(e1:(cj st)[i]?=some (sa,na,pw))(e2:(cj st)[i+1]?=some (sb,nb,aw))(af:sb=sa+na)(ab:1<=na)(aa:1<=nb)(ae:sb+nb<=a₀.size)
  (sA:Sg lt (bx st) sa (sa+na)) (sB:Sg lt (bx st) sb (sb+nb))
  (q:∀st',Ts kd D a₀ st'->cj st'=((cj st).setIfInBounds i (sa,na+nb,pw)).eraseIdxIfInBounds (i+1)->(∀j,j<sa\/sa+na+nb<=j->G (bx st') j=G (bx st) j)->Sg lt (bx st') sa (sa+na+nb)->Q true st'):wpS (model prog w) A E s (mergeAt' i) Q st:=by
 refine bu (ol ?_);simp only[e1,e2];have ac:(bx st).size=a₀.size:=h.size;refine bu (BN ?_);refine bu (zq (h.at (i:=sb) (by clear ac ab af;omega)) ?_);refine bu (gal O (key:=G (bx st) sb) (hint:=0) h.kd (h.dd (by clear ac ab af;omega)) (fun j h1 h2=>⟨_,h.at (by clear h1 ac aa ab;omega),h.dd (by clear h1 ac aa ab;omega)⟩) (fun i j x y h1 h2 h3 ex ey=>by
  rw[h.at (by clear h1 ac aa ab;omega)]at ex ey;cases ex;cases ey;exact sA i j h1 h2 h3) (by clear ac ae aa af;omega) fun k hk g1 g2=>?_)
 dsimp only;have ar:∀j,sa<=j->j<sa+k->lt (G (bx st) sb) (G (bx st) j)=false:=fun j h1 h2=>by
  have:=g1 j _ h1 h2 (h.at (by clear h1 ac aa ab;omega));simpa[bey]using this
 have ax:∀j,sa+k<=j->j<sa+na->lt (G (bx st) sb) (G (bx st) j)=true:=fun j h1 h2=>by
  have:=g2 j _ h1 h2 (h.at (by clear h1 hk ac aa ab;omega));simpa[bey]using this
 by_cases c1:na-k=0
 ·rw[cf (by simpa using c1)];refine bw (q _ ⟨h.kd,h.fl,h.pm,h.d⟩ rfl (fun j _=>rfl) fun p r hp ag hr=>?_);show lt (G (bx st) r) (G (bx st) p)=false;by_cases z1:r<sa+na
  ·exact sA p r hp ag z1
  ·by_cases z2:p<sa+na
   ·exact O.tr _ _ _ (h.dd (by clear z2 z1 hp c1 hk ac aa ab;omega)) (h.dd (i:=sb) (by clear z2 z1 hr ag hp c1 hk ac ab af;omega)) (h.dd (by clear z2 z1 ag hp c1 hk ac aa ab;omega)) (ar p hp (by clear z1 hr ag hp hk ac ae aa ab af;omega)) (sB sb r (cv _) (by clear z2 hr ag hp c1 hk ac ae aa ab;omega) (by clear z2 z1 ag hp c1 hk ac ae aa ab;omega))
   ·exact sB p r (by clear z1 hr ag hp c1 hk ac ae aa ab;omega) ag (by clear z2 z1 ag hp c1 hk ac ae aa ab;omega)
 rw[cb (by simpa using c1)];have ei:sa+k+(na-k)-1=sb-1:=by clear c1 ac ae aa ab;omega
 rw[ei];refine bu (zq (h.at (i:=sb-1) (by clear ei c1 hk ac aa;omega)) ?_);refine bu (gal O (key:=G (bx st) (sb-1)) (hint:=nb-1) h.kd (h.dd (by clear ei c1 hk ac aa;omega)) (fun j h1 h2=>⟨_,h.at (by clear h1 ei c1 hk ac aa ab af;omega),h.dd (by clear h1 ei c1 hk ac aa ab af;omega)⟩) (fun i j x y h1 h2 h3 ex ey=>by
  rw[h.at (by clear h1 ei c1 hk ac aa ab af;omega)]at ex ey;cases ex;cases ey;exact sB i j h1 h2 h3) (by clear ei c1 hk ac ae ab af;omega) fun m hm f1 f2=>?_)
 dsimp only;have a0:∀j,sb<=j->j<sb+m->lt (G (bx st) j) (G (bx st) (sb-1))=true:=fun j h1 h2=>by
  have:=f1 j _ h1 h2 (h.at (by clear h1 ei c1 hk ac aa ab af;omega));simpa[bey]using this
 have aq:∀j,sb+m<=j->j<sb+nb->lt (G (bx st) j) (G (bx st) (sb-1))=false:=fun j h1 h2=>by
  have:=f2 j _ h1 h2 (h.at (by clear h1 hm ei c1 hk ac aa ab af;omega));simpa[bey]using this
 by_cases c2:m=0
 ·rw[cf (by simpa using c2)];refine bw (q _ ⟨h.kd,h.fl,h.pm,h.d⟩ rfl (fun j _=>rfl) fun p r hp ag hr=>?_);show lt (G (bx st) r) (G (bx st) p)=false;by_cases z1:r<sa+na
  ·exact sA p r hp ag z1
  ·by_cases z2:p<sa+na
   ·exact O.tr _ _ _ (h.dd (by clear z2 z1 hp c2 hm ei c1 hk ac aa ab;omega)) (h.dd (i:=sb-1) (by clear z2 z1 hr ag hp c2 hm ei c1 hk ac aa;omega)) (h.dd (by clear z2 z1 ag hp c2 hm ei c1 hk ac aa ab;omega)) (sA p (sb-1) hp (by clear z1 hr ag hp c2 hm ei c1 hk ac ae aa ab;omega) (by clear z2 z1 hr ag hp c2 hm ei c1 hk ac ae aa;omega)) (aq r (by clear z2 hr ag hp hm ei c1 hk ac ae aa ab;omega) (by clear z2 z1 ag hp c2 hm ei c1 hk ac ae aa ab;omega))
   ·exact sB p r (by clear z1 hr ag hp c2 hm ei c1 hk ac ae aa ab;omega) ag (by clear z2 z1 ag hp c2 hm ei c1 hk ac ae aa ab;omega)
 rw[cb (by simpa using c2)];have xD:∀x∈((bx st).extract (sa+k) sb).toList,D x:=fun x mx=>by
  obtain⟨r,r1,r2,rfl⟩:=iC (by clear c2 hm ei c1 hk aa ab af;omega) mx;exact h.dd (by clear r1 c2 hm ei c1 hk ac aa ab af;omega)
 have yD:∀x∈((bx st).extract sb (sb+m)).toList,D x:=fun x mx=>by
  obtain⟨r,r1,r2,rfl⟩:=iC (by clear c2 ei c1 hk aa ab af;omega) mx;exact h.dd (by clear r1 c2 ei c1 hk ac aa ab af;omega)
 have xS:=yV (lt:=lt) (xs:=bx st) (lo:=sa+k) (hi:=sb) (by clear c2 hm ei c1 hk aa ab af;omega) fun p r h1 h2 h3=>sA p r (by clear h3 h2 c2 hm ei c1 hk ac ae aa ab af;omega) h2 (by clear h2 h1 c2 hm ei c1 hk ac ae aa ab;omega);have yS:=yV (lt:=lt) (xs:=bx st) (lo:=sb) (hi:=sb+m) (by clear c2 ei c1 hk aa ab af;omega) fun p r h1 h2 h3=>sB p r (by clear h3 h2 c2 hm ei c1 hk ac ae aa ab af;omega) h2 (by clear h2 h1 c2 ei c1 hk ac ae aa ab af;omega);have xz:((bx st).extract (sa+k) sb).size=sb-(sa+k):=by simp;(clear c2 hm ei c1 hk aa ab af;omega)
 have yz:((bx st).extract sb (sb+m)).size=m:=by simp;(clear xz c2 ei c1 hk aa ab af;omega)
 have y0:∀y,((bx st).extract sb (sb+m))[0]?=some y->∀x∈((bx st).extract (sa+k) sb).toList,lt x y=false:=fun y ey x mx=>by
  rw[p8 (by clear yz xz c2 ei c1 hk aa ab af;omega) (by clear yz xz hm ei c1 hk ac ae aa ab af;omega)]at ey;cases ey;obtain⟨r,r1,r2,rfl⟩:=iC (by clear yz xz c2 hm ei c1 hk aa ab af;omega) mx;exact O.asym _ _ (h.dd (by clear r2 r1 yz xz c2 hm ei c1 hk ac ab af;omega)) (h.dd (by clear r1 yz xz c2 hm ei c1 hk ac aa ab af;omega)) (ax r r1 (by clear r1 yz xz c2 hm ei c1 hk ac ae aa ab;omega))
 have xl:∀x,((bx st).extract (sa+k) sb)[((bx st).extract (sa+k) sb).size-1]?=some x->∀y∈((bx st).extract sb (sb+m)).toList,lt x y=false:=fun x ex y my=>by
  rw[xz,p8 (by clear yz xz c2 hm ei c1 hk aa ab af;omega) (by clear yz xz c2 hm ei hk ac ae aa ab;omega)]at ex;cases ex;obtain⟨r,r1,r2,rfl⟩:=iC (by clear yz xz c2 ei c1 hk aa ab af;omega) my;rw[show sa+k+(sb-(sa+k)-1)=sb-1 by clear r2 r1 yz xz c2 hm ei hk ac ae aa ab;omega];exact O.asym _ _ (h.dd (by clear r1 yz xz c2 ei c1 hk ac aa ab af;omega)) (h.dd (by clear r2 r1 yz xz c2 hm ei c1 hk ac aa;omega)) (a0 r r1 r2)
 have fin:∀(out:Array cg) (st':fg) (ak:fg),MDone lt (((bx st).extract (sa+k) sb).toList++((bx st).extract sb (sb+m)).toList) out.toList->sameSt ak st'->bx ak=bx st->kindOf ak=kindOf st->ny ak=ny st->cj ak=((cj st).setIfInBounds i (sa,na+nb,pw)).eraseIdxIfInBounds (i+1) ->
   ∀ai:fg,kindOf ai=kindOf st'->ny ai=ny st'->cj ai=cj st'->bx ai=ly (fun a x=>a.setIfInBounds (sa+k+x.snd) x.fst) (bx st') out.toList.zipIdx->Q true ai/\ny ai=none:=fun out st' ak hd an a2 a1 az as ai ek ef ep ea=>by
  obtain⟨s1,s2,s3,s4⟩:=an;have ah:out.toList.length=sb-(sa+k)+m:=by
   have:=hd.1.length_eq;rw[cq]at this;simp only[fc]at this ⊢
   (clear c2 hm ei c1 hk ac ae aa ab af;omega)
  rw[s2,a2]at ea;have hw:=wO (sa+k) out.toList 0 (bx st) (by clear yz xz c2 ei c1 aa ab;omega);have ht:(bx ai).toList=(bx st).toList.take (sa+k)++out.toList++(bx st).toList.drop (sb+m):=by
   rw[ea];rw[pb]at hw;rw[hw];congr 2
   (clear yz xz c2 hm ei c1 ac ae aa ab;omega)
  have av:(bx ai).Perm (bx st):=by
   rw[Array.perm_iff_toList_perm,ht];have e0:(bx st).toList=(bx st).toList.take (sa+k)++(((bx st).extract (sa+k) sb).toList++((bx st).extract sb (sb+m)).toList)++(bx st).toList.drop (sb+m):=by
    rw[km,km,gu,gu,io,io,show sb+m-sb=m by clear ah yz xz c2 hm ei c1 hk ac ae aa ab af;omega];have q1:(bx st).toList.drop (sb+m)=((bx st).toList.drop sb).drop m:=by rw[List.drop_drop]
    rw[q1,jk];have q2:(bx st).toList.drop sb=((bx st).toList.drop (sa+k)).drop (sb-(sa+k)):=by rw[List.drop_drop];congr 1;(clear ah yz xz c2 hm ei c1 ac ae aa ab;omega)
    rw[q2,jk,jk]
   conv=>rhs;rw[e0]
   exact(hd.1.append_left _).append_right _
  have ap:Ts kd D a₀ ai:=⟨ek.trans (s1.trans (a1.trans h.kd)),ef.trans (s4.trans (az.trans h.fl)),av.trans h.pm,h.d⟩;have tl:((bx st).toList.take (sa+k)).length=sa+k:=by rw[jh,fc];(clear ah yz xz c2 hm ei c1 aa ab;omega)
  have aj:∀j,j<sa+k\/sb+m<=j->G (bx ai) j=G (bx st) j:=fun j hj=>by
   unfold G;congr 1;rw[<- iq,<- iq,ht];rcases hj with hj|hj
   ·rw[io,cx (by clear ah yz xz c2 hm ei c1 hk ac ae aa ab af;omega),nu,cf hj]
   ·rw[kq (by rw[cq,tl,ah];(clear tl ah yz xz c2 hm ei c1 ac ae aa ab;omega)),cq,tl,ah,nv];congr 1
    (clear tl ah yz xz c2 hm ei c1 ac ae aa ab;omega)
  have ao:∀j,sa+k<=j->j<sb+m->∃z,out.toList[j-(sa+k)]?=some z/\G (bx ai) j=z/\∃r,sa+k<=r/\r<sb+m/\G (bx st) r=z:=fun j h1 h2=>by
   have hj:j-(sa+k)<out.toList.length:=by clear h1 tl yz xz c2 hm ei hk ac ae aa ab;omega
   have ez:=cp hj;refine⟨_,ez,tT ?_,?_⟩
   ·rw[ht,io,kq (by clear h2 ah yz xz c2 hm ei c1 hk ac ae aa ab af;omega),tl,cx hj];exact ez
   ·have mz:=hd.1.mem_iff.mp (bq ez);rcases mem_append.mp mz with mz|mz
    ·obtain⟨r,r1,r2,r3⟩:=iC (by clear h2 h1 tl ah yz xz c2 hm ei c1 hk aa ab af;omega) mz;exact⟨r,r1,by clear r1 h2 h1 tl ah yz xz c2 hm ei c1 hk ac ae aa ab af;omega,r3⟩
    ·obtain⟨r,r1,r2,r3⟩:=iC (by clear h2 h1 tl ah yz xz c2 ei c1 hk aa ab af;omega) mz;exact⟨r,by clear r2 h2 h1 tl ah yz xz c2 hm ei c1 ac ae aa ab;omega,r2,r3⟩
  refine⟨q ai ap (ep.trans (s3.trans as)) (fun j hj=>aj j (by clear tl ah yz xz c2 ei c1 hk ac ae aa ab;omega)) fun p r hp ag hr=>?_,ap.fl⟩;have up:∀p q',sa<=p->p<sa+k->sb<=q'->q'<sb+nb->lt (G (bx st) q') (G (bx st) p)=false:=fun p q' p1 p2 q1 q2=>O.tr _ _ _ (h.dd (by clear q2 q1 p1 hr ag hp tl ah yz xz c2 hm ei c1 ac aa ab;omega)) (h.dd (i:=sb) (by clear q2 q1 p2 p1 hr ag hp tl ah yz xz c2 hm ei c1 hk ac ab af;omega)) (h.dd (by clear q1 p2 p1 hr ag hp tl ah yz xz c2 hm ei c1 hk ac aa ab af;omega)) (ar p p1 p2) (sB sb q' (cv _) q1 q2);have dn:∀p q',sa<=p->p<sb->sb+m<=q'->q'<sb+nb->lt (G (bx st) q') (G (bx st) p)=false:=fun p q' p1 p2 q1 q2=>O.tr _ _ _ (h.dd (by clear q2 q1 p1 hr ag hp tl ah yz xz c2 hm ei c1 hk ac aa ab af;omega)) (h.dd (i:=sb-1) (by clear q2 q1 p2 p1 hr ag hp tl ah yz xz c2 hm ei c1 hk ac aa;omega)) (h.dd (by clear q1 p2 p1 hr ag hp tl ah yz xz c2 hm ei c1 hk ac aa ab af;omega)) (sA p (sb-1) p1 (by clear q2 q1 p1 hr ag hp tl ah yz xz c2 hm ei c1 hk ac ae aa ab af;omega) (by clear q2 q1 p2 p1 hr ag hp tl ah yz xz c2 hm ei c1 hk ac ae aa;omega)) (aq q' q1 q2);by_cases p1:p<sa+k
  ·rw[aj p (.inl p1)];by_cases r1:r<sa+k
   ·rw[aj r (.inl r1)];exact sA p r hp ag (by clear p1 hr ag hp tl ah yz xz c2 hm ei c1 ac ae aa ab af;omega)
   by_cases r2:sb+m<=r
   ·rw[aj r (.inr r2)];exact up p r hp p1 (by clear r1 p1 hr ag hp tl ah yz xz c2 hm ei c1 hk ac ae aa ab af;omega) (by clear r2 r1 p1 ag hp tl ah yz xz c2 hm ei c1 hk ac ae aa ab;omega)
   ·obtain⟨z,_,ez,t,t1,t2,t3⟩:=ao r (by clear r2 p1 hr ag hp tl ah yz xz c2 hm ei c1 hk ac ae aa ab af;omega) (by clear r1 p1 hr ag hp tl ah yz xz c2 hm ei c1 hk ac ae aa ab af;omega);rw[ez,<- t3];by_cases tb:t<sb
    ·exact sA p t hp (by clear tb t2 r2 r1 hr ag hp tl ah yz xz c2 hm ei c1 hk ac ae aa ab af;omega) (by clear t2 t1 r2 r1 p1 hr ag hp tl ah yz xz c2 hm ei c1 hk ac ae aa ab;omega)
    ·exact up p t hp p1 (by clear t2 t1 r2 r1 p1 hr ag hp tl ah yz xz c2 hm ei c1 hk ac ae aa ab af;omega) (by clear tb t1 r2 r1 p1 hr ag hp tl ah yz xz c2 ei c1 hk ac ae aa ab af;omega)
  by_cases p2:sb+m<=p
  ·rw[aj p (.inr p2),aj r (.inr (by clear p1 hr hp tl ah yz xz c2 hm ei c1 hk ac ae aa ab af;omega))];exact sB p r (by clear p1 hr ag hp tl ah yz xz c2 hm ei c1 hk ac ae aa ab af;omega) ag (by clear p2 p1 ag hp tl ah yz xz c2 hm ei c1 hk ac ae aa ab;omega)
  obtain⟨z,oz,ez,t,t1,t2,t3⟩:=ao p (by clear p2 hr ag hp tl ah yz xz c2 hm ei c1 hk ac ae aa ab af;omega) (by clear p1 hr ag hp tl ah yz xz c2 hm ei c1 hk ac ae aa ab af;omega);by_cases r2:sb+m<=r
  ·rw[aj r (.inr r2),ez,<- t3];by_cases tb:t<sb
   ·exact dn t r (by clear tb r2 t2 p2 p1 hr ag hp tl ah yz xz c2 hm ei c1 hk ac ae aa ab af;omega) tb r2 (by clear tb r2 t2 t1 p2 p1 ag hp tl ah yz xz c2 hm ei c1 hk ac ae aa ab;omega)
   ·exact sB t r (by clear r2 t2 t1 p2 p1 hr ag hp tl ah yz xz c2 hm ei c1 hk ac ae aa ab af;omega) (by clear tb t1 p2 p1 hr ag hp tl ah yz xz c2 hm ei c1 hk ac ae aa ab af;omega) (by clear tb r2 t2 t1 p2 p1 ag hp tl ah yz xz c2 hm ei c1 hk ac ae aa ab;omega)
  ·obtain⟨z',ay,au,_⟩:=ao r (by clear r2 t2 t1 p2 hr hp tl ah yz xz c2 hm ei c1 hk ac ae aa ab af;omega) (by clear t2 t1 p2 p1 hr ag hp tl ah yz xz c2 hm ei c1 hk ac ae aa ab af;omega);rw[ez,au];exact bO O hd.2 (fun x mx=>by
    rcases mem_append.mp (hd.1.mem_iff.mp mx)with mx|mx
    ·exact xD x mx
    ·exact yD x mx) (show p-(sa+k)<=r-(sa+k) by clear r2 t2 t1 p2 p1 hr hp tl ah yz xz c2 hm ei c1 hk ac ae aa ab af;omega) oz ay
 have al:1<=((bx st).extract (sa+k) sb).size:=by rw[xz];(clear yz xz c2 hm ei hk ac ae aa ab;omega)
 have am:1<=((bx st).extract sb (sb+m)).size:=by rw[yz];(clear al yz xz hm ei c1 hk ac ae aa ab af;omega)
 have al:1<=((bx st).extract (sa+k) sb).size:=by rw[xz];(clear am al yz xz c2 hm ei hk ac ae aa ab;omega)
 have am:1<=((bx st).extract sb (sb+m)).size:=by rw[yz];(clear al am yz xz hm ei c1 hk ac ae aa ab af;omega)
 by_cases c3:na-k<=m
 ·rw[cf c3];refine bu (C4 O h.kd xD yD xS yS al am y0 xl fun out st' hd an=>?_);refine bu (jl (bu (ol ?_)));obtain⟨z1,z2⟩:=fin out st' _ hd an rfl rfl rfl rfl (kr st' (ly (fun a x=>a.setIfInBounds (sa+k+x.snd) x.fst) (bx st') out.toList.zipIdx)) rfl rfl rfl rfl;refine bw ?_;show Q (ny (kr st' (ly (fun a x=>a.setIfInBounds (sa+k+x.snd) x.fst) (bx st') out.toList.zipIdx))).isNone (kr st' (ly (fun a x=>a.setIfInBounds (sa+k+x.snd) x.fst) (bx st') out.toList.zipIdx));rw[z2];exact z1
 ·rw[cb c3];refine bu (CD O h.kd xD yD xS yS al am y0 xl fun out st' hd an=>?_);refine bu (jl (bu (ol ?_)));obtain⟨z1,z2⟩:=fin out st' _ hd an rfl rfl rfl rfl (kr st' (ly (fun a x=>a.setIfInBounds (sa+k+x.snd) x.fst) (bx st') out.toList.zipIdx)) rfl rfl rfl rfl;refine bw ?_;show Q (ny (kr st' (ly (fun a x=>a.setIfInBounds (sa+k+x.snd) x.fst) (bx st') out.toList.zipIdx))).isNone (kr st' (ly (fun a x=>a.setIfInBounds (sa+k+x.snd) x.fst) (bx st') out.toList.zipIdx));rw[z2];exact z1
def Stk(lt:cg->cg->Bool)(xs:Array cg):Nat->List (Nat×Nat×Nat)->Nat->Prop
 |s,[],e=>s=e
 |s,r::p,e=>r.1=s/\1<=r.2.1/\Sg lt xs s (s+r.2.1)/\Stk lt xs (s+r.2.1) p e
theorem Stk.le{xs:Array cg}:∀{p:List (Nat×Nat×Nat)}{s e:Nat},Stk lt xs s p e->s+p.length<=e
 | [],s,e,h=>by have:s=e:=h;simp;omega
 |r::p,s,e,h=>by
  obtain⟨h1,h2,h3,h4⟩:=h;have:=Stk.le h4;rw[fj]
  (clear h1;omega)
theorem Stk.mono{xs ys:Array cg}:∀{p:List (Nat×Nat×Nat)}{s e:Nat},Stk lt xs s p e->(∀i,s<=i->i<e->G ys i=G xs i)->Stk lt ys s p e
 | [],s,e,h,_=>h
 |r::p,s,e,h,k=>by
  obtain⟨h1,h2,h3,h4⟩:=h;have:=Stk.le h4;refine⟨h1,h2,fun i j hi q hj=>?_,Stk.mono h4 fun i hi hj=>k i yw hj⟩;rw[k i yw yw,k j yw yw];exact h3 i j hi q hj
theorem Stk.push{xs:Array cg}{n w':Nat}:∀{p:List (Nat×Nat×Nat)}{s e:Nat},Stk lt xs s p e->1<=n->Sg lt xs e (e+n)->Stk lt xs s (p++[(e,n,w')]) (e+n)
 | [],s,e,h,h1,h2=>by
  have:s=e:=h;subst this;exact⟨rfl,h1,h2,rfl⟩
 |r::p,s,e,h,k1,k2=>by
  obtain⟨h1,h2,h3,h4⟩:=h;exact⟨h1,h2,h3,Stk.push h4 k1 k2⟩
theorem Stk.modLast{xs:Array cg}{pw:Nat}:∀{p:List (Nat×Nat×Nat)}{s e:Nat},Stk lt xs s p e->∀k,Stk lt xs s (p.modify k fun x=>(x.1,x.2.1,pw)) e
 | [],s,e,h,k=>by simpa using h
 |r::p,s,e,h,0=>by
  obtain⟨h1,h2,h3,h4⟩:=h;exact⟨h1,h2,h3,h4⟩
 |r::p,s,e,h,k+1=>by
  obtain⟨h1,h2,h3,h4⟩:=h;exact⟨h1,h2,h3,Stk.modLast h4 k⟩
theorem Stk.at{xs:Array cg}{sa na pw sb nb ac:Nat}:∀{p:List (Nat×Nat×Nat)}{s e i:Nat},Stk lt xs s p e->p[i]?=some (sa,na,pw)->p[i+1]?=some (sb,nb,ac) ->
  s<=sa/\sb=sa+na/\1<=na/\1<=nb/\sb+nb<=e/\Sg lt xs sa (sa+na)/\Sg lt xs sb (sb+nb)/\∀ys:Array cg,(∀j,j<sa\/sa+na+nb<=j->G ys j=G xs j)->Sg lt ys sa (sa+na+nb)->Stk lt ys s ((p.set i (sa,na+nb,pw)).eraseIdx (i+1)) e
 | [],s,e,i,_,h1,_=>by simp at h1
 |r::p,s,e,0,h,e1,e2=>by
  have er:r=(sa,na,pw):=by simpa using e1
  subst er;cases p with
  |nil=>simp at e2
  |cons r2 p=>
   have af:r2=(sb,nb,ac):=by simpa using e2
   subst af;obtain⟨h1,h2,h3,h5,h6,h7,h8⟩:=h;have ah:sa=s:=h1;have ag:sb=s+na:=h5;subst ah;have q:=Stk.le h8;have aa:1<=nb:=h6;have z:1<=na:=h2;subst ag;have ae:Stk lt xs (sa+na+nb) p e:=h8;refine⟨cv _,rfl,z,aa,by have:sa+na+nb+p.length<=e:=q;(clear q h5 h6 z aa h1 h2;omega),h3,h7,fun ys k1 k2=>?_⟩;refine⟨rfl,by show 1<=na+nb;(clear q h5 h6 z h1 h2;omega),?_,?_⟩
   ·show Sg lt ys sa (sa+(na+nb));rw[<- Nat.add_assoc];exact k2
   ·show Stk lt ys (sa+(na+nb)) p e;rw[<- Nat.add_assoc];exact Stk.mono ae fun i hi hj=>k1 i (.inr hi)
 |r::p,s,e,i+1,h,e1,e2=>by
  obtain⟨h1,h2,h3,h4⟩:=h;obtain⟨q1,q2,q3,q4,q5,q6,q7,q8⟩:=Stk.at h4 (by simpa using e1) (by simpa using e2);refine⟨by clear q5 q4 q3 q2 h2 h1;omega,q2,q3,q4,q5,q6,q7,fun ys k1 k2=>?_⟩;refine⟨h1,h2,fun i j hi ab hj=>?_,q8 ys k1 k2⟩;rw[k1 i (.inl (by clear hi q5 q4 q3 q2 h2 h1;omega)),k1 j (.inl (by clear ab hi q5 q4 q3 q2 h2 h1;omega))];exact h3 i j hi ab hj
theorem qI(O:LtOk prog w A E s kd D lt){a₀:Array cg}{i lo:Nat}{st:fg}{Q:Bool->fg->Prop}(h:Ts kd D a₀ st)(hs:Stk lt (bx st) 0 (cj st).toList lo)(aa:lo<=a₀.size)(hi:i+1<(cj st).size)
  (q:∀st',Ts kd D a₀ st'->Stk lt (bx st') 0 (cj st').toList lo->(cj st').size+1=(cj st).size->(∀j,lo<=j->G (bx st') j=G (bx st) j)->Q true st'):wpS (model prog w) A E s (mergeAt' i) Q st:=by
 obtain⟨⟨sa,na,pw⟩,g1⟩:∃r,(cj st)[i]?=some r:=⟨_,fk yw⟩;obtain⟨⟨sb,nb,ab⟩,g2⟩:∃r,(cj st)[i+1]?=some r:=⟨_,fk yw⟩;obtain⟨q1,q2,q3,q4,q5,q6,q7,q8⟩:=Stk.at hs (i:=i) (by rw[<- iq]at g1;exact g1) (by rw[<- iq]at g2;exact g2);refine Bv O h g1 g2 q2 q3 q4 yw q6 q7 fun st' hT hp hg hS=>?_;have z:(cj st').toList=((cj st).toList.set i (sa,na+nb,pw)).eraseIdx (i+1):=by
  rw[hp,Array.eraseIdxIfInBounds,dif_pos (by rw[Array.size_setIfInBounds];exact hi),Array.toList_eraseIdx,Array.toList_setIfInBounds]
 refine q st' hT ?_ ?_ fun j hj=>hg j (.inr yw)
 ·rw[z];exact q8 _ hg hS
 ·have:=congrArg List.length z;rw[List.length_eraseIdx_of_lt (by simp;omega),length_set,fc,fc]at this;omega
theorem F1(O:LtOk prog w A E s kd D lt){a₀:Array cg}{st:fg}{Q:Unit->fg->Prop}(h:Ts kd D a₀ st)(aq:cj st = #[])(h2:2<=a₀.size)
  (q:∀st',Ts kd D a₀ st'->Sg lt (bx st') 0 a₀.size->Q () st'):wpS (model prog w) A E s sortRuns' Q st:=by
 rw[sortRuns'_eq];refine bu (ol ?_);dsimp only;rw[h.size];generalize minRun' a₀.size a₀.size 0=mr;refine bu (iz (fm (a:=0)
  (I:=fun k c st'=>∃lo,c=(none,lo)/\k<=lo/\lo<=a₀.size/\Ts kd D a₀ st'/\Stk lt (bx st') 0 (cj st').toList lo)
  (Q:=fun c st'=>∃lo,c=(none,lo)/\lo=a₀.size/\Ts kd D a₀ st'/\Stk lt (bx st') 0 (cj st').toList lo) ?step ?fin ⟨0,rfl,cv _,jo _,h,by rw[aq];rfl⟩) ?post)
 case fin=>
  rintro c st' ⟨lo,rfl,k1,k2,hT,hS⟩;exact⟨lo,rfl,yw,hT,hS⟩
 case post=>
  rintro c st' ⟨lo,rfl,rfl,hT,hS⟩;dsimp only;have hz:=Stk.le hS;rw[fc]at hz;refine bu (iz (fm (a:=0)
   (I:=fun k c ab=>c=(none,())/\Ts kd D a₀ ab/\Stk lt (bx ab) 0 (cj ab).toList a₀.size/\(cj ab).size+k<=a₀.size+0\/c=(none,())/\Ts kd D a₀ ab/\Stk lt (bx ab) 0 (cj ab).toList a₀.size/\(cj ab).size<=1)
   (Q:=fun c ab=>c=(none,())/\Ts kd D a₀ ab/\Stk lt (bx ab) 0 (cj ab).toList a₀.size/\(cj ab).size<=1) ?stepF ?finF (.inl ⟨rfl,hT,hS,yw⟩)) ?postF)
  case finF=>
   rintro c ab (⟨rfl,h3,h4,h5⟩|hh)
   ·exact⟨rfl,h3,h4,yw⟩
   ·exact hh
  case stepF=>
   rintro k c ab _ hk hh;have as:c=(none,())/\Ts kd D a₀ ab/\Stk lt (bx ab) 0 (cj ab).toList a₀.size/\((cj ab).size+k<=a₀.size\/(cj ab).size<=1):=by
    rcases hh with ⟨a1,a2,a3,a4⟩|⟨a1,a2,a3,a4⟩
    ·exact⟨a1,a2,a3,.inl yw⟩
    ·exact⟨a1,a2,a3,.inr a4⟩
   obtain⟨rfl,h3,h4,h5⟩:=as;refine bu (ol ?_)
   try dsimp only
   by_cases d1:(cj ab).size<=1
   ·rw[cf d1];exact bw ⟨rfl,h3,h4,d1⟩
   rw[cb d1];generalize hgen:(if (if (cj ab).size-2>0 then Option.map (fun x=>x.snd.fst) (cj ab)[(cj ab).size-2-1]? else none).any (fun x=>decide (x<(cj ab)[(cj ab).size-2+1]?.elim 0 fun x=>x.snd.fst))=true then (cj ab).size-2-1 else (cj ab).size-2)=ii;have ar:ii+1<(cj ab).size:=by
    have hx:∀(P:Prop) (_:Decidable P),(if P then (cj ab).size-2-1 else (cj ab).size-2)+1<(cj ab).size:=fun P _=>by
     by_cases z:P
     ·rw[cf z];omega
     ·rw[cb z];omega
    rw[<- hgen];exact hx _ _
   refine bu (qI O h3 h4 (cv _) ar fun an h6 s6 z6 g6=>?_);simp only[Bool.not_true,cw,if_false];exact bw (.inl ⟨rfl,h6,s6,yw⟩)
  case postF=>
   rintro c ab ⟨rfl,h3,h4,h5⟩;dsimp only;refine bw (q ab h3 ?_);cases hl:(cj ab).toList with
   |nil=>
    rw[hl]at h4;have:0=a₀.size:=h4;omega
   |cons r rest=>
    have hr:rest=[]:=by
     have:=congrArg List.length hl;rw[fc,fj]at this;exact fw yw
    rw[hl,hr]at h4;obtain⟨e1,e2,e3,e4⟩:=h4;have ap:0+r.2.1=a₀.size:=e4;rw[<- ap];exact e3
 case step=>
  rintro k c st' _ hk ⟨lo,rfl,k1,k2,hT,hS⟩;dsimp only;by_cases c1:lo≥a₀.size
  ·rw[cf c1];exact bw ⟨lo,rfl,yw,hT,hS⟩
  rw[cb c1];refine bu (ES O (hT.tb lo) yw yw fun m ab ao m1 m2 am=>?_);dsimp only;by_cases c2:m<mr
  ·rw[cf c2];refine bu (wpS_lift (jw ⟨rfl,?_⟩));refine bu (DQ O ao (n:=min (a₀.size-lo) mr) yw m1 yw am fun ac ag ai=>?_);simp only[Bool.not_true,cw,if_false];have n1:1<=min (a₀.size-lo) mr:=yw
   have n2:lo+min (a₀.size-lo) mr<=a₀.size:=yw
   generalize min (a₀.size-lo) mr=n at n1 n2 ai;have ah:Ts kd D a₀ ac:=⟨ag.kd,ag.fl,ag.pm,ag.d⟩;have ak:Stk lt (bx ac) 0 (cj ac).toList lo:=by
    rw[ag.pe];exact Stk.mono hS fun i _ hi=>ag.lo i hi
   refine bu (ol ?_);have fin:∀aa:fg,Ts kd D a₀ aa->Stk lt (bx aa) 0 (cj aa).toList lo->(∀j,lo<=j->G (bx aa) j=G (bx ac) j)->Stk lt (bx aa) 0 ((cj aa).push (lo,n,0)).toList (lo+n):=fun aa hM af ae=>by
    rw[toList_push];refine Stk.push af n1 fun i j hi al hj=>?_;rw[ae i hi,ae j yw];exact ai i j hi al hj
   cases hbk:(cj ac).back? with
   |none=>
    try dsimp only
    exact bu (jl (bw ⟨lo+n,rfl,yw,yw,⟨ah.kd,ah.fl,ah.pm,ah.d⟩,fin ac ah ak fun _ _=>rfl⟩))
   |some r=>
    obtain⟨s1,aj,w1⟩:=r
    try dsimp only
    generalize power' a₀.size (2*s1+aj) (2*s1+aj+aj+n) a₀.size=pw;refine bu (iz (fm (a:=0)
     (I:=fun _ c aa=>c=(none,())/\Ts kd D a₀ aa/\Stk lt (bx aa) 0 (cj aa).toList lo/\∀j,lo<=j->G (bx aa) j=G (bx ac) j)
     (Q:=fun c aa=>c=(none,())/\Ts kd D a₀ aa/\Stk lt (bx aa) 0 (cj aa).toList lo/\∀j,lo<=j->G (bx aa) j=G (bx ac) j) ?stepM (fun _ _ hh=>hh) ⟨rfl,ah,ak,fun _ _=>rfl⟩) ?postM)
    case stepM=>
     rintro kk c aa _ _ ⟨rfl,hM,af,ae⟩;refine bu (ol ?_)
     try dsimp only
     by_cases d1:(cj aa).size>1
     ·rw[cf d1];obtain⟨⟨oa,ob,oc⟩,og⟩:∃r,(cj aa)[(cj aa).size-2]?=some r:=⟨_,fk yw⟩;rw[og];dsimp only;by_cases d2:oc<=pw
      ·rw[cf d2];exact bw ⟨rfl,hM,af,ae⟩
      ·rw[cb d2];refine bu (qI O hM af k2 yw fun an h5 s5 z5 g5=>?_);simp only[Bool.not_true,cw,if_false];exact bw ⟨rfl,h5,s5,fun j hj=>(g5 j hj).trans (ae j hj)⟩
     ·rw[cb d1];exact bw ⟨rfl,hM,af,ae⟩
    case postM=>
     rintro c aa ⟨rfl,hM,af,ae⟩;dsimp only;refine bu (jl (bu (jl (bw ⟨lo+n,rfl,yw,yw,⟨hM.kd,hM.fl,hM.pm,hM.d⟩,?_⟩))));refine fin (setPending aa ((cj aa).modify ((cj aa).size-1) fun x=>(x.1,x.2.1,pw))) ⟨hM.kd,hM.fl,hM.pm,hM.d⟩ ?_ ae;show Stk lt (bx aa) 0 ((cj aa).modify ((cj aa).size-1) fun x=>(x.1,x.2.1,pw)).toList lo;rw[Array.toList_modify];exact Stk.modLast af _
  ·rw[cb c2];have n1:1<=m:=m1;have n2:lo+m<=a₀.size:=yw
   have ai:=am;have ag:=ao;generalize m=n at n1 n2 ai
   revert ag ai
   generalize ab=ac;intro ag ai;have ah:Ts kd D a₀ ac:=⟨ag.kd,ag.fl,ag.pm,ag.d⟩;have ak:Stk lt (bx ac) 0 (cj ac).toList lo:=by
    rw[ag.pe];exact Stk.mono hS fun i _ hi=>ag.lo i hi
   refine bu (ol ?_);have fin:∀aa:fg,Ts kd D a₀ aa->Stk lt (bx aa) 0 (cj aa).toList lo->(∀j,lo<=j->G (bx aa) j=G (bx ac) j)->Stk lt (bx aa) 0 ((cj aa).push (lo,n,0)).toList (lo+n):=fun aa hM af ae=>by
    rw[toList_push];refine Stk.push af n1 fun i j hi al hj=>?_;rw[ae i hi,ae j yw];exact ai i j hi al hj
   cases hbk:(cj ac).back? with
   |none=>
    try dsimp only
    exact bu (jl (bw ⟨lo+n,rfl,yw,yw,⟨ah.kd,ah.fl,ah.pm,ah.d⟩,fin ac ah ak fun _ _=>rfl⟩))
   |some r=>
    obtain⟨s1,aj,w1⟩:=r
    try dsimp only
    generalize power' a₀.size (2*s1+aj) (2*s1+aj+aj+n) a₀.size=pw;refine bu (iz (fm (a:=0)
     (I:=fun _ c aa=>c=(none,())/\Ts kd D a₀ aa/\Stk lt (bx aa) 0 (cj aa).toList lo/\∀j,lo<=j->G (bx aa) j=G (bx ac) j)
     (Q:=fun c aa=>c=(none,())/\Ts kd D a₀ aa/\Stk lt (bx aa) 0 (cj aa).toList lo/\∀j,lo<=j->G (bx aa) j=G (bx ac) j) ?stepM (fun _ _ hh=>hh) ⟨rfl,ah,ak,fun _ _=>rfl⟩) ?postM)
    case stepM=>
     rintro kk c aa _ _ ⟨rfl,hM,af,ae⟩;refine bu (ol ?_)
     try dsimp only
     by_cases d1:(cj aa).size>1
     ·rw[cf d1];obtain⟨⟨oa,ob,oc⟩,og⟩:∃r,(cj aa)[(cj aa).size-2]?=some r:=⟨_,fk yw⟩;rw[og];dsimp only;by_cases d2:oc<=pw
      ·rw[cf d2];exact bw ⟨rfl,hM,af,ae⟩
      ·rw[cb d2];refine bu (qI O hM af k2 yw fun an h5 s5 z5 g5=>?_);simp only[Bool.not_true,cw,if_false];exact bw ⟨rfl,h5,s5,fun j hj=>(g5 j hj).trans (ae j hj)⟩
     ·rw[cb d1];exact bw ⟨rfl,hM,af,ae⟩
    case postM=>
     rintro c aa ⟨rfl,hM,af,ae⟩;refine bu (jl (bu (jl (bw ⟨lo+n,rfl,yw,yw,⟨hM.kd,hM.fl,hM.pm,hM.d⟩,?_⟩))));refine fin (setPending aa ((cj aa).modify ((cj aa).size-1) fun x=>(x.1,x.2.1,pw))) ⟨hM.kd,hM.fl,hM.pm,hM.d⟩ ?_ ae;show Stk lt (bx aa) 0 ((cj aa).modify ((cj aa).size-1) fun x=>(x.1,x.2.1,pw)).toList lo;rw[Array.toList_modify];exact Stk.modLast af _
end
end L2
namespace L2
open PySem PySem.Spec PySem.Calls PyProof.Rows PySem.W
section
variable {prog:fe}{w:ft}{A:fq}{E:bn->bp->Prop}{s:bp}
theorem FG{α:Type}{r:α->α->Prop}{l:List α}(h:l.length<2):l.Pairwise r:=by
 cases l with
 |nil=>exact .nil
 |cons x l=>
  cases l with
  |nil=>exact List.pairwise_singleton _ _
  |cons y l=>exact absurd h yv
theorem Bz{a:Addr}{vs:List bn}{n:Nat}{kd:oy}{lt:cg->cg->Bool}{P:PySem.Fin->bp->Prop}(ho:s.heap.get? a=some (im "list" vs.toArray n))(hz:vs.length<=10000000)
  (hkd:∀h3,KeptBut a s.heap h3->∀(Q:oy->bp->Prop),2<=vs.length->Q kd { s with heap:=h3 }->ck (model prog w) A (keyKind' vs.toArray) Q E { s with heap:=h3 })
  (hO:∀h3,KeptBut a s.heap h3->LtOk prog w A E { s with heap:=h3 } kd (fun x=>x.1=x.2/\x.1∈vs) lt)
  (h:∀h' c (out:List bn),KeptBut a s.heap h'->out.Perm vs->out.Pairwise (fun x y=>lt (y,y) (x,x)=false)->h'.get? a=some (im "list" out.toArray c)->P (.done (.ret .none)) { s with heap:=h' }):
  ck (model prog w) A (oh.«list.sort» ⟨[.ref a],[]⟩) P E s:=by
 have ha:a<s.heap.objs.size:=ff ho;have s1:=jf s.heap a (gr fun _=>(#[]:Array bn));obtain⟨e1,ab⟩:∃e1,(s.heap.update a (gr fun _=>(#[]:Array bn))).get? a=some (im "list" #[] e1):=⟨_,oj ho fun _=>#[]⟩;have keep:KeptBut a s.heap (((s.heap.update a (gr fun _=>(#[]:Array bn))).push (im "tuple" vs.toArray 0)).push (im "list" #[] 0)):=fun b o nb e=>
  bz _ (bz _ ((s1.2 b nb).trans e))
 have q:(((s.heap.update a (gr fun _=>(#[]:Array bn))).push (im "tuple" vs.toArray 0)).push (im "list" #[] 0)).get? a=some (im "list" #[] e1):=bz _ (bz _ ab);rw[list_sort_plain];refine bj (listItems_at ho rfl ?_);refine bj (listUpdate_at ho rfl ?_ (by rw[cy,jg];omega) (jo _));refine bj (seqEpoch_at ab rfl ?_);refine bj (wpAny_newTuple ?_ (by show vs.length<=_;rw[jg];omega));refine bj (wpAny_newList ?_ (jo _));refine gx ?_;show ck (model prog w) A _ P E { s with heap:=((s.heap.update a (gr fun _=>(#[]:Array bn))).push (im "tuple" vs.toArray 0)).push (im "list" #[] 0) };generalize ((s.heap.update a (gr fun _=>(#[]:Array bn))).push (im "tuple" vs.toArray 0)).push (im "list" #[] 0)=h3 at keep q ⊢;dsimp only;by_cases hn2:vs.toArray.size<2
 ·rw[cf hn2,cf hn2];refine bj (br ?_);rw[StateT.run_pure];refine bj (br ?_);dsimp only;have eo:(bx (SortSt.mk' general' (vs.toArray.zip vs.toArray) #[] 7 none)).map (·.2)=je vs:=by
   apply Array.toList_inj.mp;show ((vs.toArray.zip vs.toArray).map (·.2)).toList=vs;rw[Array.toList_map,Array.toList_zip,List.map_snd_zip (cv _)]
  rw[eo];have s2:=jf h3 a (gr fun _=>je vs);obtain⟨c2,z⟩:∃c2,(h3.update a (gr fun _=>je vs)).get? a=some (im "list" (je vs) c2):=⟨_,oj q fun _=>je vs⟩;refine bj (seqEpoch_at q rfl ?_);refine bj (listUpdate_at q rfl ?_ (jo _) (by show (je vs).size<=_;rw[cy,jg];omega));simp only[bne_self_eq_false,cw,if_false];refine br (h _ c2 vs (fun b o nb e=>(s2.2 b nb).trans (keep b o nb e)) (lr _) ?_ z);rw[cy]at hn2;exact FG hn2
 ·rw[cb hn2,cb hn2];rw[cy]at hn2;refine bj (hkd h3 keep _ yw ?_);have O:=hO h3 keep;have hT:Ts kd (fun x:cg=>x.1=x.2/\x.1∈vs) (pairsOf vs) (SortSt.mk' kd (vs.toArray.zip vs.toArray) #[] 7 none):=⟨rfl,rfl,Array.Perm.refl _,fun x m=>by
   rw[pairsOf_toList]at m;exact mem_zip_self m⟩
  refine bj (oo (F1 O (Q:=fun _ st'=>Ts kd (fun x:cg=>x.1=x.2/\x.1∈vs) (pairsOf vs) st'/\Sg lt (bx st') 0 (pairsOf vs).size) hT rfl (by rw[pairsOf_size];omega) fun st' a1 a2=>⟨a1,a2⟩) ?_ fun _ _ e=>e);rintro⟨⟨⟩,st'⟩ s' ⟨rfl,hT',hS'⟩;dsimp only;have hp:((bx st').toList.map (·.2)).Perm vs:=by
   have h1:=(Array.perm_iff_toList_perm.mp hT'.pm).map (·.2);rw[pairsOf_toList,List.map_snd_zip (cv _)]at h1;exact h1
  have hs:((bx st').toList.map (·.2)).Pairwise (fun x y=>lt (y,y) (x,x)=false):=by
   rw[List.pairwise_map,List.pairwise_iff_getElem];intro i j hi hj ae;have ac:i<(pairsOf vs).size:=by rw[<- hT'.size];simpa using hi
   have aa:j<(pairsOf vs).size:=by rw[<- hT'.size];simpa using hj
   have g1:=hT'.at ac;have g2:=hT'.at aa;rw[zO,cp hi]at g1;rw[zO,cp hj]at g2;have d1:=(hT'.dd ac).1;have d2:=(hT'.dd aa).1;rw[fx g1,fx g2];have z1:((G (bx st') i).2,(G (bx st') i).2)=G (bx st') i:=Prod.ext d1.symm rfl;have z2:((G (bx st') j).2,(G (bx st') j).2)=G (bx st') j:=Prod.ext d2.symm rfl;rw[z1,z2];exact hS' i j (jo _) (jp ae) aa
  have eo:(bx st').map (·.2)=je ((bx st').toList.map (·.2)):=by
   apply Array.toList_inj.mp;rw[Array.toList_map]
  rw[eo];generalize (bx st').toList.map (·.2)=out at hp hs;have s2:=jf h3 a (gr fun _=>je out);obtain⟨c2,z⟩:∃c2,(h3.update a (gr fun _=>je out)).get? a=some (im "list" (je out) c2):=⟨_,oj q fun _=>je out⟩;refine bj (seqEpoch_at q rfl ?_);refine bj (listUpdate_at q rfl ?_ (jo _) (by show (je out).size<=_;rw[cy,hp.length_eq,jg];omega));rw[hT'.fl];simp only[bne_self_eq_false,cw,if_false];exact br (h _ c2 out (fun b o nb e=>(s2.2 b nb).trans (keep b o nb e)) hp hs z)
theorem Ee{kd:oy}{x y:cg}{b:Bool}{st:fg}{Q:Option Bool->fg->Prop}(hk:kindOf st=kd)(h:ck (model prog w) A (keyLt' kd x.1 y.1) (fun c s'=>s'=s/\c=b) (fun _ _=>False) s)(q:Q (some b) st):wpS (model prog w) A E s (lt' x y) Q st:=by
 rw[lt'_eq];refine bu (ol ?_);rw[hk];refine bu (wpS_lift (wpAny_attempt (oo h (fun c s' hc=>?_) fun _ _ e=>e.elim)));obtain⟨rfl,rfl⟩:=hc;exact⟨rfl,bw q⟩
theorem Ah{vs:List bn}{kd:oy}{lt:cg->cg->Bool}{P:PySem.Fin->bp->Prop}(hz:vs.length<=10000000)
  (hkd:∀(A':fq) (E':bn->bp->Prop) h3,(∀b o,s.heap.get? b=some o->h3.get? b=some o)->∀(Q:oy->bp->Prop),2<=vs.length->Q kd { s with heap:=h3 }->ck (model prog w) A' (keyKind' vs.toArray) Q E' { s with heap:=h3 })
  (hO:∀(A':fq) (E':bn->bp->Prop) h3,(∀b o,s.heap.get? b=some o->h3.get? b=some o)->LtOk prog w A' E' { s with heap:=h3 } kd (fun x=>x.1=x.2/\x.1∈vs) lt)
  (h:∀D h' c (out:List bn),s.heap.objs.size<=D->(∀b o,s.heap.get? b=some o->h'.get? b=some o)->out.Perm vs->out.Pairwise (fun x y=>lt (y,y) (x,x)=false)->h'.get? D=some (im "list" out.toArray c)->P (.done (.ret (.ref D))) { s with heap:=h' }):
  ck (model prog w) A (newList vs >>= fun l=>holding [l] (call (.builtin "list.sort") [l] []) >>= fun _=>ret l) P E s:=by
 refine bj (wpAny_newList ?_ (by show vs.length<=_;rw[jg];omega));have z:(s.heap.push (im "list" vs.toArray 0)).get? s.heap.objs.size=some (im "list" vs.toArray 0):=cz _ rfl;have keep:∀b o,s.heap.get? b=some o->(s.heap.push (im "list" vs.toArray 0)).get? b=some o:=fun b o q=>bz _ q;show ck _ _ _ _ _ { s with heap:=s.heap.push (im "list" vs.toArray 0) };refine bj (gx (jj slot_list_sort ⟨_,z,rfl⟩ entry_list_sort ?body (args_list_sort _)))
 case body=>
  refine Bz (s:={ s with heap:=s.heap.push (im "list" vs.toArray 0) }) (kd:=kd) (lt:=lt) z hz (fun h3 k=>hkd _ _ h3 fun b o e=>k b o (fy (ff e)) (keep b o e)) (fun h3 k=>hO _ _ h3 fun b o e=>k b o (fy (ff e)) (keep b o e)) fun h' c out k1 hp hs k2=>?_;exact⟨_,rfl,br (h _ h' c out (cv _) (fun b o e=>k1 b o (fy (ff e)) (keep b o e)) hp hs k2)⟩
end
def kC:List XV->Sto->RX->Prop:=fun xs S R=>arg1 xs fun x=>∃m:List (Key×bo),x=.d (.dict (DD.pairs (.k m)))/\∃ns:List Int,m.map (·.1)=ns.map Sum.inl/\ns.length<=10000000/\∀ms:List Int,ms.Perm ns->ms.Pairwise (· <= ·)->R (.d (.list (ms.map df))) S
end L2
namespace L2
open PySem PySem.Spec PySem.Calls PyProof.Rows
def j6(j:Nat)(dk dv:DM->DE):DSm:=fun En δ S M=>zi j δ S fun y S1=>∃a m,y=.o (.ref a)/\(a,DD.k m)∈M/\dk M δ S1 fun z S2=>dv M δ S2 fun x S3=>asD z fun k=>asD x fun d=>∃kk,Bt k=some kk/\m.length<1000/\if (lkA m kk).isSome=true then En.nx δ S3 M else En.nx δ S3 (BY M a (.k (ptA m kk d)))
def mS(k:Int)(e:DE):DE:=fun δ S R=>e δ S fun x S1=>asD x fun d=>R (.d (.dict [(.int k,d)])) S1
end L2
namespace L2
theorem len0{α:Type}{l:List α}(h:l.length=0):l=[]:=fw h
theorem len1{α:Type}{l:List α}(h:l.length=1):∃a0,l=[a0]:=by
 cases l with
 |nil=>cases h
 |cons x r=>
  obtain rfl:=len0 (pc h);exact⟨x,rfl⟩
theorem len2{α:Type}{l:List α}(h:l.length=2):∃a0 a1,l=[a0,a1]:=by
 cases l with
 |nil=>cases h
 |cons x r=>
  obtain⟨a1,rfl⟩:=len1 (pc h);exact⟨x,a1,rfl⟩
theorem len3{α:Type}{l:List α}(h:l.length=3):∃a0 a1 a2,l=[a0,a1,a2]:=by
 cases l with
 |nil=>cases h
 |cons x r=>
  obtain⟨a1,a2,rfl⟩:=len2 (pc h);exact⟨x,a1,a2,rfl⟩
theorem len4{α:Type}{l:List α}(h:l.length=4):∃a0 a1 a2 a3,l=[a0,a1,a2,a3]:=by
 cases l with
 |nil=>cases h
 |cons x r=>
  obtain⟨a1,a2,a3,rfl⟩:=len3 (pc h);exact⟨x,a1,a2,a3,rfl⟩
theorem len5{α:Type}{l:List α}(h:l.length=5):∃a0 a1 a2 a3 a4,l=[a0,a1,a2,a3,a4]:=by
 cases l with
 |nil=>cases h
 |cons x r=>
  obtain⟨a1,a2,a3,a4,rfl⟩:=len4 (pc h);exact⟨x,a1,a2,a3,a4,rfl⟩
theorem len6{α:Type}{l:List α}(h:l.length=6):∃a0 a1 a2 a3 a4 a5,l=[a0,a1,a2,a3,a4,a5]:=by
 cases l with
 |nil=>cases h
 |cons x r=>
  obtain⟨a1,a2,a3,a4,a5,rfl⟩:=len5 (pc h);exact⟨x,a1,a2,a3,a4,a5,rfl⟩
end L2
namespace L2
open PySem PySem.Spec PySem.Calls PyProof.Rows
open Sem (wp)
def lO(a:DA):DE:=fun δ S R=>a δ S fun xs S1=>arg2 xs fun x y=>∃ds,cV x=some ds/\∃es,cV y=some es/\min ds.length es.length<=1000/\R (.d (.list (rJ ds es))) S1
end L2
namespace L2
open PySem PySem.Spec PyProof.Rows
section
theorem lo{sc:Scope}{x:Str}(h:sc.names.lookup x=some .local:=by rfl):Loc sc x:=jd h
theorem fsd{N P:List Str}{sc:Scope}(h:pY N P sc=true:=by decide +kernel):FnScope N P sc:=fsc h
end
end L2
namespace L2
open PySem PySem.Spec PySem.Calls PyProof.Rows
inductive AllK {α:Type} (F:α->bn->Prop):List α->List bn->Prop
 |nil:AllK F [] []
 |cons {k v ks vs}:F k v->AllK F ks vs->AllK F (k::ks) (v::vs)
section
variable {prog:fe}{w:ft}{A:fq}{E:bn->bp->Prop}{s:bp}
theorem Dh{b:Bool}{Q:Int->bp->Prop}(h:Q (reduceHash (match b with|true=>1|false=>0)) { s with toks:=s.toks+1 }):ck (model prog w) A (pyHash (.bool b)) Q E s:=by
 refine W.pyHash_slot (T:="bool") rfl F.slot_bool_hash PySem.entry_int_hash (PySem.args_int_hash _) (beq_builtin_none _) (.inl rfl) ?_;cases b
 ·exact(show ck _ _ (do ret (<- mkInt 0)) _ _ s from bj (wpAny_mkInt (br ⟨_,_,rfl,h⟩)))
 ·exact(show ck _ _ (do ret (<- mkInt 1)) _ _ s from bj (wpAny_mkInt (br ⟨_,_,rfl,h⟩)))
theorem Bo(a b:Bool):(a==b)=decide (a=b):=by cases a<;>cases b<;>rfl
end
end L2
namespace L2
open PySem PySem.Spec PyProof.Rows
section
def hB(b:Bool):Int:=reduceHash (match b with|true=>1|false=>0)
def gO(b:Bool):bn->Bool
 | .bool c=>b==c
 |_=>false
theorem kZ{b:Bool}{v:bn}(h:gO b v=true):v=.bool b:=by
 cases v with
 |bool c=>rw[eq_of_beq (show (b==c)=true from h)]
 |_=>cases h
theorem De{prog:fe}{w:ft}{A:fq}{E:bn->bp->Prop}{s:bp}{a b:Bool}{u v:bn}{Q:Bool->bp->Prop}(hu:gO a u=true)(hv:gO b v=true)(h:Q (decide (a=b)) s):ck (model prog w) A (eqBool u v) Q E s:=by
 rw[kZ hu,kZ hv];exact PySem.SeqAt.EqAt.bool_bool a b _ _ _ _ (by rw[Bo];exact h)
def eW(prog:fe)(w:ft):KeyKind prog w Bool where
 is:=gO
 hash:=hB
 inj:=fun v a b h1 h2=>by
  rw[kZ h1]at h2;exact(eq_of_beq (show (b==a)=true from h2)).symm
 byValue:=fun k v h=>by rw[kZ h];rfl
 pyHash:=fun hv h=>by rw[kZ hv];exact Dh h
 eqBool:=fun hu hv h=>De hu hv h
 «strs»:=fun _ _ _ _ h=>nomatch h
def kB(e:Int×bn):Bool:=match e.2 with
 | .bool b=>b
 |_=>false
def OkB(e:Int×bn):Prop:=∃n,e.2=.bool n/\e.1=hB n
theorem B7{e:Int×bn}{n:Bool}(h:e.2=.bool n):kB e=n:=by
 unfold kB;rw[h]
def SetB(led:Bool)(h:Heap)(a:Addr)(es:Array (Int×bn)):Prop:=∃(o:Obj) (ep:Nat) (t:gz),
 h.get? a=some o/\o.ExactSet/\o.data=.set es ep t/\(∀e∈es.toList,OkB e)/\(es.toList.map kB).Nodup/\es.size<100/\Tab led t es.size
theorem SetB.at{led:Bool}{h g:Heap}{a:Addr}{es:Array (Int×bn)}(q:SetB led h a es)(f:∀o,h.get? a=some o->g.get? a=some o):SetB led g a es:=by
 obtain⟨o,ep,t,h1,r⟩:=q;exact⟨o,ep,t,f o h1,r⟩
section
variable {prog:fe}{w:ft}{A:fq}{E:bn->bp->Prop}{s:bp}{led:Bool}
theorem Bu{l:List (Int×bn)}(h:∀e∈l,OkB e):ElemsOf (eW prog w) l:=fun e m=>by
 obtain⟨n,e1,e2⟩:=h e m;refine⟨⟨n,?_,e2⟩,?_⟩
 ·rw[e1];exact beq_self_eq_true n
 ·rw[e1];rfl
theorem wG{k:Bool}{e:Int×bn}(h:OkB e):gO k e.2=true↔kB e=k:=by
 obtain⟨n,e1,e2⟩:=h;rw[B7 e1,e1];show (k==n)=true↔n=k;rw[beq_iff_eq];exact eq_comm
theorem sY{h:Heap}{a:Addr}{o:Obj}{es q:Array (Int×bn)}{ep:Nat}{t t':gz}(ho:h.get? a=some o)(z:o.ExactSet)(hd:o.data=.set es ep t)
  (h1:∀e∈q.toList,OkB e) (h2:(q.toList.map kB).Nodup) (h3:q.size<100) (h4:Tab led t' q.size):
  (h.update a (Obj.putSet q t')).get? a=some { o with data:=.set q (ep+1) t' }/\SetB led (h.update a (Obj.putSet q t')) a q:=by
 have hg:=nq (Obj.putSet q t') ho (by rw[putSet_of q t' hd];rfl);rw[putSet_of q t' hd]at hg;exact⟨hg,_,_,_,hg,z,rfl,h1,h2,h3,h4⟩
theorem xR{g:Bool->Sem Unit}(hg:∀(b:Bool) (s1:bp) (Q':Unit->bp->Prop),Q' () s1->ck (model prog w) A (g b) Q' E s1){a:Addr}{o:Obj}{es q:Array (Int×bn)}{ep:Nat}{t t2:gz}
  (ho:s.heap.get? a=some o) (hex:o.ExactSet) (hd:o.data=.set es ep t) (h1:∀e∈q.toList,OkB e) (h2:(q.toList.map kB).Nodup) (h3:q.size<100) (h4:Tab led t2 q.size) {wd:Bool}{R:Option Bool->bp->Prop}
  (h:∀h' es',jn a s.heap h'->SetB led h' a es'->es'.toList.Perm q.toList->R (some true) { s with heap:=h' }):
  ck (model prog w) A (do
    storeSet a q t2
    if (!wd&&t2.tooFull)=true then do
     g (relayAll t2 q (nl q.size)).2.2
     storeSet a (relayAll t2 q (nl q.size)).1 (relayAll t2 q (nl q.size)).2.1
     pure (some true)
    else pure (some true)) R E s:=by
 obtain⟨ab,ae⟩:=sY (led:=led) ho hex hd h1 h2 h3 h4;have aa:=jf s.heap a (Obj.putSet q t2);refine bj (wpAny_storeSet_of ho hd ?_ (fits_of_scanBound (qN h3)));split
 ·have hp:=relayAll_perm t2 q (nl q.size);have ht:=CS (led:=led) (t:=t2) (es:=q) h4.led (nl q.size);generalize relayAll t2 q (nl q.size)=Rl at hp ht ⊢;obtain⟨z,t3,gv⟩:=Rl;dsimp only at hp ht ⊢;have ez:z.size=q.size:=by
   have:=hp.length_eq
   rwa [fc,fc]at this
  have q1:∀e∈z.toList,OkB e:=fun e m=>h1 e (hp.mem_iff.mp m);have q2:(z.toList.map kB).Nodup:=(hp.map kB).nodup_iff.mpr h2;refine bj (hg _ _ _ ?_);refine bj (wpAny_storeSet_of ab rfl ?_ (fits_of_scanBound (qN yw)));obtain⟨_,ac⟩:=sY (led:=led) ab hex rfl q1 q2 yw ht;exact br (h _ _ (aa.trans (jf _ a _)) ac hp)
 ·exact br (h _ _ aa ae (lr _))
theorem Cw{a:Addr}{es:Array (Int×bn)}{k:Bool}{Q:Bool->bp->Prop}(hS:SetB led s.heap a es)(hr:es.size+1<100)
  (h:∀b h' q,jn a s.heap h'->SetB led h' a q->(∀x,x∈q.toList.map kB↔x∈es.toList.map kB\/x=k)->q.size<=es.size+1->Q b { s with heap:=h' }):
  ck (model prog w) A (setAddHashed a (.bool k) (hB k)) Q E s:=by
 obtain⟨o,ep,t,ho,ab,hd,h1,h2,h3,h4⟩:=hS;have ac:ElemsOf (eW prog w) es.toList:=Bu h1;have af:(eW prog w).is k (.bool k)=true:=beq_self_eq_true k;unfold setAddHashed setAddHashedIn;refine gx (bj (ky ho hd h4.fits ?_));dsimp only;rw[byScan_of (knd:=eW prog w) rfl (qN h3) ac];simp only[↓reduceIte];unfold setAddByScan;refine bj (bj (jw (bj (wpAny_setScan_of (knd:=eW prog w) af ho hd h4.fits ac ?_))));cases hr':List.findIdx? (fun e=>(eW prog w).is k e.2) es.toList with
 |some j=>
  dsimp only;obtain⟨hj,ag,_⟩:=List.findIdx?_eq_some_iff_getElem.mp hr';have hm:k∈es.toList.map kB:=mem_map.mpr ⟨es.toList[j],ls hj,(wG (h1 _ (ls hj))).mp ag⟩;refine br (br ?_);have:=h false s.heap es (Heap.SameBut.refl a s.heap) ⟨o,ep,t,ho,ab,hd,h1,h2,h3,h4⟩ (fun x=>⟨.inl,fun z=>z.elim id fun e=>e▸hm⟩) yw;exact this
 |none=>
  dsimp only;have hm:k∉es.toList.map kB:=fun m=>by
   obtain⟨e,me,ek⟩:=mem_map.mp m;have:=List.findIdx?_eq_none_iff.mp hr' e me;rw[show (eW prog w).is k e.2=gO k e.2 from rfl,(wG (h1 e me)).mpr ek]at this;cases this
  have ah:∀(b:Bool) (s1:bp) (Q':Unit->bp->Prop),Q' () s1->ck (model prog w) A (match b with|true=>rule "set.scan.the-table-gave-way" | false=>pure ()) Q' E s1:=
   fun b s1 Q' hq=>by cases b<;>first|exact br hq|exact jw hq
  have hp:=layNew_perm t es (hB k) (.bool k);have ht:=Bs (led:=led) (es:=es) h4 (hB k) (.bool k);generalize layNew t es (hB k) (.bool k)=L at hp ht ⊢;obtain⟨aa,t1,wd,gv⟩:=L;dsimp only at hp ht ⊢;rw[toList_push]at hp;have ez:aa.size=es.size+1:=by
   have:=hp.length_eq
   rwa [fc,cq,fc,fr]at this
  have kk:kB (hB k,iu k)=k:=rfl;have q1:∀e∈aa.toList,OkB e:=fun e m=>by
   rcases mem_append.mp (hp.mem_iff.mp m)with m|m
   ·exact h1 e m
   ·rw[mem_singleton.mp m];exact⟨k,rfl,rfl⟩
  have ae:(aa.toList.map kB).Perm (es.toList.map kB++[k]):=by
   have:=hp.map kB
   rwa [gn,kn,kk]at this
  have q2:(aa.toList.map kB).Nodup:=by
   rw[ae.nodup_iff,nodup_append];exact⟨h2,yv,fun x mx y my e=>by rw[mem_singleton.mp my]at e;rw[e]at mx;exact hm mx⟩
  have fin:∀h' q,jn a s.heap h'->SetB led h' a q->q.toList.Perm aa.toList->Q true { s with heap:=h' }:=fun h' q sb S' p=>
   h true h' q sb S' (fun x=>by
    rw[((p.map kB).trans ae).mem_iff,lz,mem_singleton]) (by
    have:=p.length_eq;rw[fc,fc]at this;omega)
  refine bj (ah _ _ _ ?_);split
  ·refine bj ?_;show ck _ _ (pure true) _ _ _;refine br ?_;refine xR (led:=led) (fun b s1 Q' hq=>by cases b<;>first|exact br hq|exact jw hq) ho ab hd q1 q2 yw ht fun h' q sb S' p=>?_;dsimp only;exact br (fin h' q sb S' p)
  ·refine bj (br ?_);simp only[↓reduceIte];refine xR (led:=led) (fun b s1 Q' hq=>by cases b<;>first|exact br hq|exact jw hq) ho ab hd q1 q2 yw ht fun h' q sb S' p=>?_;dsimp only;exact br (fin h' q sb S' p)
theorem B9{a:Addr}{es:Array (Int×bn)}{k:Bool}{Q:Bool->bp->Prop}(hS:SetB led s.heap a es)(hr:es.size+1<100)
  (h:∀b h' es',jn a s.heap h'->SetB led h' a es'->(∀x,x∈es'.toList.map kB↔x∈es.toList.map kB\/x=k)->es'.size<=es.size+1->Q b { s with heap:=h',toks:=s.toks+1 }):
  ck (model prog w) A (setAdd a (.bool k)) Q E s:=by
 unfold setAdd;refine gx (bj ((eW prog w).pyHash (k:=k) (beq_self_eq_true k) ?_));exact Cw (led:=led) (s:={ s with toks:=s.toks+1 }) hS hr h
theorem two_most(l:List Bool)(h:l.Nodup):l.length<=2:=by
 rcases Nat.lt_or_ge 2 l.length with z|z
 ·exfalso
  match l,h,z with
  |a::b::c::r,h,_=>
   simp only[nodup_cons,ji,not_or]at h;obtain⟨⟨h1,h2,_⟩,⟨h3,_⟩,_⟩:=h;cases a<;>cases b<;>cases c<;>simp_all
 ·exact z
theorem SetB.two{led:Bool}{h:Heap}{a:Addr}{es:Array (Int×bn)}(q:SetB led h a es):es.size<=2:=by
 obtain⟨_,_,_,_,_,_,_,nd,_⟩:=q;have:=two_most _ nd
 rwa [dj,fc]at this
theorem ED{R:Result->bp->Prop}{I:Addr}{fp wr:List Addr}{G:Array GenState->Array GenState->Prop}{n:Nat}{P:Nat->bn->Prop}{St:Nat->bp->Prop}{led:Bool}(W:WalksS prog w A.in1 I fp wr G n P St)(S:Addr)(ah:S∉fp)
  (key:Nat->Bool) (hP:∀i v,P i v->v=.bool (key i)):
  ∀(m i:Nat) (s:bp) (es:Array (Int×bn)),n-i=m->i<=n->St i s->SetB led s.heap S es->(∀x,x∈es.toList.map kB↔∃j,j<i/\x=key j) ->
  (∀s' q,Moved (S::wr) G s s'->SetB led s'.heap S q->(∀x,x∈q.toList.map kB↔∃j,j<n/\x=key j)->R (.ok (.ret .none)) s') ->
  ow (model prog w) A (.builtin "set.update.loop" ⟨[.ref S,.ref I],[]⟩) R s:=by
 have ae:S∉wr:=fun h=>ah (W.sub _ h);have aa:∀b∈wr,b∈S::wr:=fun b hb=>cr _ hb;intro m;induction m with
 |zero=>
  intro i s es hm hi ab hS hk hR;obtain rfl:i=n:=yw
  refine gy F4.entry_update_loop ?_;rw[gd F4.plain_update_loop _];show ck _ A.in1 (lv (.ref I) >>= _) _ _ s;refine bj (W.done s _ _ ab fun s' mv=>?_);exact br (hR s' es (mv.mono aa) (hS.at fun o e=>mv.heap S o ae e) hk)
 |succ m ih=>
  intro i s es hm hi ab hS hk hR;have af:i<n:=yw
  refine gy F4.entry_update_loop ?_;rw[gd F4.plain_update_loop _];show ck _ A.in1 (lv (.ref I) >>= _) _ _ s;refine bj (W.item i s _ _ af ab fun v s' hv ac mv=>?_);obtain rfl:=hP i v hv;have ag:SetB led s'.heap S es:=hS.at fun o e=>mv.heap S o ae e;refine bj (gx (B9 ag (by have:=ag.two;omega) fun b h' q sb S' mk z'=>?_));refine br ⟨ke F4.plain_update_loop _,ih (i+1) _ q yw af (W.frame _ s' h' (s'.toks+1) ac (le_succ _) fun b hb o e=>sb.extBut b o (fun z=>ah (z▸hb)) e) S' (fun x=>?_) fun s'' es'' mv'' S'' k''=>?_⟩
  ·rw[mk x,hk x];constructor
   ·rintro(⟨j,hj,e⟩|e)
    ·exact⟨j,yw,e⟩
    ·exact⟨i,yw,e⟩
   ·rintro⟨j,hj,e⟩;by_cases z:j=i
    ·subst z;exact .inr e
    ·exact .inl ⟨j,yw,e⟩
  ·exact hR s'' es'' (Moved.trans W.gtrans ((mv.mono aa).then_heap (le_succ _) fun b o hb e=>sb.extBut b o (fun z=>hb (z▸dh)) e) mv'') S'' k''
theorem CB{S l:Addr}{vs:Array bn}{ns:List Bool}{led:Bool}{Q:Unit->bp->Prop}(hh:A.handled=none)(hS:SetB led s.heap S #[])(hl:s.heap.IsList l vs)(hz:vs.size=ns.length)(hv:∀(i:Nat) v,vs[i]?=some v->v=.bool (ns.getD i false))
  (h:∀h' tk es,(∀b o,b≠S->s.heap.get? b=some o->h'.get? b=some o)->SetB led h' S es->(∀x,x∈es.toList.map kB↔x∈ns)->Q () { s with heap:=h',toks:=tk }):
  ck (model prog w) A (Builtin.Frozenset.updateFrom "set.__init__" S (.ref l)) Q E s:=by
 have ty:s.TypeIs (.ref l) "list":=by
  obtain⟨o,e,c,_⟩:=hl;exact⟨o,e,c⟩
 have lS:l≠S:=fun e=>by
  obtain⟨o,_,_,e1,c1,_⟩:=hS;obtain⟨o',e',c',_⟩:=hl;rw[e,e1]at e';cases e';rw[c1.1]at c';simp at c'
 unfold Builtin.Frozenset.updateFrom Builtin.Frozenset.isAnySet;refine bj (bj (lq ty F4.sub_list_set (lq ty F4.sub_list_frz ?_)));simp only[cw,if_false];refine bj (wpAny_typeOf ty ?_);rw[cb dz];refine bj (nj hl ?_);obtain⟨o,eo⟩:∃o,s.heap.get? l=some o:=⟨_,hl.choose_spec.1⟩;obtain⟨oS,eS⟩:∃o,s.heap.get? S=some o:=⟨_,hS.choose_spec.choose_spec.choose_spec.1⟩;have ll:=ff eo;have q:=ff eS;have up:∀b ob,s.heap.get? b=some ob->(s.heap.push { cls:=.type "list_iterator",data:=.fields #[.ref l,.int 0 0] }).get? b=some ob:=fun b ob e=>bz _ e;have W:=(Walks.list (prog:=prog) (w:=w) (A:=A.in1) hh s.heap.objs.size l (fy ll) vs).toS;refine bj (wpAny_runValue (ED (led:=led) W S (by
  simp only[ji,ie,or_false,not_or];exact⟨fy q,fun e=>lS e.symm⟩) (fun i=>ns.getD i false) hv _ 0 _ #[] rfl (jo _) ⟨⟨_,cz _ rfl,rfl,rfl⟩,hl.at fun ob e=>up l ob e⟩ (hS.at fun ob e=>up S ob e) yv fun s' es mv S' ks=>?_))
 refine br ?_;obtain⟨h',ab,ac,z,aa⟩:=s';obtain⟨m1,m2,m3,m4,m5⟩:=mv;dsimp only at m1 m2 m3 m4 m5 S';subst m2 m3 m4;refine h h' z es (fun b ob nb e=>m1 b ob (by
  simp only[ji,ie,or_false,not_or];exact⟨nb,fy (ff e)⟩) (up b ob e)) S' fun x=>?_
 rw[ks x,hz];constructor
 ·rintro⟨j,hj,rfl⟩;rw[fb,cp hj];exact ls hj
 ·intro m;obtain⟨j,hj,e⟩:=List.mem_iff_getElem.mp m;exact⟨j,hj,by rw[fb,cp hj];exact e.symm⟩
theorem BD{l:Addr}{vs:Array bn}{ns:List Bool}{Q:bn->bp->Prop}(hh:A.handled=none)(hl:s.heap.IsList l vs)(hz:vs.size=ns.length)(hv:∀(i:Nat) v,vs[i]?=some v->v=.bool (ns.getD i false))
  (h:∀a h' tk es,s.heap.objs.size<=a->(∀b o,s.heap.get? b=some o->h'.get? b=some o)->SetB (!w.params.followText "set-order") h' a es->(∀x,x∈es.toList.map kB↔x∈ns)->Q (.ref a) { s with heap:=h',toks:=tk }):
  ck (model prog w) A (call (.type "set") [.ref l]) Q E s:=by
 obtain⟨c,tl,ac⟩:=F.called_set.mro;have ab:=F.called_set.made;have ae:=F.called_set.sub;refine wpAny_call (codeAny_of_tree ?_);show ck _ _ (callAny (.type "set") _) _ _ _;refine br ⟨Code.quiet_builtin _ (by decide +kernel),gy F.entry_type_call ?_⟩;rw[Around.under_plain (weight_type_call_type "set" [.ref l] []) rfl];have h1:=F.called_set.notType;have h2:=F.called_set.canCreate;have ag:=F4.typeCall_set_1 (.ref l)
 repeat (any_goals (first|assumption|wp_step))
 generalize hO:({ cls:=.type "set",dict:=none,data:=.set #[] 0 (.fresh 0 0 (!w.params.followText "set-order")) }:Obj)=O;refine codeAny_mono (A8 (E:=E) (Q:=fun ob s1=>ob=.ref s.heap.objs.size/\s1 = { s with heap:=s.heap.push O }) ⟨rfl,by rw[hO]⟩) fun r s1 hr=>?_;cases r with
 |error e=>exact hr
 |ok fl=>
  cases fl with
  |ret obj=>
   obtain⟨rfl,rfl⟩:=hr;have hS:(s.heap.push O).get? s.heap.objs.size=some O:=cz _ (by rw[<- hO];rfl);have hT:Shared.TypeIs { s with heap:=s.heap.push O } (.ref s.heap.objs.size) "set":=⟨_,hS,by rw[<- hO]⟩;have ah:=F.called_set.init.lookup;have af:=F.called_set.init.bind (.ref s.heap.objs.size)
   repeat (any_goals (first|assumption|wp_step))
   refine codeAny_mono (codeAny_call_builtin (R:=wants (fun r s2=>r=.none/\Q (.ref s.heap.objs.size) s2) E) F.called_set.init.plain F.entry_set_init (EZ hT ?_)) fun r2 s2 q=>?_
   ·unfold oh.«set.__init__» noKeywords;have z:SetB (!w.params.followText "set-order") (s.heap.push O) s.heap.objs.size #[]:=by
     subst hO;exact⟨_,_,_,hS,⟨rfl,rfl,rfl⟩,rfl,yv,yv,yv,Bi _⟩
    have aa:(s.heap.push O).IsList l vs:=hl.at fun ob e=>bz _ e;subst hO;have key:=fun Q1=>@CB prog w A.in1.in1 (fun e s'=>wants (fun r s2=>r=Value.none/\Q (ig s.heap.objs.size) s2) E (Except.error e) s') { s with heap:=s.heap.push { cls:=.type "set",dict:=none,data:=.set #[] 0 (.fresh 0 0 (!w.params.followText "set-order")) } } s.heap.objs.size l vs ns (!w.params.followText "set-order") Q1 hh z aa hz hv
    wp_walk using key _
    intro h' tk es kp S' ks;exact br ⟨rfl,h _ h' tk es (cv _) (fun b o e=>kp b o (fy (ff e)) (bz _ e)) S' ks⟩
   ·cases r2 with
    |error e=>exact q
    |ok fl2=>
     cases fl2 with
     |ret r=>
      obtain⟨rfl,hq⟩:=q
      repeat (any_goals (first|assumption|wp_step))
     |_=>exact q.elim
  |_=>exact hr.elim
end
end
section
section
variable {prog:fe}{w:ft}{A:fq}{E:bn->bp->Prop}{s:bp}{led:Bool}
theorem EF{a b:Bool}{Q:Bool->bp->Prop}(h:Q (decide (jm a<jm b)) s):ck (model prog w) A (oneLt' true (.bool a) (.bool b)) Q E s:=by
 rw[oneLt'_eq];simp only[if_true];refine bj (wpAny_cRoomFor_byValue rfl ?_);refine bj (wpAny_callSpecialIfBound?_slot (typeIs_bool' s a) F.slot_bool_lt (call_gives F.slot_bool_lt (typeIs_bool' s a) F.entry_int_lt (F.args_int_lt_2 _ _) (gives_int_lt_bools a b) ?_));refine ja ?_;cases a<;>cases b<;>exact h
def blV:bn->Bool
 | .bool b=>b
 |_=>false
theorem CT{vs:List bn}(hI:∀v∈vs,∃b,v=iu b):LtOk prog w A E s oneType' (fun x=>x.1=x.2/\x.1∈vs) (fun x y=>decide (jm (blV x.1)<jm (blV y.1))) where
 ask:=fun x y st Q hx hy hk q=>by
  obtain⟨n,ex⟩:=hI _ hx.2;obtain⟨m,ey⟩:=hI _ hy.2;refine Ee hk ?_ q;rw[keyLt'_oneType,ex,ey];exact EF ⟨rfl,rfl⟩
 asym:=fun x y _ _ h=>gi (by have:=of_decide_eq_true h;omega)
 tr:=fun x y z _ _ _ h1 h2=>gi (by have:=of_decide_eq_false h1;have:=of_decide_eq_false h2;omega)
theorem qP{α:Type}(f:bn->Sem α)(y:α)(hf:∀b,f (.bool b)=pure y):∀{vs:List bn},(∀v∈vs,∃b,v=iu b)->vs.mapM f=pure (vs.map fun _=>y)
 | [],_=>rfl
 |v::vs,h=>by
  obtain⟨b,rfl⟩:=h v dh;rw[List.mapM_cons,hf b,qP f y hf fun v m=>h v (cr _ m)];rfl
theorem BH{vs:List bn}(hI:∀v∈vs,∃b,v=iu b)(h2:2<=vs.length){Q:oy->bp->Prop}(h:Q oneType' s):ck (model prog w) A (keyKind' vs.toArray) Q E s:=by
 have e:keyKind' vs.toArray=pure oneType':=by
  match vs,hI,h2 with
  |v1::v2::r,hI,_=>
   rw[keyKind'_eq,List.mapM_toArray,qP _ none (fun _=>rfl) hI];simp only[map_pure,pure_bind];rw[cb yv,cb yv,oneTypeOnly'_eq,List.mapM_toArray,qP _ (pf "bool") (fun _=>rfl) hI];simp only[map_pure,pure_bind];have q:((List.map (fun _=>pf "bool") (v1::v2::r)).toArray.all fun x=>x==pf "bool")=true:=by
    simp only[List.all_toArray,List.all_map,all_eq_true];intro _ _;rfl
   have h0:(List.map (fun _=>pf "bool") (v1::v2::r)).toArray[0]?=some (pf "bool"):=by simp
   rw[h0];simp only[q,if_true,pure_bind,Option.isSome_some]
 rw[e];exact br h
def bV(bs:List Bool):List Bool:=(if false∈bs then [false]else [])++(if true∈bs then [true]else [])
theorem CZ:∀{ms bs:List Bool},ms.Pairwise (fun x y=>¬ jm y<jm x)->ms.Nodup->(∀x,x∈ms↔x∈bs)->ms=bV bs
 | [],bs,_,_,h=>by
  unfold bV;rw[cb (fun z=>nomatch (h false).mpr z),cb (fun z=>nomatch (h true).mpr z)];rfl
 | [false],bs,_,_,h=>by
  unfold bV;rw[cf ((h false).mp yv),cb (fun z=>by simpa using (h true).mpr z)];rfl
 | [true],bs,_,_,h=>by
  unfold bV;rw[cb (fun z=>by simpa using (h false).mpr z),cf ((h true).mp yv)];rfl
 | [false,true],bs,_,_,h=>by
  unfold bV;rw[cf ((h false).mp yv),cf ((h true).mp yv)];rfl
 |true::false::_,bs,p,_,_=>by
  have:=(pairwise_cons.mp p).1 false yv;exact absurd dz this
 |false::false::_,bs,_,n,_=>by simp at n
 |true::true::_,bs,_,n,_=>by simp at n
 |false::true::b::r,bs,_,n,_=>by cases b<;>simp at n
theorem EV{l:Addr}{vs:Array bn}{ns:List Bool}{Q:bn->bp->Prop}(hh:A.handled=none)(hl:s.heap.IsList l vs)(hz:vs.size=ns.length)(hv:∀(i:Nat) v,vs[i]?=some v->v=.bool (ns.getD i false))
  (h:∀D h' tk d c,s.heap.objs.size<=D->(∀b o,s.heap.get? b=some o->h'.get? b=some o)->h'.get? D=some (im "list" ((bV ns).map iu).toArray c)->Q (.ref D) { s with heap:=h',toks:=tk,drawn:=d }):
  ck (model prog w) A (call (.type "set") [.ref l]) (fun a s'=>ck (model prog w) A (call (.builtin "sorted") [a]) Q E s') E s:=by
 refine BD hh hl hz hv fun a h1 tk es ha ag ae hk=>?_;obtain⟨o,ep,t,ho,ac,hd,hok,af,ab,tb⟩:=ae;refine Calls.call_function_entry kind_sorted plain_sorted entry_sorted (args_sorted1 _) ?_;unfold oh.«sorted»;refine bj (m:=checkCount "sorted" 1 1 1) (br ?_);refine bj (Ba (s:={ s with heap:=h1,toks:=tk }) (A:=A.in1) hh ho ac hd tb ab fun h2 d us hp aa=>?_);have ul:us.length=es.size:=by rw[hp.length_eq,dj,fc]
 have ui:∀v∈us,∃n,v=iu n:=fun v m=>by
  obtain⟨e,me,rfl⟩:=mem_map.mp (hp.mem_iff.mp m);obtain⟨n,e1,_⟩:=hok e me;exact⟨n,e1⟩
 refine Ah (s:={ s with heap:=h2,toks:=tk,drawn:=d }) (kd:=oneType') (lt:=fun x y=>decide (jm (blV x.1)<jm (blV y.1))) (by rw[ul];omega) (fun A' E' h3 _ Q h2 z=>BH ui h2 z) (fun A' E' h3 _=>CT ui) fun D h' c out hD kp q hs hg=>?_;have oi:∀v∈out,∃n,v=iu n:=fun v m=>ui v (q.mem_iff.mp m);have om:out=(out.map blV).map iu:=by
  rw[pd];refine(List.map_id _).symm.trans (List.map_congr_left fun v m=>?_);obtain⟨n,rfl⟩:=oi v m;rfl
 have pB:(out.map blV).Perm (es.toList.map kB):=by
  refine((q.trans hp).map blV).trans ?_;rw[pd];exact lr _
 have eB:out.map blV=bV ns:=by
  refine CZ ?_ (pB.nodup_iff.mpr af) fun x=>by rw[pB.mem_iff,hk x]
  rw[List.pairwise_map];exact hs.imp fun z=>of_decide_eq_false z
 rw[om,eB]at hg;refine⟨_,rfl,h D h' tk d c ?_ (fun b o e=>kp b o (aa b o (ag b o e))) hg⟩;exact gq (gq ha (jp (ff (aa a o ho)))) hD
end
theorem uD(bs:List Bool):(bV bs).length<=2:=by
 unfold bV;split<;>split<;>simp
theorem v9:∀(bs:List Bool),Vals (bs.map V.bl) (bs.map iu)
 | []=>.nil
 |b::bs=>.cons rfl (v9 bs)
theorem uP:∀{bs:List Bool}{us:List bn},Vals (bs.map V.bl) us->us=bs.map iu
 | [],_,.nil=>rfl
 |b::bs,u::us,.cons h t=>by
  cases (show u=iu b from h);rw[lh,<- uP t]
theorem wU{H:Hp}:∀{bs:List Bool}{vs:List V},HasL H (bs.map kc) vs->vs=bs.map V.bl
 | [],_,h=>zp.mp h
 |b::bs,_,h=>by
  obtain⟨v,t,rfl,hv,ht⟩:=zm.mp h;rw[eH.mp hv,wU ht];rfl
theorem uO{H:Hp}:∀(bs:List Bool),HasL H (bs.map kc) (bs.map V.bl)
 | []=>zp.mpr rfl
 |b::bs=>zm.mpr ⟨_,_,rfl,eH.mpr rfl,uO bs⟩
def sR(K:cu):List V->Hp->VK->Prop:=fun xs H Q=>∃(p:Addr) (ns:List Bool),xs=[.ref p]/\SqL K H p (ns.map V.bl)/\∀(l:Addr),H l=none->Q (.ref l) (upd H l (.lst ((bV ns).map V.bl)))
section
variable {X:Cx}{e:Expr}{t:TA}{p p2 pos pos2:Pos}
theorem Dw(hc:X.calm=true)(af:Gl X "sorted")(ab:X.mg "sorted" = none)(ae:Gl X "set")(ac:X.mg "set" = none)(ha:PA X [e] t)
  (he:fi [e] X.env=(false,eval e X.env)::fi [] X.env:=by rfl) (hpl:(on pos2 (fi [] X.env)).any (·.1)=false:=by rfl)
  (he2:fi [Expr.Call (.Name "set" p2) [e] [] pos2] X.env=(false,eval (Expr.Call (.Name "set" p2) [e] [] pos2) X.env)::fi [] X.env:=by rfl) (hpl2:(on pos (fi [] X.env)).any (·.1)=false:=by rfl):
  PE X (.Call (.Name "sorted" p) [.Call (.Name "set" p2) [e] [] pos2] [] pos) (tCB (sR X.K) t):=by
 intro ze s σ H Q I h;refine lx (hU I af ab boot_sorted ?_);refine PyProof.Rows.callWith_builtin1 ?_ he2 hpl2;rw[he2];show ck _ _ (spliced [(false,eval (Expr.Call (.Name "set" p2) [e] [] pos2) X.env)]) _ _ s;refine Calls.spliced_cons ?_;refine lx (hU I ae ac BO ?_);refine PyProof.Rows.callWith_type1 (thn (ha pos2 ze s σ H _ I h) fun us s1 ⟨vs,H1,I1,r1,q1⟩=>?_) he hpl;obtain⟨pl,ns,rfl,hq,q⟩:=q1;obtain⟨u,rfl,rx⟩:=vals1 r1;cases (show u=ig pl from rx);obtain⟨ag,rv,aa,_⟩:=I1.list hq;have hI:=uP rv;refine oo (EV (ns:=ns) (I1.ok.hd hc) aa.isList (by rw[cy,hI,dj]) (fun i v hv=>?_) fun D h' tk d c hD kp hg=>?_) (fun a s2 z=>Calls.spliced_nil z) fun _ _ z=>z
 ·rw[List.getElem?_toArray,hI,gh]at hv;obtain⟨b,eb,rfl⟩:=map_eq_some_iff.mp hv;rw[fb,eb];rfl
 refine⟨.ref D,_,((I1.drw d).laid (t':=tk) kp hD (show ObjOk X.prog X.w _ h' D (.lst ((bV ns).map V.bl))from⟨?_,_,c,v9 _,hg⟩)),rfl,q D (I1.hok.fresh hD)⟩;have:=uD ns;rw[dj,jg];omega
end
def gC:List XV->Sto->RX->Prop:=fun xs S R=>arg1 xs fun x=>∃ds,dE S x=some ds/\∃ns:List Bool,ds=ns.map kc/\R (.d (.list ((bV ns).map kc))) S
theorem t0{K:cu}:RC (sR K) gC:=fun h o H S xs vs R Q hs hx q c=>by
 obtain⟨x,rfl,ds,hd,ns,rfl,q1⟩:=bZ q;obtain⟨v,rfl,z⟩:=hxs1 hx;obtain⟨a,ws,rfl,ea,l⟩:=aY hs hd z;rw[wU l]at ea;refine⟨a,ns,rfl,.of ea,fun l hl=>?_⟩;exact k9 hs (uO (bV ns)) c q1 l hl
end
section
def oO:List XV->(Nat->bo->Prop)->Prop
 | [.l k,.d d],K=>K k d
 |_,_=>False
theorem lY{k:Nat}{d:bo}{K:Nat->bo->Prop}:oO [.l k,.d d] K=K k d:=rfl
theorem FD{xs:List XV}{K:Nat->bo->Prop}(h:oO xs K):∃k d,xs=[.l k,.d d]/\K k d:=by
 unfold oO at h;split at h
 ·exact⟨_,_,rfl,h⟩
 ·exact h.elim
def fR(a:DA):DE:=fun δ S R=>a δ S fun xs S1=>oO xs fun k d=>R (.p k d) S1
theorem FO{tl:TA}{dl:DA}(ha:RA tl dl):RE (pQ tl) (fR dl):=fun h o H δ σ S R Q he hs q c=>
 ha h o H δ σ S _ _ he hs q fun o1 H1 S1 xs vs e1 s1 x1 d0=>by
  obtain⟨k,d,ex,d1⟩:=FD d0;subst ex;obtain⟨v,r,rfl,hv,v2,r2,rfl,hu,rfl⟩:=x1;obtain⟨a,ea,rfl⟩:=hv;refine⟨jp (small1000 yv),fun p hp=>?_⟩;exact c o1 _ S1 (.p k d) _ (e1.trans (Ex.of_same (Same.laid hp))) (s1.same (Same.laid hp)) ⟨p,a,v2,rfl,ea,s1.laid hp,Has.mono (nE (Same.laid hp)) _ _ hu⟩ d1
def pV:D2:=fun x y S R=>asI y fun i=>match x with
 | .p k _=>i=0/\R (.l k) S
 |_=>False
theorem kI{k:Nat}{d:bo}{i:Int}{S:Sto}{R:RX}:pV (.p k d) (.d (.int i)) S R=(i=0/\R (.l k) S):=rfl
theorem FU{K:cu}:RO (rIx K) pV:=fun h o H S x y v u R Q hs hx hy q c=>by
 replace q:=aU q;obtain⟨i,rfl,q⟩:=q;split at q
 case h_2=>exact q.elim
 rename_i k d;obtain⟨rfl,q⟩:=q;obtain⟨t,a,w,rfl,ea,et,_⟩:=hx;exact .inr (.inl ⟨t,_,0,_,rfl,aV hy,.of (bH _ _ et),rfl,c o H S (.l k) _ Ex.refl hs ⟨a,ea,rfl⟩ q⟩)
def oN(S:Sto)(R:RX):RX:=fun y S'=>match y,S' with
 | .p 0 d,[ds]=>R (.p S.length d) (S++[ds])
 |_,_=>False
theorem kN{S:Sto}{R:RX}{d:bo}{ds:List bo}:oN S R (.p 0 d) [ds]=R (.p S.length d) (S++[ds]):=rfl
theorem cnT{h o:List Addr}{H:Hp}{S:Sto}{R:RX}{Q:VK}(hs:RepS h o H S)(c:Cn h o H R Q):Cn (h++o) [] H (oN S R) Q:=fun o' H' S' y v e s' hy q=>by
 have sm:Same H (vx [] o' H'):=fun b u eb=>by
  obtain⟨a1,a2⟩:=e.kp b u yv eb;exact zS.mpr ⟨yv,a1,a2⟩
 have sH:Same H H':=fun b u eb=>(zS.mp (sm b u eb)).2.2;unfold oN at q;split at q
 ·rename_i d ds;obtain⟨a,rfl⟩:∃a,o'=[a]:=List.length_eq_one_iff.mp s'.len.symm;obtain⟨t,a',w,rfl,ea,et,hw⟩:=hy;cases ea;obtain⟨vs,ev,l⟩:=s'.cont 0 a ds rfl rfl;have na:a∉h++o:=s'.dis a yv;have hn:H a=none:=by
   cases eh:H a with
   |none=>rfl
   |some u=>exact absurd (e.kp a u yv eh).1 yv
  have e2:Ex o H (o++[a]) H':=⟨⟨[a],rfl⟩,fun b u hb eb=>by
   obtain⟨a1,a2⟩:=e.kp b u yv eb;exact⟨by simp only[lz,not_or];exact⟨hb,a1⟩,a2⟩⟩
  have aa:vx (h++o) [a] H'=vx h (o++[a]) H':=eY fun b=>by simp[or_assoc]
  rw[aa]at l et hw;refine c (o++[a]) H' (S++[ds]) (.p S.length d) _ e2 ⟨by simp[hs.len],mJ hs.nd fun m=>na (fh _ m),fun b hb=>?_,fun b hb=>?_,fun k b es q1 q2=>?_⟩ ⟨t,a,w,rfl,by rw[hs.len,ca],et,hw⟩ q
  ·rcases mem_append.mp hb with hb|hb
   ·exact hs.dis b hb
   ·rw[mem_singleton.mp hb];exact fun m=>na (gw _ m)
  ·obtain⟨u,eb⟩:=hs.hal b hb;exact⟨u,sH b _ eb⟩
  ·by_cases hk:k<o.length
   ·rw[cx hk]at q1;rw[cx (by rw[hs.len];exact hk)]at q2;obtain⟨ws,e3,l3⟩:=hs.cont k b es q1 q2;exact⟨ws,sH _ _ e3,l3.mono e2.vx⟩
   ·have z:k=o.length:=by
     obtain⟨q,_⟩:=List.getElem?_eq_some_iff.mp q1;rw[cq,fr]at q;omega
    subst z;rw[ca]at q1;rw[<- hs.len,ca]at q2;cases q1;cases q2;exact⟨vs,ev,l⟩
 ·exact q.elim
def fJ(m:Nat)(q:PN)(da:DA):DE:=fun δ S R=>da δ S fun xs S1=>∃ds,datas xs=some ds/\ds.length=m/\q (ds.map XV.d) [] (oN S1 R)
theorem BQ{ps:List Str}{q:PN}{m:Nat}{t:TA}{da:DA}(ha:RA t da)(hm:ps.length=m:=by rfl):RE (gW (spN ps q) [] E0 t) (fJ m q da):=fun h o H δ σ S R Q he hs w c=>
 ha h o H δ σ S _ _ he hs w fun o1 H1 S1 xs vs e1 s1 x1 ⟨ds,e,hl,d1⟩=>by
  have ex:=eM e;subst ex;have hv:=x1.len;rw[jb];exact⟨by rw[hv,dj,hl,hm],h++o1,[],[],_,_,rep0 s1,hxs0 x1,d1,cnT s1 (c.pre e1)⟩
def lT(S:Sto):Option XV->Option XV
 |some (.o v)=>some (.o v)
 |some x=>(aT S x).map .d
 |none=>none
theorem BR{h o:List Addr}{H:Hp}{S:Sto}{δ:XE}{σ:St}(hs:RepS h o H S)(he:RepE h o H δ σ):RepE h [] H (δ.map (lT S)) σ:=by
 refine⟨by rw[dj];exact he.len,fun i x e=>?_⟩;rw[gh]at e;obtain⟨y,ey,e⟩:=map_eq_some_iff.mp e;unfold lT at e;split at e
 ·cases e;exact he.get i _ ey
 ·obtain⟨d,ed,e⟩:=map_eq_some_iff.mp e;subst e;obtain⟨v,e1,e2⟩:=he.get i _ ey;exact⟨v,e1,hxV hs ed e2⟩
 ·cases e
theorem mN{S:Sto}{d:bo}:lT S (some (.d d))=some (.d d):=rfl
theorem kF{S:Sto}{k:Nat}{d:bo}:lT S (some (.p k d))=(S[k]?).map fun l=>.d (.tuple [.list l,d]):=by show ((S[k]?).map fun l=>PyData.tuple [PyData.list l,d]).map XV.d=_;rw[Option.map_map];rfl
theorem kX{n k:Nat}{R:RX}{d:bo}{S':Sto}:fin n R (.p k d) S'=(n<=k/\∃ds,S'[k]?=some ds/\R (.p n d) (S'.take n++[ds])):=rfl
def eP(dt:DT):DT:=fun δ S R=>dt (δ.map (lT S)) [] fun b S'=>S'=[]/\R b S
theorem sF{t:TT}{dt:DT}(ht:RT t dt):RT t (eP dt):=fun h o H δ σ S R Q he hs q c=>
 ht h [] H _ σ [] _ _ (BR hs he) (wR hs) q fun o' H' S' b e s' ⟨eS,q1⟩=>by
  have sH:Same H H':=fun b u eb=>(e.kp b u yv eb).2;exact c o H' S b (Ex.of_same sH) (hs.same sH) q1
end
section
def iV(z:Str)(e:DE):DE:=fun δ S R=>e δ S fun x S1=>(∃d,aT S1 x=some d/\dy d=true/\R (.d (.bool (!PyData.eqv d (.tuple [.str z])))) S1)\/(x=.d (.dict [])/\R (.d (.bool true)) S1)
end
end L2
namespace My
open PySem L2
def mW:PN:=fun xs S R=>(zQ (aA (dOp (dI (fun _ j=>0<j) fun i j=>i % j) (dOp aC (zi 0) (dC (.int 7919))) (dC (.int 2147483647))) (zg 0)) (aB (dOp (dI (fun _ j=>0<j) fun i j=>i % j) (dOp aC (dOp aC (dOp bB (zi 0) (zi 0)) (dOp bB (dC (.int 48271)) (zi 0))) (dC (.int 12345))) (dC (.int 2147483629))))) (aP S.length R) (xs.map some++ci 0 none) S
def oA:PN:=fun xs S R=>(zQ (aA (dCB (dI2 fun i j=>if j>i then j else i) (zb (zi 0) (zb (dOp (dI0 fun i j=>i-j) (dC (.int 0)) (zi 0)) zt))) (zg 1)) (aB (bF (zb (zi 1) (zb (dCB eQ (zb (dOp (dIb fun i j=>decide (j<=i)) (zi 1) (dOp (dI CPow fun i j=>i ^ j.toNat) (dC (.int 10)) (dC (.int 18)))) zt)) (zb (dOp (dI (fun _ j=>0<j) fun i j=>i % j) (zi 1) (dC (.int 1000003))) zt)))))) (aP S.length R) (xs.map some++ci 1 none) S
def j7:PN:=fun xs S R=>(aB (gH (dCB cW (zb (zi 0) (zb (dO (.ty "int")) zt))) (fP (dCB cW (zb (zi 0) (zb (dO (.ty "bool")) zt)))))) (aP S.length R) (xs.map some++ci 0 none) S
def zk:PN:=fun xs S R=>(zQ (aL (dB (dOp aW (dOp dIx (zi 0) (dC (.int 1))) (dC (.int 1)))) (zQ (aA (dOp (dI (fun _ j=>0<j) fun i j=>i % j) (dOp dIx (zi 0) (dC (.int 0))) (zi 1)) (zg 2)) (zQ (aA (dOp dFd (dOp dIx (zi 0) (dC (.int 0))) (zi 1)) (eZ (zi 0) (dC (.int 0)))) (aB (zi 2)))) aJ) (zQ (aA (aR 1 mW (zb (dOp aC (aR 1 mW (zb (dOp dIx (zi 0) (dC (.int 2))) zt)) (dC (.int 7))) zt)) (eZ (zi 0) (dC (.int 2)))) (aB (dOp (dI (fun _ j=>0<j) fun i j=>i % j) (dOp dFd (dOp dIx (zi 0) (dC (.int 2))) (dC (.int 64))) (zi 1))))) (aP S.length R) (xs.map some++ci 1 none) S
def lQ:PN:=fun xs S R=>(zQ (aA (zC 0 2 zk (zb (zi 0) (zb (dC (.int 8)) zt))) (zg 1)) (zQ (aL (dB (dOp (dIb fun i j=>decide (i<j)) (zi 1) (dC (.int 5)))) (aB (dOp (dI0 fun i j=>i-j) (zC 0 2 zk (zb (zi 0) (zb (dC (.int 13)) zt))) (dC (.int 6)))) aJ) (zQ (aL (dB (dOp (dIb fun i j=>decide (i<j)) (zi 1) (dC (.int 7)))) (aB (dOp (dI0 fun i j=>i-j) (zC 0 2 zk (zb (zi 0) (zb (dC (.int 2001)) zt))) (dC (.int 1000)))) aJ) (aB (dOp bB (dOp (dI0 fun i j=>i-j) (zC 0 2 zk (zb (zi 0) (zb (dOp bB (dC (.int 2)) (dOp (dI CPow fun i j=>i ^ j.toNat) (dC (.int 10)) (dC (.int 30)))) zt))) (dOp (dI CPow fun i j=>i ^ j.toNat) (dC (.int 10)) (dC (.int 30)))) (dOp (dI CPow fun i j=>i ^ j.toNat) (dC (.int 10)) (dC (.int 28)))))))) (aP S.length R) (xs.map some++ci 1 none) S
def sW:PN:=fun xs S R=>(zQ (aA (zC 0 2 zk (zb (zi 0) (zb (dC (.int 8)) zt))) (zg 1)) (zQ (aL (dB (dOp (dIb fun i j=>decide (i<j)) (zi 1) (dC (.int 5)))) (aB (dOp (dI0 fun i j=>i-j) (zC 0 2 zk (zb (zi 0) (zb (dC (.int 13)) zt))) (dC (.int 6)))) aJ) (zQ (aL (dB (dOp (dIb fun i j=>decide (i<j)) (zi 1) (dC (.int 7)))) (aB (dOp (dI0 fun i j=>i-j) (zC 0 2 zk (zb (zi 0) (zb (dC (.int 2001)) zt))) (dC (.int 1000)))) aJ) (aB (dOp bB (dOp (dI0 fun i j=>i-j) (zC 0 2 zk (zb (zi 0) (zb (dOp bB (dC (.int 2)) (dOp (dI CPow fun i j=>i ^ j.toNat) (dC (.int 10)) (dC (.int 30)))) zt))) (dOp (dI CPow fun i j=>i ^ j.toNat) (dC (.int 10)) (dC (.int 30)))) (dOp (dI CPow fun i j=>i ^ j.toNat) (dC (.int 10)) (dC (.int 28)))))))) (aP S.length R) (xs.map some++ci 1 none) S
def iU:PN:=fun xs S R=>(zQ (aA (dC (.str "abcdefghijklmnopqrstuvwxyz")) (zg 1)) (zQ (aA (zC 0 2 zk (zb (zi 0) (zb (dC (.int 3)) zt))) (zg 2)) (zQ (aA (zC 0 2 zk (zb (zi 0) (zb (dC (.int 26)) zt))) (zg 3)) (zQ (aA (eU [none,some 1,some 3] (aZ (zb (dC (.int 8)) zt)) (zg 0) aG (dOp bB (dOp dIx (zi 1) (dOp (dI (fun _ j=>0<j) fun i j=>i % j) (dOp aC (zi 2) (dOp bB (dC (.int 5)) (zi 0))) (dC (.int 26)))) (dOp aC (dC (.int 1)) (dOp (dI (fun _ j=>0<j) fun i j=>i % j) (dOp aC (zi 2) (dOp bB (dC (.int 3)) (zi 0))) (dC (.int 8)))))) (zg 4)) (zQ (aL (dB (dOp aW (zi 2) (dC (.int 0)))) (zQ (aA (fQ fT (dC (.str "")) (zb (bJ [none,some 1,some 3] (aZ (zb (dC (.int 8)) zt)) (zg 0) aG (dOp dIx (zi 1) (dOp (dI (fun _ j=>0<j) fun i j=>i % j) (dOp aC (zi 2) (dOp bB (dC (.int 7)) (zi 0))) (dC (.int 26))))) zt)) (zg 5)) (aA (eU [none,some 5] (aZ (zb (dC (.int 8)) zt)) (zg 0) aG (dSl gK (zi 1) dG (dA (dOp aC (zi 0) (dC (.int 1)))))) (zg 4))) aJ) (zQ (aL (dB (dOp aW (zi 2) (dC (.int 1)))) (aA (bF (zb (dC (.str "part")) (zb (dC (.str "gap")) (zb (dC (.str "cut")) (zb (dC (.str "a")) (zb (dC (.str "aa")) (zb (dC (.str "dear")) (zb (dC (.str "b")) (zb (dC (.str "keeps")) zt))))))))) (zg 4)) aJ) (zQ (aA (zC 0 2 zk (zb (zi 0) (zb (dC (.int 8)) zt))) (zg 6)) (zQ (aA (dOp fS (dSl gK (zi 4) (dA (zi 6)) dG) (dSl gK (zi 4) dG (dA (zi 6)))) (zg 4)) (zQ (aL (dB (dOp aW (zC 0 2 zk (zb (zi 0) (zb (dC (.int 2)) zt))) (dC (.int 1)))) (bM (eO f8 (zi 4))) aJ) (aB (zi 4))))))))))) (aP S.length R) (xs.map some++ci 6 none) S
def oT:PN:=fun xs S R=>(zQ (aA (dC (.int 0)) (zg 2)) (zQ (aA (dC (.int 0)) (zg 3)) (zQ (bQ (bT (zi 1)) (cS 2 (bG (zg 4) (bG (zg 5) cT))) (zQ (aA (aM (zb (dOp bB (zi 5) (dOp dIx (dOp dIx (zi 0) (zi 4)) (dC (.int 1)))) (zb (dOp bB (zi 5) (dOp dIx (dOp dIx (zi 0) (zi 4)) (dC (.int 2)))) zt))) (zg 6)) (zQ (aA (dOp aC (zi 2) (dCB rP (zb (zi 6) zt))) (zg 2)) (aA (dOp aC (zi 3) (dCB nJ (zb (zi 6) zt))) (zg 3))))) (aB (aQ (zb (zi 2) (zb (zi 3) zt))))))) (aP S.length R) (xs.map some++ci 5 none) S
def oU:PN:=fun xs S R=>(zQ (aA (aM (zb (aQ zt) zt)) (zg 1)) (zQ (bQ (bT (zi 0)) (cS 3 (bG (zg 2) (bG (zg 3) (bG (zg 4) cT)))) (zQ (e9 (zQ (aA (bF zt) (zg 5)) (bQ (bT (zi 1)) (zg 6) (bM (dBM eR (zi 5) (zb (bJ [none,some 6,some 3] (aZ (zb (dOp aC (dOp (dI0 fun i j=>i-j) (zi 4) (zi 3)) (dC (.int 1))) zt)) (zg 0) aG (dOp aC (zi 1) (aQ (zb (dOp aC (zi 2) (zi 0)) zt)))) zt)))))) (aA (zi 5) (zg 1)))) (aB (zi 1)))) (aP S.length R) (xs.map some++ci 6 none) S
def nK:PN:=fun xs S R=>(zQ (aA (bF zt) (zg 2)) (zQ (bQ (aZ (zb (dCB bC (zb (zi 1) zt)) zt)) (zg 3) (zQ (aA (dOp (dI0 fun i j=>i-j) (zC 0 2 zk (zb (zi 0) (zb (dC (.int 9)) zt))) (dC (.int 4))) (zg 4)) (aL (dB (dOp eI (zi 4) (aQ (zb (dUn (dUI fun i=>-i) (dC (.int 4))) (zb (dC (.int 0)) (zb (dC (.int 4)) zt)))))) (bM (dBM bW (zi 2) (zb (aQ (zb (zi 3) (zb (zi 4) zt))) zt))) aJ))) (zQ (aL (dB (dOp aW (zi 2) (aM zt))) (aA (bF (zb (aQ (zb (zC 0 2 zk (zb (zi 0) (zb (dCB bC (zb (zi 1) zt)) zt))) (zb (dOp dIx (aM (zb (dC (.int 1)) (zb (dUn (dUI fun i=>-i) (dC (.int 1))) (zb (dC (.int 2)) (zb (dUn (dUI fun i=>-i) (dC (.int 3))) zt))))) (zC 0 2 zk (zb (zi 0) (zb (dC (.int 4)) zt)))) zt))) zt)) (zg 2)) aJ) (zQ (aA (gM 2 oT (zb (zi 1) (zb (zi 2) zt))) (cS 2 (bG (zg 5) (bG (zg 6) cT)))) (zQ (aA (dOp (dI0 fun i j=>i-j) (zi 6) (zi 5)) (zg 7)) (zQ (aA (dOp aC (zi 5) (dOp dIx (aM (zb (dC (.int 0)) (zb (dC (.int 1)) (zb (dUn (dUI fun i=>-i) (dC (.int 1))) (zb (dOp dFd (zi 7) (dC (.int 2))) (zb (dOp dFd (zi 7) (dC (.int 3))) (zb (dOp aC (zi 7) (dC (.int 1))) zt))))))) (zC 0 2 zk (zb (zi 0) (zb (dC (.int 6)) zt))))) (zg 8)) (zQ (aA (dOp aC (zi 8) (dOp dIx (aM (zb (dC (.int 0)) (zb (dC (.int 1)) (zb (dC (.int 2)) (zb (dOp dFd (zi 7) (dC (.int 2))) (zb (zi 7) (zb (dOp aC (zi 7) (dC (.int 2))) zt))))))) (zC 0 2 zk (zb (zi 0) (zb (dC (.int 6)) zt))))) (zg 9)) (aB (aQ (zb (dCB cZ (zb (zi 2) zt)) (zb (zi 8) (zb (zi 9) zt)))))))))))) (aP S.length R) (xs.map some++ci 8 none) S
def nN:PN:=fun xs S R=>(zQ (aA (dCB fY (zb (bJ [none,none,some 1] (bT (dOp dIx (zi 0) (dC (.int 0)))) (cS 2 (bG (zg 0) (bG (zg 1) cT))) aG (dOp bB (zi 1) (dOp dIx (zi 2) (zi 0)))) zt)) (zg 2)) (aB (fZ (dIb fun i j=>decide (i<=j)) (dIb fun i j=>decide (i<=j)) (dOp dIx (zi 0) (dC (.int 1))) (zi 2) (dOp dIx (zi 0) (dC (.int 2)))))) (aP S.length R) (xs.map some++ci 1 none) S
def oH:PN:=fun xs S R=>(zQ (aA (bF zt) (zg 1)) (zQ (bQ (bT (zi 0)) (zg 2) (aL (dB (dOp eI (zi 2) (zi 1))) (bM (dBM bW (zi 1) (zb (zi 2) zt))) aJ)) (aB (zi 1)))) (aP S.length R) (xs.map some++ci 2 none) S
def jB:PN:=fun xs S R=>(zQ (aA (dC (.int 0)) (zg 1)) (zQ (aA (bF (zb (aQ (zb (zi 0) (zb (dC (.int 0)) zt))) zt)) (zg 2)) (zQ (n5 (cA (zi 2)) (zQ (aA (eO fO (zi 2)) (zg 3)) (zQ (aA (dCB (dI2 fun i j=>if j>i then j else i) (zb (zi 1) (zb (dOp dIx (zi 3) (dC (.int 1))) zt))) (zg 1)) (aL (dB (dOp aW (dOp dIx (dOp dIx (zi 3) (dC (.int 0))) (dC (.int 0))) (dC (.str "measure")))) (bM (dBM eR (zi 2) (zb (bJ [none,some 3] (bT (aR 1 oH (zb (dOp dIx (dOp dIx (zi 3) (dC (.int 0))) (dC (.int 2))) zt))) (zg 0) aG (aQ (zb (zi 0) (zb (dOp aC (dOp dIx (zi 1) (dC (.int 1))) (dC (.int 1))) zt)))) zt))) aJ)))) (aB (zi 1))))) (aP S.length R) (xs.map some++ci 3 none) S
def zK:Nat->PN
 | 0=>fun _ _ _=>False
 |n+1=>fun xs S R=>(zQ (aL (dB (dOp aW (dCB bC (zb (zi 0) zt)) (dC (.int 1)))) (aB (dC (.int 0))) aJ) (aB (dOp aC (dC (.int 1)) (dCB nJ (zb (bJ [none] (bT (dOp dIx (zi 0) (dC (.int 2)))) (zg 0) aG (aR 1 (zK n) (zb (zi 0) zt))) zt))))) (aP S.length R) (xs.map some++ci 0 none) S
def xQ:PN:=zK 160
def rQ:PN:=fun xs S R=>(zQ (aA (zC 0 1 iU (zb (zi 0) zt)) (zg 2)) (zQ (aA (bJ [none,some 0] (aZ (zb (dOp aC (dC (.int 1)) (zC 0 2 zk (zb (zi 0) (zb (zi 1) zt)))) zt)) (zg 0) aG (dOp aC (dC (.int 1)) (zC 0 2 zk (zb (zi 1) (zb (dC (.int 3)) zt))))) (zg 3)) (zQ (aL (dB (dOp aW (zC 0 2 zk (zb (zi 0) (zb (dC (.int 12)) zt))) (dC (.int 0)))) (aA (dOp dIx (aM (zb (aM (zb (dC (.int 3)) (zb (dC (.int 3)) zt))) (zb (aM (zb (dC (.int 17)) (zb (dC (.int 17)) zt))) (zb (aM (zb (dC (.int 300)) zt)) (zb (dOp bB (aM (zb (dC (.int 1)) zt)) (dC (.int 8))) zt))))) (zC 0 2 zk (zb (zi 0) (zb (dC (.int 4)) zt)))) (zg 3)) aJ) (zQ (aA (bF zt) (zg 4)) (zQ (bQ (aZ (zb (dCB bC (zb (zi 3) zt)) zt)) (zg 5) (zQ (aA (zC 0 1 lQ (zb (zi 0) zt)) (zg 6)) (bM (dBM bW (zi 4) (zb (aQ (zb (dOp dIx (zi 2) (zi 5)) (zb (zi 6) (zb (dOp (dI0 fun i j=>i-j) (dOp aC (zi 6) (dOp dIx (zi 3) (zi 5))) (dC (.int 1))) zt)))) zt))))) (aB (dCB cZ (zb (zi 4) zt)))))))) (aP S.length R) (xs.map some++ci 5 none) S
def zJ:Nat->PN
 | 0=>fun _ _ _=>False
 |n+1=>fun xs S R=>(zQ (aA (dCB gC (zb (bJ [none,some 2] (bT (zi 4)) (zg 0) aG (aR 2 nN (zb (zi 1) (zb (zi 0) zt)))) zt)) (zg 6)) (zQ (aA (bJ [none,some 3] (aZ (zb (dCB bC (zb (zi 1) zt)) zt)) (zg 0) (dB (dOp eI (zi 0) (zi 1))) (zi 0)) (zg 7)) (zQ (aL (dOr (dB (dOp aW (zi 7) (aM zt))) (dOr (dB (dOp aW (zi 5) (dC (.int 0)))) (fE (dB (dOp (dIb fun i j=>decide (i<j)) (dCB bC (zb (zi 6) zt)) (dC (.int 2)))) (dB (dOp (dIb fun i j=>decide (j<i)) (zC 0 2 zk (zb (zi 0) (zb (dC (.int 4)) zt))) (dC (.int 0))))))) (aB (aQ (zb (dOp dIx (aM (zb (dC (.str "breaks")) (zb (dC (.str "keeps")) zt))) (dCB eQ (zb (dOp dIx (zi 6) (zC 0 2 zk (zb (zi 0) (zb (dCB bC (zb (zi 6) zt)) zt)))) zt))) zt))) aJ) (zQ (aA (dOp dIx (zi 7) (zC 0 2 zk (zb (zi 0) (zb (dCB bC (zb (zi 7) zt)) zt)))) (zg 8)) (zQ (aA (dOp dIx (zi 1) (zi 8)) (cS 3 (bG (zg 9) (bG (zg 10) (bG (zg 11) cT))))) (zQ (aA (bF zt) (zg 12)) (zQ (bQ (aZ (zb (dOp aC (dOp (dI0 fun i j=>i-j) (zi 11) (zi 10)) (dC (.int 1))) zt)) (zg 13) (zQ (aA (bJ [none,some 8,some 10,some 13] (bT (zi 4)) (zg 0) (dB (dOp aW (dOp dIx (zi 0) (zi 1)) (dOp aC (zi 2) (zi 3)))) (zi 0)) (zg 14)) (bM (dBM bW (zi 12) (zb (zC 0 6 (zJ n) (zb (zi 0) (zb (zi 1) (zb (zi 2) (zb (dOp aC (zi 3) (aM (zb (zi 8) zt))) (zb (zi 14) (zb (dOp (dI0 fun i j=>i-j) (zi 5) (dC (.int 1))) zt))))))) zt))))) (aB (aQ (zb (dC (.str "measure")) (zb (zi 8) (zb (dCB cZ (zb (zi 12) zt)) zt)))))))))))) (aP S.length R) (xs.map some++ci 9 none) S
def pL:PN:=zJ 160
def nB:PN:=fun xs S R=>(zQ (aA (bF zt) (zg 3)) (zQ (aA (zi 0) (zg 4)) (zQ (n5 (dB (dOp aW (dOp dIx (zi 4) (dC (.int 0))) (dC (.str "measure")))) (zQ (aA (dOp dIx (zi 4) (dC (.int 1))) (zg 5)) (zQ (bM (dBM bW (zi 3) (zb (zi 5) zt))) (aA (dOp dIx (dOp dIx (zi 4) (dC (.int 2))) (dOp (dI0 fun i j=>i-j) (dOp dIx (zi 2) (zi 5)) (dOp dIx (dOp dIx (zi 1) (zi 5)) (dC (.int 1))))) (zg 4))))) (aB (fR (zb (zi 3) (zb (dOp dIx (zi 4) (dC (.int 0))) zt))))))) (aP S.length R) (xs.map some++ci 3 none) S
def nT:PN:=fun xs S R=>(zQ (e9 (zQ (aA (bF zt) (zg 3)) (n5 (dB (dOp aW (dCB bC (zb (zi 0) zt)) (dC (.int 3)))) (zQ (bM (dBM bW (zi 3) (zb (dOp dIx (zi 0) (dC (.int 1))) zt))) (aA (dOp dIx (dOp dIx (zi 0) (dC (.int 2))) (dOp (dI0 fun i j=>i-j) (dOp dIx (zi 2) (dOp dIx (zi 0) (dC (.int 1)))) (dOp dIx (dOp dIx (zi 1) (dOp dIx (zi 0) (dC (.int 1)))) (dC (.int 1))))) (zg 0)))))) (aB (aQ (zb (zi 3) (zb (dOp dIx (zi 0) (dC (.int 0))) zt))))) (aP S.length R) (xs.map some++ci 1 none) S
def jK:PN:=fun xs S R=>(zQ (aA (aR 3 nT (zb (zi 0) (zb (zi 1) (zb (zi 2) zt)))) (zg 3)) (zQ (bQ (aZ (zb (dC (.int 2)) zt)) (zg 4) (zQ (aA (fJ 3 nB (zb (zi 0) (zb (zi 1) (zb (zi 2) zt)))) (zg 5)) (zQ (aL (eP (dOr (cI (cA (dCB cW (zb (zi 5) (zb (dO (.ty "tuple")) zt))))) (dOr (dB (dOp dX (dCB bC (zb (zi 5) zt)) (dC (.int 2)))) (dOr (cI (cA (dCB cW (zb (dOp dIx (zi 5) (dC (.int 0))) (zb (dO (.ty "list")) zt))))) (dB (dOp dX (zi 5) (zi 3))))))) (aB (dC (.bool false))) aJ) (zQ (aL (eP (cI (cA (dCB gG (zb (bJ [none] (bT (dOp dIx (zi 5) (dC (.int 0)))) (zg 0) aG (aR 1 j7 (zb (zi 0) zt))) zt))))) (aB (dC (.bool false))) aJ) (bM (dBM bW (dOp pV (zi 5) (dC (.int 0))) (zb (dC (.int 0)) zt))))))) (aB (dC (.bool true))))) (aP S.length R) (xs.map some++ci 3 none) S
def qE:DS:=(zQ (aA (aR 1 oA (zb (zi 1) zt)) (zg 2)) (zQ (aA (zC 0 2 rQ (zb (zi 2) (zb (dC (.int 3)) zt))) (zg 3)) (zQ (aA (zC 0 2 nK (zb (zi 2) (zb (zi 3) zt))) (zg 4)) (zQ (aA (aR 1 oU (zb (zi 3) zt)) (zg 5)) (zQ (aA (zC 0 6 pL (zb (zi 2) (zb (zi 3) (zb (zi 4) (zb (aM zt) (zb (zi 5) (zb (zC 0 2 zk (zb (zi 2) (zb (dC (.int 5)) zt))) zt))))))) (zg 6)) (zQ (aL (dOr (cI (cA (aR 1 j7 (zb (aR 1 jB (zb (zi 6) zt)) zt)))) (dB (dOp dX (aR 1 jB (zb (zi 6) zt)) (aR 1 xQ (zb (zi 6) zt))))) (aB (dC (.bool false))) aJ) (zQ (aA (zC 0 1 lQ (zb (zi 2) zt)) (zg 7)) (zQ (aA (dOp aC (dSl gJ (zi 3) dG (dA (dC (.int 7)))) (aQ (zb (aQ (zb (dC (.str "qzqzqzqz")) (zb (zi 7) (zb (dOp aC (zi 7) (zC 0 2 zk (zb (zi 2) (zb (dOp (dI CPow fun i j=>i ^ j.toNat) (dC (.int 10)) (dC (.int 30))) zt)))) zt)))) zt))) (zg 8)) (bQ (aZ (zb (dC (.int 5)) zt)) (zg 9) (zQ (aA (dOp dIx (zi 5) (zC 0 2 zk (zb (zi 2) (zb (dCB bC (zb (zi 5) zt)) zt)))) (zg 10)) (zQ (aL (cI (cA (aR 3 jK (zb (zi 6) (zb (zi 3) (zb (zi 10) zt)))))) (aB (dC (.bool false))) aJ) (aL (fE (dB (dOp (dIb fun i j=>decide (i<j)) (dCB bC (zb (zi 3) zt)) (dC (.int 8)))) (cI (cA (aR 3 jK (zb (zi 6) (zb (zi 8) (zb (dOp aC (zi 10) (aQ (zb (zi 7) zt))) zt))))))) (aB (dC (.bool false))) aJ))))))))))))
end My
namespace My
open PySem L2
theorem seq1{t u:DS}{E:DEnds}{δ:XE}{S:Sto}(h:t { E with nx:=u E } δ S):zQ t u E δ S:=h
theorem cut{t u:DS}{E:DEnds}{δ:XE}{S:Sto}(I:XE->Sto->Prop)(h1:∀N:XE->Sto->Prop,(∀ δ' S',I δ' S'->N δ' S')->t { E with nx:=N } δ S)(h2:∀ δ' S',I δ' S'->u E δ' S'):zQ t u E δ S:=h1 _ h2
theorem e8(i j:Int):gm (.int i) (.int j)=decide (i=j):=rfl
theorem jP(i:Int):dy (.int i)=true:=rfl
theorem j5(i:Bool):dy (.bool i)=true:=rfl
theorem mE:("int" ∈ eA)=True:=eq_true dz
theorem iY:("bool" ∈ eA)=True:=eq_true dz
theorem jL:("tuple" ∈ eA)=True:=eq_true dz
theorem lI:("list" ∈ eA)=True:=eq_true dz
theorem kQ:dy .none=true:=rfl
end My
namespace My
open PySem L2
local macro_rules|`(tactic|walk_at $s:str)=>do
 let xs<-("aA iV fR lY kI fJ kN eP mN kF kX lO all_cons List.all_nil Bool.and_self jN jA jO j3 jE iS iL i5 jC kC j6 mS gC mC gJ zg zi dC dO dOp dUn zt zb dCB aQ aM bF dB cI fE dOr gH l5 fP dIf fZ dI dI0 dIb dUI aW dX mM lM mD jI lN l9 i9 jV jG i6 kK kR jS dFd cA j4 k6 jJ dG dA dSl bC mK kJ cW eQ dI2 cZ dBM eO fQ bW f8 eR fO fT fS fY gG aR zC gM lG kA gV lK jY mF lE l6 jZ jM asL j8 lF lB mL lA mG lW mV jR lV lC kO iR kY iN kS aB aL bM aJ iZ bQ bT mU lZ aZ lL lP mX cS bG mH jD j9 kU cT eZ bJ eU aG cR e9 lJ lR eK lH jF mR kH mQ List.replicate map_cons map_nil map_some Option.bind_some Option.bind_none Option.join_some getElem?_cons_zero getElem?_cons_succ set_cons_zero set_cons_succ List.take_succ_cons take_zero List.take_nil length_cons length_nil nil_append cons_append Option.some.injEq exists_eq_left' exists_eq_left List.cons.injEq XV.d.injEq XV.l.injEq XV.o.injEq PyData.int.injEq PyData.list.injEq PyData.tuple.injEq PyData.bool.injEq PyData.str.injEq and_true true_and decide_eq_true_eq Bool.not_true Bool.not_false Bool.false_eq_true Bool.true_eq_false not_true_eq_false not_false_eq_true decide_true decide_false Bool.not_eq_true' gR decide_eq_false_iff_not Nat.reduceAdd Nat.reduceMul zero_add Nat.reduceLT Nat.reduceLeDiff Nat.reduceEqDiff Int.reduceLT Int.reduceLE Int.reduceNeg Int.reducePow Int.reduceToNat Int.reduceEq Int.reduceAdd Int.reduceSub Int.reduceMul le_refl zero_le length_append length_map e8 jP j5 kQ List.isEmpty_nil List.isEmpty_cons Int.cast_ofNat_Int Int.natCast_zero Int.natCast_one mE iY jL lI mO iM kP mB".splitOn " ").toArray.mapM fun n=>`(Lean.Parser.Tactic.simpLemma|$(Lean.mkIdent n.toName):ident)
 match s.getString with
 |"d"=>`(tactic|((try dsimp only[↓reduceIte,$xs,*]);(try simp only[↓reduceIte,$xs,*])))
 |"n"=>`(tactic|(refine seq1 ?_; walk_at "d"))
 |"dX"=>`(tactic|(try simp -implicitDefEqProofs only [↓reduceIte,$xs,*]))
 |"e"=>`(tactic|((try dsimp only[zQ,↓reduceIte,$xs,*]);(try simp only[zQ,↓reduceIte,$xs,*])))
 |_=>Lean.Macro.throwUnsupported
section
variable {R:RX}
theorem xK{n:Int}(q:∀m,0<=m->R (.d (.int m)) []):mW [.d (.int n)] [] R:=by
 unfold mW;walk_at "e";have h1:=ku (n+7919) (show (2147483647:Int)≠0 by decide);have h2:=ko (n+7919) (show (0:Int)<2147483647 by decide);exact⟨eC yw yw,eC dz dz,q _ (ku _ dz)⟩
theorem zo{p:List bo}{n:Int}(hp:aE p)(hn:0<n)(hb:n.natAbs.log2<9000)(q:∀r p',0<=r->r<n->aE p'->R (.d (.int r)) [p']):zk [.l 0,.d (.int n)] [p] R:=by
 obtain⟨l,g,sd,rfl,hl⟩:=hp;unfold zk;walk_at "e";split
 ·refine⟨hn,.inl ⟨⟨hn,hb⟩,0,rfl,?_⟩⟩;walk_at "e";exact q _ _ (ku _ yw) (ko _ hn) ⟨_,_,_,rfl,Int.ediv_nonneg hl yw⟩
 ·refine xK fun m _=>?_;walk_at "e";refine xK fun m' h'=>?_;walk_at "e";refine⟨2,rfl,?_⟩;walk_at "e";exact .inl ⟨⟨by decide,by decide +kernel⟩,hn,q _ _ (ku _ yw) (ko _ hn) ⟨_,_,_,rfl,hl⟩⟩
theorem FC{n:Int}(q:∀p,aE p->R (.l 0) [p]):oA [.d (.int n)] [] R:=by
 unfold oA;walk_at "e";refine⟨⟨by decide,by decide,by decide⟩,?_⟩;refine .inr (q _ ⟨_,_,_,rfl,?_⟩);split<;>omega
theorem Ew{p:List bo}(hp:aE p)(q:∀r p',-10 ^ 58<=r->r<=10 ^ 58->aE p'->R (.d (.int r)) [p']):sW [.l 0] [p] R:=by
 unfold sW;walk_at "e";refine zo hp dz (by decide +kernel) fun r p1 r0 r1 aa=>?_;walk_at "e";split
 ·refine zo aa dz (by decide +kernel) fun r p2 r0 r1 z=>?_;walk_at "e";exact q _ _ yw yw z
 ·split
  ·refine zo aa dz (by decide +kernel) fun r p2 r0 r1 z=>?_;walk_at "e";exact q _ _ yw yw z
  ·refine⟨⟨by decide,by decide,by decide⟩,eC dz dz,?_⟩;have k1:(10:Int) ^ 30=1000000000000000000000000000000:=by decide +kernel
   have k2:(10:Int) ^ 28=10000000000000000000000000000:=by decide +kernel
   refine zo aa (by decide +kernel) (by decide +kernel) fun r p2 r0 r1 z=>?_;walk_at "e"
   try simp only[k1,k2]at r1 ⊢
   refine⟨⟨by decide,by decide,by decide⟩,⟨by decide,by decide,by decide⟩,EI 128 128 yw (by decide +kernel),q _ _ yw yw z⟩
theorem y8{p:List bo}(hp:aE p)(q:∀r p',-10 ^ 58<=r->r<=10 ^ 58->aE p'->R (.d (.int r)) [p']):lQ [.l 0] [p] R:=Ew hp q
end
section
variable {R:RX}
theorem D4{α:Type}[Inhabited α]{l:List α}{i:Int}(h0:0<=i)(h1:i<l.length)(d:α):atI l i=some (l.getD i.toNat d):=by
 obtain⟨k,rfl⟩:=gp h0;have hk:k<l.length:=yw
 rw[dW (cp hk)];simp[fb,hk]
theorem yJ:("abcdefghijklmnopqrstuvwxyz":Str).length=26:=by decide
theorem CA:("abcdefghijklmnopqrstuvwxyz":Str).cps.toList.length=26:=by rw[<- yJ];simp[Str.length]
theorem xE:("abcdefghijklmnopqrstuvwxyz":Str).length<=dw:=jp (small1000 (by rw[yJ];decide))
theorem len1(c:Nat):(⟨#[c]⟩:Str).length=1:=rfl
abbrev lsgn (i:Int):Str:=⟨#[("abcdefghijklmnopqrstuvwxyz":Str).cps.toList.getD i.toNat 0]⟩
theorem AW{i:Int}(h0:0<=i)(h1:i<26):atI ("abcdefghijklmnopqrstuvwxyz":Str).cps.toList i=some (("abcdefghijklmnopqrstuvwxyz":Str).cps.toList.getD i.toNat 0):=D4 h0 (by rw[CA];exact h1) 0
theorem vI{ds:List bo}{a b:Option Int}{d:bo}(m:d∈aH ds a b):d∈ds:=by
 unfold aH at m;exact mem_of_mem_drop (mq m)
def eJ(z:Str):Bool:=decide (z.length<=100)&&PyData.strOk z&&!decide (z = "zy")
theorem BA:∀f<26,∀k<8,eJ (PySem.Txt.mul (lsgn (((f:Nat)+5*(0+((k:Nat):Int))) % 26)) (1+((f:Nat)+3*(0+((k:Nat):Int))) % 8))=true:=by decide +kernel
theorem Cu:∀f<26,∀k<8,eJ (PySem.Txt.slice (PySem.Txt.join "" ((fu 8).map fun k:Nat=>lsgn (((f:Nat)+7*(0+(k:Int))) % 26))) none (some (0+((k:Nat):Int)+1)))=true:=by decide +kernel
theorem Bj{ds:List bo}(h:∀d∈ds,∃z:Str,d=.str z/\eJ z=true):∃zs:List Str,ds=zs.map ki/\zs.length=ds.length/\∀z∈zs,eJ z=true:=by
 induction ds with
 |nil=>exact⟨[],rfl,rfl,yv⟩
 |cons d ds ih=>
  obtain⟨z,rfl,hz⟩:=h d dh;obtain⟨zs,rfl,hl,q⟩:=ih fun d m=>h d (cr _ m);refine⟨z::zs,rfl,yv,fun y m=>?_⟩;rcases mem_cons.mp m with rfl|m
  ·exact hz
  ·exact q y m
theorem tV(a b:Str):(a++b).length=a.length+b.length:=strLen_append a b
theorem AQ:∀zs:List Str,(∀z∈zs,z.length<=1)->(Str.join "" zs).length<=zs.length
 | [],_=>cv 0
 | [a],h=>h a dh
 |a::b::r,h=>by
  show (a ++ "" ++ Str.join "" (b::r)).length<=_;rw[tV,tV];have e:("":Str).length=0:=rfl;have h1:=h a dh;have h2:=AQ (b::r) fun z m=>h z (cr _ m);rw[e];simp only[fj]at h2 ⊢;omega
def k7(ds:List bo):Prop:=∀d∈ds,∃z:Str,d=.str z/\eJ z=true
theorem FN{ds:List bo}{a:Int}(h0:0<=a)(h1:a<=ds.length):(aH ds (some a) none++aH ds none (some a)).length=ds.length:=by
 obtain⟨k,rfl⟩:=gp h0;have e1:HT.sIx ds.length 0 (some (k:Int))=k:=by rw[HT.sIx_nat];omega
 have e2:HT.sIx ds.length ds.length (some (k:Int))=k:=by rw[HT.sIx_nat];omega
 have e3:HT.sIx ds.length ds.length none=ds.length:=rfl;have e4:HT.sIx ds.length 0 none=0:=rfl;unfold aH;rw[e1,e2,e3,e4,cq,jh,jh,length_drop,length_drop];omega
def qZ:List Str:=["part","gap","cut","a","aa","dear","b","keeps"]
set_option maxHeartbeats 8000000 in
theorem BS{p:List bo}(hp:aE p)(q:∀(ns:List Str) p',ns.length=8->(∀z∈ns,eJ z=true)->aE p'->R (.d (.list (ns.map ki))) [p']):iU [.l 0] [p] R:=by
 unfold iU;walk_at "dX"
 (refine seq1 ?_;walk_at "dX")
 (refine seq1 ?_;walk_at "dX")
 refine zo hp dz (by decide +kernel) fun ah p1 w0 w1 ak=>?_;walk_at "dX"
 (refine seq1 ?_;walk_at "dX")
 refine zo ak dz (by decide +kernel) fun aa p2 f0 f1 aj=>?_;walk_at "dX";refine cut (fun δ' S'=>∃(ds:List bo),k7 ds/\ds.length=8/\S'=[p2,ds]/\δ'=[some (.l 0),some (.d (.str ("abcdefghijklmnopqrstuvwxyz":Str))),some (.d (.int ah)),some (.d (.int aa)),some (.l 1),none,none]) (fun N hN=>?_) ?_
 ·walk_at "dX";refine cmp1 (S0:=[p2]) (fun k:Nat=>.str (PySem.Txt.mul (lsgn ((aa+5*(0+k)) % 26)) (1+(aa+3*(0+k)) % 8))) rfl (fu 8) yv ?_ ?_
  ·intro k mk u acc R' hk;have b1:=ku (aa+5*(0+(k:Int))) (show (26:Int)≠0 by decide);have b2:=ko (aa+5*(0+(k:Int))) (show (0:Int)<26 by decide);have b3:=ku (aa+3*(0+(k:Int))) (show (8:Int)≠0 by decide);have b4:=ko (aa+3*(0+(k:Int))) (show (0:Int)<8 by decide);walk_at "dX";refine⟨eC dz dz,xE,_,AW b1 b2,?_⟩;walk_at "dX";refine⟨eC dz dz,?_⟩;walk_at "dX";exact⟨by rw[len1];decide,yw,yw,hk _⟩
  ·refine hN _ _ ⟨_,?_,yv,rfl,rfl⟩;intro d m;obtain⟨k,mk,rfl⟩:=mem_map.mp m;obtain⟨f,rfl⟩:=gp f0;exact⟨_,rfl,BA f yw k (mem_range.mp mk)⟩
 rintro _ _ ⟨ds,ac,hl,rfl,rfl⟩;refine cut (fun δ' S'=>∃(ds:List bo) (T:Sto) (k:Nat) (u:Option XV),k7 ds/\ds.length=8/\T[k]?=some ds/\S'=p2::T/\δ'=[some (.l 0),some (.d (.str ("abcdefghijklmnopqrstuvwxyz":Str))),some (.d (.int ah)),some (.d (.int aa)),some (.l (k+1)),u,none]) (fun N hN=>?_) ?_
 ·walk_at "dX";split
  ·refine seq1 ?_;walk_at "dX";refine cmp1 (S0:=[p2,ds]) (fun k:Nat=>.str (lsgn ((aa+7*(0+k)) % 26))) rfl (fu 8) yv ?_ ?_
   ·intro k mk u acc R' hk;have b1:=ku (aa+7*(0+(k:Int))) (show (26:Int)≠0 by decide);have b2:=ko (aa+7*(0+(k:Int))) (show (0:Int)<26 by decide);walk_at "dX";refine⟨eC dz dz,xE,_,AW b1 b2,?_⟩;exact hk _
   ·walk_at "dX";refine⟨(fu 8).map fun k:Nat=>lsgn ((aa+7*(0+k)) % 26),by rw[pd];rfl,by decide,yv,fun y m=>?_,?_⟩
    ·obtain⟨k,_,rfl⟩:=mem_map.mp m;show 1<=1000;decide
    ·have wl:(PySem.Txt.join "" ((fu 8).map fun k:Nat=>lsgn ((aa+7*(0+k)) % 26))).length<=8*1016:=by
      have:=Bn (y:=("":Str)) (zs:=(fu 8).map fun k:Nat=>lsgn ((aa+7*(0+k)) % 26)) dz (fun y m=>by
       obtain⟨k,_,rfl⟩:=mem_map.mp m;show 1<=1000;decide)
      simpa using this
     have an:(PySem.Txt.join "" ((fu 8).map fun k:Nat=>lsgn ((aa+7*(0+k)) % 26))).length<=8:=by
      show (Builtin.Str.glued _ _).length<=_;rw[StrLaws.glued_eq_join];have:=AQ ((fu 8).map fun k:Nat=>lsgn ((aa+7*(0+k)) % 26)) (fun y m=>by
       obtain⟨k,_,rfl⟩:=mem_map.mp m;exact cv 1)
      simpa using this
     walk_at "dX";refine cmp1 (S0:=[p2,ds]) (fun k:Nat=>.str (PySem.Txt.slice (PySem.Txt.join "" ((fu 8).map fun k:Nat=>lsgn ((aa+7*(0+k)) % 26))) none (some (0+k+1)))) rfl (fu 8) yv ?_ ?_
     ·intro k mk u acc R' hk;walk_at "dX";exact⟨gq wl (by rw[jg];decide),hk _⟩
     ·refine hN _ _ ⟨_,[ds,_],1,_,?_,?_,rfl,rfl,rfl⟩
      ·intro d m;obtain⟨k,mk,rfl⟩:=mem_map.mp m;obtain⟨f,rfl⟩:=gp f0;exact⟨_,rfl,Cu f yw k (mem_range.mp mk)⟩
      ·simp
  ·exact hN _ _ ⟨ds,[ds],0,none,ac,hl,rfl,rfl,rfl⟩
 rintro _ _ ⟨ds,T,k,u,ac,hl,hk,rfl,rfl⟩;refine cut (fun δ' S'=>∃(ds:List bo) (T:Sto) (k:Nat),k7 ds/\ds.length=8/\T[k]?=some ds/\S'=p2::T/\δ'=[some (.l 0),some (.d (.str ("abcdefghijklmnopqrstuvwxyz":Str))),some (.d (.int ah)),some (.d (.int aa)),some (.l (k+1)),u,none]) (fun N hN=>?_) ?_
 ·walk_at "dX";split
  ·refine hN _ _ ⟨qZ.map ki,T++[qZ.map ki],T.length,?_,rfl,by rw[ca],rfl,rfl⟩;intro d m;obtain⟨z,hz,rfl⟩:=mem_map.mp m;refine⟨z,rfl,?_⟩;simp only[qZ,ji,ie,or_false]at hz;rcases hz with rfl|rfl|rfl|rfl|rfl|rfl|rfl|rfl<;>decide +kernel
  ·exact hN _ _ ⟨ds,T,k,ac,hl,hk,rfl,rfl⟩
 rintro _ _ ⟨ds,T,k,ac,hl,hk,rfl,rfl⟩
 (refine seq1 ?_;walk_at "dX")
 refine zo aj dz (by decide +kernel) fun ab p3 a0 a1 al=>?_;walk_at "dX"
 (refine seq1 ?_;walk_at "dX")
 refine⟨ds,hk,ds,hk,?_⟩;have hc:=FN (ds:=ds) a0 yw;rw[cq]at hc;refine⟨yw,?_⟩;have af:(T++[aH ds (some ab) none++aH ds none (some ab)])[T.length]?=some (aH ds (some ab) none++aH ds none (some ab)):=by rw[ca]
 have ag:k7 (aH ds (some ab) none++aH ds none (some ab)):=fun d m=>(mem_append.mp m).elim (fun m=>ac d (vI m)) fun m=>ac d (vI m);have ai:(aH ds (some ab) none++aH ds none (some ab)).length=8:=by rw[cq];omega
 generalize aH ds (some ab) none++aH ds none (some ab)=es at af ag ai ⊢;refine seq1 ?_;walk_at "dX";refine zo al dz (by decide +kernel) fun r p4 r0 r1 am=>?_;walk_at "dX";have ae:∀(fs:List bo),k7 fs->fs.length=8->R (.d (.list fs)) [p4]:=by
  intro fs h1 h2;obtain⟨zs,rfl,z1,z2⟩:=Bj h1;exact q zs p4 yw z2 am
 split
 ·refine⟨yv,es,af,?_⟩;walk_at "dX";rw[cb yw];refine⟨es.reverse,by simp[pE],.inl (ae _ (fun d m=>ag d (mem_reverse.mp m)) (by simpa using ai))⟩
 ·rw[cb yw];exact⟨es,af,.inl (ae _ ag ai)⟩
abbrev Part:=Str×Int×Int
def bA(p:Part):bo:=.tuple [.str p.1,.int p.2.1,.int p.2.2]
def aK(ps:List Part):bo:=.tuple (ps.map bA)
structure Prt(p:Part):Prop where
 nm:eJ p.1=true
 le:p.2.1<=p.2.2
 lo:-10 ^ 58<=p.2.1
 hi:p.2.2<=10 ^ 59
structure Drw(ps:List Part):Prop where
 l1:1<=ps.length
 l8:ps.length<=8
 all:∀p∈ps,Prt p
theorem dP{α:Type}{f:α->bo}{l:List α}{k:Nat}{x:α}(e:l[k]?=some x):atI (l.map f) (k:Int)=some (f x):=dW (by rw[gh,e];rfl)
end
section
variable {R:RX}{S:Sto}
theorem DL{a b m:Int}(h1:m∈[a,b])(h2:∀x,x∈[a,b]->m<=x):m=min a b:=by
 have ha:=h2 a yv;have hb:=h2 b yv;simp only[ji,ie,or_false]at h1;omega
theorem Cb{a b m:Int}(h1:m∈[a,b])(h2:∀x,x∈[a,b]->x<=m):m=max a b:=by
 have ha:=h2 a yv;have hb:=h2 b yv;simp only[ji,ie,or_false]at h1;omega
theorem B8{a b:Int}(q:R (.d (.int (min a b))) S):rP [.d (.list [.int a,.int b])] S R:=.inl ⟨_,rfl,[a,b],rfl,yv,fun m h1 h2=>by rw[DL h1 h2];exact q⟩
theorem CN{a b:Int}(q:R (.d (.int (max a b))) S):nJ [.d (.list [.int a,.int b])] S R:=⟨_,rfl,[a,b],rfl,yv,fun m h1 h2=>by rw[Cb h1 h2];exact q⟩
abbrev Term:=Nat×Int
def tmD(t:Term):bo:=.tuple [.int t.1,.int t.2]
def pJ(ts:List Term):bo:=.tuple (ts.map tmD)
structure Gap where
 ts:List Term
 lo:Int
 hi:Int
def fB(g:Gap):bo:=.tuple [pJ g.ts,.int g.lo,.int g.hi]
theorem Ez(g:Gap):fB g=.tuple [pJ g.ts,.int g.lo,.int g.hi]:=rfl
theorem EH(t:Term):tmD t=.tuple [.int t.1,.int t.2]:=rfl
theorem m9(p:Part):bA p=.tuple [.str p.1,.int p.2.1,.int p.2.2]:=rfl
def aF(ns:List Int):bo:=.tuple (ns.map df)
structure Tms(n:Nat)(ts:List Term):Prop where
 ne:ts≠[]
 len:ts.length<=n
 ok:∀t∈ts,t.1<n/\t.2≠0/\-3<=t.2/\t.2<=3
 srt:ts.Pairwise fun t u=>t.1<u.1
structure Tm3(n:Nat)(ts:List Term):Prop where
 len:ts.length<=100
 ok:∀t∈ts,t.1<n/\-3<=t.2/\t.2<=3
theorem Tms.tm3{n:Nat}{ts:List Term}(h:Tms n ts)(hn:n<=8):Tm3 n ts:=⟨by have:=h.len;omega,fun t m=>⟨(h.ok t m).1,(h.ok t m).2.2⟩⟩
def worth(ts:List Term)(ns:List Int):Int:=(ts.map fun t=>t.2*ns.getD t.1 0).sum
theorem nX{ns:List Int}{k:Nat}(h:k<ns.length):ns[k]?=some (ns.getD k 0):=by
 rw[cp h,fb,cp h];rfl
def part(ps:List Part)(k:Nat):Part:=ps.getD k ("",0,0)
theorem gF{ps:List Part}{k:Nat}(h:k<ps.length):ps[k]?=some (part ps k):=by
 unfold part;rw[cp h,fb,cp h];rfl
theorem At{ps:List Part}{k:Nat}(h:k<ps.length):part ps k∈ps:=bq (gF h)
def plo(ps:List Part)(k:Nat):Int:=(part ps k).2.1
def phi(ps:List Part)(k:Nat):Int:=(part ps k).2.2
def tLo(ps:List Part)(t:Term):Int:=min (t.2*plo ps t.1) (t.2*phi ps t.1)
def tHi(ps:List Part)(t:Term):Int:=max (t.2*plo ps t.1) (t.2*phi ps t.1)
def bS(ps:List Part)(ts:List Term):Int:=(ts.map (tLo ps)).sum
def bU(ps:List Part)(ts:List Term):Int:=(ts.map (tHi ps)).sum
theorem D1{ps:List Part}{t:Term}{ts:List Term}:bS ps (t::ts)=tLo ps t+bS ps ts:=by simp[bS]
theorem D8{ps:List Part}{t:Term}{ts:List Term}:bU ps (t::ts)=tHi ps t+bU ps ts:=by simp[bU]
theorem Ae{ps:List Part}{ts:List Term}{i:Nat}{t:Term}(h:ts[i]?=some t):bS ps (ts.take (i+1))=bS ps (ts.take i)+tLo ps t:=by
 unfold bS;rw[take_add_one,h];simp
theorem Ad{ps:List Part}{ts:List Term}{i:Nat}{t:Term}(h:ts[i]?=some t):bU ps (ts.take (i+1))=bU ps (ts.take i)+tHi ps t:=by
 unfold bU;rw[take_add_one,h];simp
theorem tJ(ps:List Part):∀ts:List Term,bS ps ts<=bU ps ts
 | []=>by simp[bS,bU]
 |t::ts=>by
  have:=tJ ps ts;rw[D1,D8];unfold tLo tHi;omega
theorem pP{α:Type}{f:α->bo}{l:List α}{i:Nat}{d:bo}(h:(l.map f)[i]?=some d):∃x,l[i]?=some x/\d=f x:=by
 rw[gh]at h;obtain⟨x,e,rfl⟩:=map_eq_some_iff.mp h;exact⟨x,e,rfl⟩
theorem Bb{ps:List Part}{ts:List Term}{t:bo}(ht:cV (.d t)=some (ts.map tmD))(h3:Tm3 ps.length ts)(q:R (.d (spD (bS ps ts) (bU ps ts))) []):oT [.d (aK ps),.d t] [] R:=by
 unfold oT aK;walk_at "d"
 walk_at "n"
 walk_at "n"
 walk_at "n";refine⟨_,ht,?_⟩;refine dF (fun i δ S=>∃(u1 u2 u3:Option XV),S=[]/\δ=[some (.d (.tuple (ps.map bA))),some (.d t),some (.d (.int (bS ps (ts.take i)))),some (.d (.int (bU ps (ts.take i)))),u1,u2,u3]) ⟨_,_,_,rfl,rfl⟩ ?_ ?_
 ·rintro i d _ _ N hi ⟨u1,u2,u3,rfl,rfl⟩ hN;obtain⟨t,ht,rfl⟩:=pP hi;obtain⟨t1,t2,t3⟩:=h3.ok t (bq ht);have ep:=dP (f:=bA) (gF t1);unfold tmD;walk_at "d"
  walk_at "n"
  refine⟨_,ep,?_⟩;unfold bA;walk_at "d";refine⟨eC yw yw,_,ep,?_⟩;unfold bA;walk_at "d";refine⟨eC yw yw,?_⟩
  walk_at "n"
  refine B8 ?_;walk_at "d";refine CN ?_;walk_at "d";exact hN _ _ ⟨_,_,_,rfl,by rw[Ae ht,Ad ht];rfl⟩
 ·rintro _ _ ⟨u1,u2,u3,rfl,rfl⟩;rw[dj,take_length];walk_at "d";exact q
theorem fU{ds:List bo}{r:Int}{P:bo->Prop}(h0:0<=r)(h1:r<ds.length)(hP:∀d∈ds,P d):∃d,atI ds r=some d/\P d:=by
 obtain⟨k,rfl⟩:=gp h0;have hk:k<ds.length:=yw
 exact⟨ds[k],dW (cp hk),hP _ (ls hk)⟩
theorem A0(ds:List bo):gm (.list ds) (.list [])=decide (ds=[]):=by
 cases ds with
 |nil=>rfl
 |cons d ds=>rfl
theorem Bc(t:Term):Shp 1 (tmD t):=mT (xX iH iH)
theorem CL(ts:List Term):dy (.list (ts.map tmD))=true:=(mP (mZ fun t _=>Bc t)).ok
structure GapOk(n:Nat)(g:Gap):Prop where
 ts:Tms n g.ts
 le:g.lo<=g.hi
theorem F0{p:List bo}{ps:List Part}(hp:aE p)(hd:Drw ps)(q:∀g p',GapOk ps.length g->aE p'->R (.d (fB g)) [p']):nK [.l 0,.d (aK ps)] [p] R:=by
 have h8:=hd.l8;have h1:=hd.l1;unfold nK;walk_at "d"
 walk_at "n"
 refine cut (fun δ S=>∃(p:List bo) (ts:List Term) (u1 u2:Option XV),aE p/\ts.length<=ps.length/\(∀t∈ts,t.1<ps.length/\t.2≠0/\-3<=t.2/\t.2<=3)/\(ts.Pairwise fun t u=>t.1<u.1)/\S=[p,ts.map tmD]/\δ=[some (.l 0),some (.d (aK ps)),some (.l 1),u1,u2,none,none,none,none,none]) (fun N hN=>?_) ?_
 ·walk_at "d";refine⟨ps.length,by unfold aK;walk_at "d",?_⟩;refine dF (fun i δ S=>∃(p:List bo) (ts:List Term) (u1 u2:Option XV),aE p/\ts.length<=i/\(∀t∈ts,t.1<i/\t.2≠0/\-3<=t.2/\t.2<=3)/\(ts.Pairwise fun t u=>t.1<u.1)/\S=[p,ts.map tmD]/\δ=[some (.l 0),some (.d (aK ps)),some (.l 1),u1,u2,none,none,none,none,none]) ⟨p,[],_,_,hp,cv _,yv,.nil,rfl,rfl⟩ ?_ ?_
  ·rintro i d _ _ N hi ⟨p,ts,u1,u2,hp,hl,ht,hw,rfl,rfl⟩ hN;obtain⟨af,rfl⟩:=iO hi;have ah:i<ps.length:=by simpa using af
   walk_at "d"
   walk_at "n"
   refine zo hp dz (by decide +kernel) fun r p2 r0 r1 aa=>?_;walk_at "d";refine⟨rfl,?_⟩;simp only[List.any_cons,List.any_nil,Bool.or_false,e8];have ae:=hN [some (.l 0),some (.d (aK ps)),some (.l 1),some (.d (.int (0+(i:Int)))),some (.d (.int (r-4))),none,none,none,none,none] [p2,ts.map tmD] ⟨p2,ts,_,_,aa,yw,fun t m=>⟨by have:=(ht t m).1;omega,(ht t m).2⟩,hw,rfl,rfl⟩;by_cases hz:r-4 = -4\/r-4=0\/r-4=4
   ·have e:(decide ((-4:Int)=r-4)||(decide ((0:Int)=r-4)||decide ((4:Int)=r-4)))=true:=by
     rcases hz with h|h|h<;>simp[h]
    rw[e];walk_at "d";exact ae
   ·have e:(decide ((-4:Int)=r-4)||(decide ((0:Int)=r-4)||decide ((4:Int)=r-4)))=false:=by
     simp;omega
    rw[e];walk_at "d";refine⟨yw,hN _ _ ⟨p2,ts++[(i,r-4)],_,_,aa,by simp;omega,fun t m=>?_,?_,by simp[tmD],rfl⟩⟩
    ·rcases mem_append.mp m with m|m
     ·exact⟨by have:=(ht t m).1;omega,(ht t m).2⟩
     ·rw[mem_singleton.mp m];exact⟨yv,by simp only;omega,by simp only;omega,by simp only;omega⟩
    ·rw[pairwise_append];exact⟨hw,yv,fun t m u m'=>by rw[mem_singleton.mp m'];exact(ht t m).1⟩
  ·rintro _ _ ⟨p,ts,u1,u2,hp,hl,ht,hw,rfl,rfl⟩;rw[gA]at hl ht;have hz:(ps.length:Int).toNat=ps.length:=by simp
   rw[hz]at hl ht;exact hN _ _ ⟨p,ts,u1,u2,hp,hl,ht,hw,rfl,rfl⟩
 rintro _ _ ⟨p,ts,u1,u2,hp,hl,ht,hw,rfl,rfl⟩;refine cut (fun δ S=>∃(p:List bo) (ts:List Term) (T:Sto) (k:Nat),aE p/\Tms ps.length ts/\T[k]?=some (ts.map tmD)/\S=p::T/\δ=[some (.l 0),some (.d (aK ps)),some (.l (k+1)),u1,u2,none,none,none,none,none]) (fun N hN=>?_) ?_
 ·walk_at "d";refine⟨CL ts,rfl,?_⟩;rw[A0];walk_at "d";split
  ·refine⟨ps.length,by unfold aK;walk_at "d",?_⟩;refine zo hp yw (hE yw yw) fun r p2 r0 r1 aa=>?_;walk_at "d";refine zo aa dz (by decide +kernel) fun r3 p3 r2 r4 ab=>?_;obtain⟨d,ed,n,rfl,hn⟩:=fU (ds:=[df 1,df (-1),df 2,df (-3)]) (P:=fun d=>∃n,d=.int n/\n≠0/\-3<=n/\n<=3) r2 r4 (by
    intro d m;simp only[ji,ie,or_false]at m;rcases m with rfl|rfl|rfl|rfl<;>exact⟨_,rfl,by decide,by decide,by decide⟩)
   obtain⟨k,rfl⟩:=gp r0;walk_at "d";refine⟨_,ed,?_⟩;walk_at "d";refine hN _ _ ⟨p3,[(k,n)],[ts.map tmD,[tmD (k,n)]],1,ab,⟨yv,by simpa using h1,fun t m=>by rw[mem_singleton.mp m];exact⟨by simp only;omega,hn⟩,yv⟩,rfl,rfl,rfl⟩
  ·rename_i ag;exact hN _ _ ⟨p,ts,[ts.map tmD],0,hp,⟨fun z=>ag (by rw[z];rfl),hl,ht,hw⟩,rfl,rfl,rfl⟩
 rintro _ _ ⟨p,ts,T,k,hp,ac,hk,rfl,rfl⟩
 walk_at "n"
 rw[hk];walk_at "d";refine Bb rfl (ac.tm3 h8) ?_;have lm:=tJ ps ts;unfold spD;walk_at "d";refine⟨rfl,?_⟩;walk_at "d"
 walk_at "n"
 walk_at "n"
 refine .inl ⟨⟨by decide,by decide +kernel⟩,.inl ⟨⟨by decide,by decide +kernel⟩,?_⟩⟩;walk_at "d";refine zo hp dz (by decide +kernel) fun r p2 r0 r1 aa=>?_;obtain⟨d,ed,n,rfl⟩:=fU (P:=fun d=>∃n,d=.int n) (ds:=[df 0,df 1,df (-1),df ((bU ps ts-bS ps ts)/2),df ((bU ps ts-bS ps ts)/3),df (bU ps ts-bS ps ts+1)]) r0 r1 yv;walk_at "d";refine⟨_,ed,?_⟩;walk_at "d"
 walk_at "n"
 refine .inl ⟨⟨by decide,by decide +kernel⟩,?_⟩;walk_at "d";refine zo aa dz (by decide +kernel) fun r' p3 r2 r3 ab=>?_;obtain⟨d,ed,n',rfl,h0⟩:=fU (P:=fun d=>∃n,d=.int n/\0<=n) (ds:=[df 0,df 1,df 2,df ((bU ps ts-bS ps ts)/2),df (bU ps ts-bS ps ts),df (bU ps ts-bS ps ts+2)]) r2 r3 (by simp;omega);walk_at "d";refine⟨_,ed,?_⟩;walk_at "d";refine⟨_,hk,?_⟩;walk_at "d";exact q ⟨ts,_,_⟩ p3 ⟨ac,by simp only;omega⟩ ab
theorem tK{g:DG}{te:DE}{fin:Sto->Prop}{α:Type}(F:α->Prop)(f:α->bo)(P:XE->Prop):∀(ds:List bo) (acc:List α) (p:List bo) (τ:XE),P τ->aE p->acc.length+ds.length<=1000 ->
  (∀d∈ds,∀ τ p acc (R:XE->RX),P τ->aE p->(∀ τ' x p',P τ'->aE p'->F x->R τ' (.d (f x)) [p',acc])->g (.d d) τ [p,acc] fun τ1 S1=>te τ1 S1 (R τ1)) ->
  (∀xs p',aE p'->(∀x∈xs,F x)->xs.length=ds.length->fin [p',(acc++xs).map f])->aN 1 g aG te fin ds τ [p,acc.map f]
 | [],acc,p,τ,_,hp,_,_,h=>by
  have:=h [] p hp yv rfl;rw[jb]at this;exact this
 |d::ds,acc,p,τ,hP,hp,hl,el,h=>by
  show g (.d d) τ [p,acc.map f] fun τ1 S1=>aG τ1 S1 fun b S2=>if b=true then te τ1 S2 fun x S3=>asD x fun e=>∃acc,S3[1]?=some acc/\acc.length<1000/\aN 1 g aG te fin ds τ1 (S3.set 1 (acc++[e]))else aN 1 g aG te fin ds τ1 S2
  simp only[aG,↓reduceIte];rw[fj]at hl;refine el d dh τ p (acc.map f) (fun τ1 x S3=>asD x fun e=>∃acc,S3[1]?=some acc/\acc.length<1000/\aN 1 g aG te fin ds τ1 (S3.set 1 (acc++[e]))) hP hp fun τ' x p' z q hF=>?_;refine⟨acc.map f,rfl,by rw[dj];omega,?_⟩;have e:([p',acc.map f]:Sto).set 1 (acc.map f++[f x])=[p',(acc++[x]).map f]:=by simp
  rw[e];refine tK F f P ds (acc++[x]) p' τ' z q (by rw[cq,fr];omega) (fun e m=>el e (cr _ m)) fun xs p'' hp'' fs hl=>?_;rw[io];exact h (x::xs) p'' hp'' (fun y m=>(mem_cons.mp m).elim (fun e=>e▸hF) (fs y)) (by simp[hl])
end
section
variable {R:RX}{S:Sto}
def dQ(g:Gap)(ns:List Int):Bool:=decide (g.lo<=worth g.ts ns/\worth g.ts ns<=g.hi)
structure InBox(ps:List Part)(ns:List Int):Prop where
 len:ns.length=ps.length
 ok:∀k,k<ps.length->plo ps k<=ns.getD k 0/\ns.getD k 0<=phi ps k
def Ord(ps:List Part):Prop:=∀p∈ps,p.2.1<=p.2.2
theorem Drw.ord{ps:List Part}(h:Drw ps):Ord ps:=fun p m=>(h.all p m).le
theorem Ord.at{ps:List Part}(h:Ord ps){k:Nat}(hk:k<ps.length):plo ps k<=phi ps k:=h _ (At hk)
end
section
variable {R:RX}{S:Sto}
def sJ:bo->Bool
 | .int _=>true
 |_=>false
theorem uN{d:bo}(q:R (.d (.bool (sJ d))) []):j7 [.d d] [] R:=by
 unfold j7;cases d<;>(walk_at "e";exact q)
end
section
variable {R:RX}{S:Sto}
def rng(lo:Int)(n:Nat):List Int:=(fu n).map fun k:Nat=>lo+k
theorem vM{lo x:Int}{n:Nat}:x∈rng lo n↔lo<=x/\x<lo+n:=by
 unfold rng;rw[mem_map];constructor
 ·rintro⟨k,hk,rfl⟩;have:=mem_range.mp hk;omega
 ·rintro⟨h1,h2⟩;exact⟨(x-lo).toNat,mem_range.mpr yw,yw⟩
def eF(p:Part):List Int:=rng p.2.1 (p.2.2-p.2.1+1).toNat
theorem oP(p:Part):(eF p).length=(p.2.2-p.2.1+1).toNat:=by simp[eF,rng]
def bP:List Part->List (List Int)
 | []=>[[]]
 |p::ps=>(eF p).flatMap fun x=>(bP ps).map (x :: ·)
def ext(q:List (List Int))(p:Part):List (List Int):=q.flatMap fun a=>(eF p).map fun x=>a++[x]
theorem yK:∀(ps:List Part) (found:List (List Int)),ps.foldl ext found=found.flatMap fun a=>(bP ps).map (a ++ ·)
 | [],found=>by simp[bP]
 |p::ps,found=>by
  rw[nk,yK ps];unfold ext;simp only[bP,List.flatMap_assoc,List.map_flatMap,List.flatMap_map,pd];congr 1;funext a;congr 1;funext x;congr 1;funext t;simp
theorem yL(ps:List Part):ps.foldl ext [[]]=bP ps:=by
 rw[yK];simp
theorem Ce{ms:List Int}:InBox [] ms↔ms=[]:=⟨fun h=>fw h.len,fun h=>by subst h;exact⟨rfl,fun k hk=>by simp at hk⟩⟩
theorem w4{p:Part}{ps:List Part}{k:Nat}:part (p::ps) (k+1)=part ps k:=by simp[part]
theorem Aq{p:Part}{ps:List Part}{ms:List Int}:InBox (p::ps) ms↔∃x t,ms=x::t/\p.2.1<=x/\x<=p.2.2/\InBox ps t:=by
 constructor
 ·intro h;cases ms with
  |nil=>have:=h.len;simp at this
  |cons x t=>
   have h0:=h.ok 0 yv;refine⟨x,t,rfl,h0.1,h0.2,by have:=h.len;simpa using this,fun k hk=>?_⟩;have:=h.ok (k+1) (by simpa using hk);unfold plo phi at this ⊢;rw[w4]at this;simpa using this
 ·rintro⟨x,t,rfl,h1,h2,h3⟩;refine⟨by simp[h3.len],fun k hk=>?_⟩;cases k with
  |zero=>exact⟨h1,h2⟩
  |succ k=>
   have:=h3.ok k (by simpa using hk);unfold plo phi at this ⊢;rw[w4];simpa using this
theorem iF:∀{ps:List Part}{ms:List Int},ms∈bP ps↔InBox ps ms
 | [],ms=>by rw[Ce];simp[bP]
 |p::ps,ms=>by
  rw[Aq,bP,List.mem_flatMap];constructor
  ·rintro⟨x,hx,h⟩;obtain⟨t,ht,rfl⟩:=mem_map.mp h;unfold eF at hx;rw[vM]at hx;exact⟨x,t,rfl,yw,yw,iF.mp ht⟩
  ·rintro⟨x,t,rfl,h1,h2,h3⟩;exact⟨x,by unfold eF;rw[vM];omega,mem_map.mpr ⟨t,iF.mpr h3,rfl⟩⟩
def aO:List Nat->Nat
 | []=>1
 |x::xs=>x*aO xs
def aI(ps:List Part):Nat:=aO (ps.map fun p=>(p.2.2-p.2.1+1).toNat)
theorem sG{α β:Type}{f:α->List β}{n:Nat}:∀{l:List α},(∀x∈l,(f x).length=n)->(l.flatMap f).length=l.length*n
 | [],_=>by simp
 |x::l,h=>by
  rw[List.flatMap_cons,cq,h x dh,sG fun y m=>h y (cr _ m),fj,Nat.succ_mul,Nat.add_comm]
theorem p9:∀ps:List Part,(bP ps).length=aI ps
 | []=>rfl
 |p::ps=>by
  rw[bP,sG (n:=aI ps) fun x _=>by rw[dj,p9 ps],oP];rfl
theorem pO{q:List (List Int)}{p:Part}:(ext q p).length=q.length*(p.2.2-p.2.1+1).toNat:=by
 unfold ext;exact sG fun x _=>by rw[dj,oP]
theorem qD{q:List (List Int)}:∀{ps:List Part},(ps.foldl ext q).length=q.length*aI ps
 | []=>by simp[aI,aO]
 |p::ps=>by
  rw[nk,qD (ps:=ps),pO];simp[aI,aO,Nat.mul_assoc]
theorem sE:∀{l:List Nat},(∀x∈l,1<=x)->1<=aO l
 | [],_=>cv _
 |x::l,h=>Nat.mul_le_mul (h x dh) (sE fun y m=>h y (cr _ m))
theorem m7{ps:List Part}(ho:Ord ps):1<=aI ps:=sE fun x m=>by
 obtain⟨p,mp,rfl⟩:=mem_map.mp m;have:=ho p mp;omega
theorem rY:∀(a b:List Nat),aO (a++b)=aO a*aO b
 | [],b=>by simp[aO]
 |x::a,b=>by simp[aO,rY a b,Nat.mul_assoc]
theorem sC{ps:List Part}(ho:Ord ps)(i:Nat):aI (ps.take i)<=aI ps:=by
 have e:aI ps=aI (ps.take i)*aI (ps.drop i):=by
  unfold aI;rw[<- rY,<- gn,jk]
 have:=m7 (ps:=ps.drop i) fun p m=>ho p (mem_of_mem_drop m);rw[e];exact Nat.le_mul_of_pos_right _ this
theorem gZ{α:Type}{l:List α}{i:Nat}{x:α}(h:l[i]?=some x):l.take (i+1)=l.take i++[x]:=by rw[take_add_one,h];rfl
theorem Cp(a:List Int)(x:Int):PyData.tuple (a.map df++[.int x])=aF (a++[x]):=by simp[aF]
theorem EN{ps:List Part}(ho:Ord ps)(ac:ps.length<=100)(hs:aI ps<=300)(q:R (.d (.list ((bP ps).map aF))) []):oU [.d (aK ps)] [] R:=by
 unfold oU;rw[aK];walk_at "d"
 walk_at "n"
 walk_at "n";refine dF (fun i δ S=>∃(u1 u2 u3 u4 u5:Option XV),S=[]/\δ=[some (.d (.tuple (ps.map bA))),some (.d (.list (((ps.take i).foldl ext [[]]).map aF))),u1,u2,u3,u4,u5]) ⟨_,_,_,_,_,rfl,rfl⟩ ?_ ?_
 ·rintro i d _ _ N hi ⟨u1,u2,u3,u4,u5,rfl,rfl⟩ hN;obtain⟨p,hp,rfl⟩:=pP hi;have tk:=gZ hp;have il:i<ps.length:=(List.getElem?_eq_some_iff.mp hp).1;have op:=ho p (bq hp);have l1:=sC ho i;have l2:=sC ho (i+1);have f1:((ps.take i).foldl ext [[]]).length=aI (ps.take i):=by rw[qD];simp
  have f2:(ext ((ps.take i).foldl ext [[]]) p).length=aI (ps.take (i+1)):=by
   have:(ps.take (i+1)).foldl ext [[]]=ext ((ps.take i).foldl ext [[]]) p:=by rw[tk,List.foldl_append];rfl
   rw[<- this,qD];simp
  have fl:∀a∈(ps.take i).foldl ext [[]],a.length<=i:=by
   rw[yL];intro a m;have:=(iF.mp m).len;rw[this,jh];omega
  have z:=fun u1 u2 u3 u4 u5=>hN [some (.d (.tuple (ps.map bA))),some (.d (.list ((ext ((ps.take i).foldl ext [[]]) p).map aF))),u1,u2,u3,u4,u5] [] ⟨u1,u2,u3,u4,u5,rfl,by rw[tk,List.foldl_append];rfl⟩;generalize (ps.take i).foldl ext [[]]=found at f1 f2 fl z ⊢;rw[m9];walk_at "d";walk_at "n";walk_at "n";refine dF (fun j δ S=>∃(u:Option XV),S=[(ext (found.take j) p).map aF]/\δ=[some (.d (.tuple (ps.map bA))),some (.d (.list (found.map aF))),some (.d (.str p.1)),some (.d (.int p.2.1)),some (.d (.int p.2.2)),some (.l 0),u]) ⟨_,rfl,rfl⟩ ?_ ?_
  ·rintro j d _ _ N' hj ⟨u,rfl,rfl⟩ aa;obtain⟨a,ha,rfl⟩:=pP hj;have ab:=gZ ha;have al:=fl a (bq ha);have ej:ext (found.take (j+1)) p=ext (found.take j) p++(eF p).map fun x=>a++[x]:=by
    rw[ab];unfold ext;rw[List.flatMap_append];simp
   have lj:(ext (found.take (j+1)) p).length<=(ext found p).length:=by
    rw[pO,pO,jh];exact Nat.mul_le_mul_right _ yw
   have pl:(p.2.2-p.2.1+1).toNat<=1000:=by
    have:=oP p;rw[ej,cq,dj]at lj;omega
   rw[aF];walk_at "d";refine cmp1 (S0:=[(ext (found.take j) p).map aF]) (fun k:Nat=>aF (a++[p.2.1+(0+(k:Int))])) rfl (fu (p.2.2-p.2.1+1).toNat) (by simpa using pl) ?_ ?_
   ·intro k mk u acc R' hk;walk_at "d";refine⟨yw,?_⟩;rw[Cp];exact hk _
   ·walk_at "d";have er:(fu (p.2.2-p.2.1+1).toNat).map (fun k:Nat=>aF (a++[p.2.1+(0+(k:Int))]))=((eF p).map fun x=>a++[x]).map aF:=by
     unfold eF rng;rw[pd,pd];simp[Function.comp_def]
    rw[er];refine⟨by rw[ej,cq]at lj;simp only[dj,List.length_range]at lj ⊢;rw[oP]at lj;omega,aa _ _ ⟨_,by rw[ej,gn],rfl⟩⟩
  ·rintro _ _ ⟨u,rfl,rfl⟩;rw[dj,take_length];walk_at "d";exact z _ _ _ _ _
 ·rintro _ _ ⟨u1,u2,u3,u4,u5,rfl,rfl⟩;rw[dj,take_length,yL];walk_at "d";exact q
end
section
variable {R:RX}{S:Sto}
structure Wds(ws:List Int):Prop where
 l1:1<=ws.length
 l8:ws.length<=8
 pos:∀x∈ws,1<=x
 le:∀x∈ws,x<=300
 prod:aO (ws.map Int.toNat)<=300
theorem prod3:∀{ws:List Int},(∀x∈ws,1<=x/\x<=3)->aO (ws.map Int.toNat)<=3 ^ ws.length
 | [],_=>by simp[aO]
 |x::ws,h=>by
  have h1:=h x dh;have h2:=prod3 fun y m=>h y (cr _ m);rw[lh,aO,fj,Nat.pow_succ,Nat.mul_comm];exact Nat.mul_le_mul h2 yw
theorem wds3{ws:List Int}(l1:1<=ws.length)(l4:ws.length<=4)(h:∀x∈ws,1<=x/\x<=3):Wds ws:=by
 refine⟨l1,yw,fun x m=>(h x m).1,fun x m=>by have:=(h x m).2;omega,gq (prod3 h) ?_⟩;have:ws.length=1\/ws.length=2\/ws.length=3\/ws.length=4:=yw
 rcases this with e|e|e|e<;>rw[e]<;>decide
end
section
variable {R:RX}
theorem BM{ps:List Part}{i:Nat}{p:Part}(e:ps[i]?=some p):aI (ps.take (i+1))=aI (ps.take i)*(p.2.2-p.2.1+1).toNat:=by
 unfold aI;rw[gZ e,gn,rY];simp[aO]
end
section
variable {R:RX}{S:Sto}
theorem fV(ps:List Part):aK ps=.tuple (ps.map bA):=rfl
theorem BZ{g:Gap}{ns:List Int}(h3:Tm3 ns.length g.ts)(q:R (.d (.bool (dQ g ns))) []):nN [.d (fB g),.d (aF ns)] [] R:=by
 unfold nN aF;rw[Ez,pJ];walk_at "d"
 walk_at "n"
 refine cmp2 (S0:=[]) (fun t:Term=>.int (t.2*ns.getD t.1 0)) rfl g.ts (by have:=h3.len;omega) ?_ ?_
 ·intro t mt u v acc R' hk;obtain⟨t1,t2,t3⟩:=h3.ok t mt;have e:=dP (f:=df) (nX t1);rw[EH];walk_at "d";refine⟨_,e,?_⟩;walk_at "d";exact⟨eC yw yw,hk _ _⟩
 ·walk_at "d";refine⟨g.ts.map fun t:Term=>t.2*ns.getD t.1 0,by rw[pd];rfl,?_⟩;have e0:dQ g ns=decide (g.lo<=worth g.ts ns/\worth g.ts ns<=g.hi):=rfl;have e1:(g.ts.map fun t:Term=>t.2*ns.getD t.1 0).sum=worth g.ts ns:=rfl;rw[e1];rw[e0]at q;split
  ·rename_i h1;simpa[h1]using q
  ·rename_i h1;simpa[h1]using q
def unI:bo->Int
 | .int k=>k
 |_=>0
def pB(c:List Nat)(k:Nat):Bool:=match c.getLast? with
 |none=>true
 |some x=>decide (x<k)
end
section
variable {R:RX}{S:Sto}
inductive IsPl (ps:List Part):List Nat->Nat->bo->Prop
 |leaf {ms n}{w:Str} (h:w = "breaks"\/w = "keeps"):IsPl ps ms n (.tuple [.str w])
 |node {ms n} (k:Nat) (l:List bo) (hk:k<ps.length) (hm:k∉ms) (hl:(l.length:Int)=phi ps k-plo ps k+1) (h:∀d∈l,IsPl ps (ms++[k]) n d):IsPl ps ms (n+1) (.tuple [.str "measure",.int k,.tuple l])
def Agr(ps:List Part)(ms:List Nat)(l:List (List Int)):Prop:=∃b,InBox ps b/\∀a,a∈l↔InBox ps a/\∀k∈ms,a.getD k 0=b.getD k 0
def nlD(ms:List Nat):bo:=.list (ms.map fun k:Nat=>.int k)
theorem pA{ps:List Part}(ho:Ord ps){k:Nat}(hk:k<ps.length):(phi ps k-plo ps k+1).toNat<=aI ps:=by
 have h1:=sC ho (k+1);rw[BM (gF hk)]at h1;have h2:=m7 (ps:=ps.take k) fun p m=>ho p (mq m);refine gq ?_ h1;exact Nat.le_mul_of_pos_left _ h2
theorem Agr.rest{ps:List Part}{ms:List Nat}{l:List (List Int)}{k:Nat}{x:Int}(h:Agr ps ms l)(hk:k<ps.length)(hm:k∉ms)(h1:plo ps k<=x)(h2:x<=phi ps k):Agr ps (ms++[k]) (l.filter fun a=>decide (a.getD k 0=x)):=by
 obtain⟨b,hb,q⟩:=h;have hl:=hb.len;have e1:(b.set k x).getD k 0=x:=by rw[fb,jr yw];rfl
 have e2:∀j,j≠k->(b.set k x).getD j 0=b.getD j 0:=fun j hj=>by rw[fb,mn (fun z=>hj z.symm),<- fb]
 refine⟨b.set k x,⟨by rw[length_set];exact hl,fun j hj=>?_⟩,fun a=>?_⟩
 ·by_cases z:j=k
  ·rw[z,e1];exact⟨h1,h2⟩
  ·rw[e2 j z];exact hb.ok j hj
 ·rw[mem_filter,q a];constructor
  ·rintro⟨⟨i1,i2⟩,i3⟩;refine⟨i1,fun j mj=>?_⟩;rcases mem_append.mp mj with mj|mj
   ·rw[e2 j (fun z=>hm (z▸mj))];exact i2 j mj
   ·rw[mem_singleton.mp mj,e1];exact of_decide_eq_true i3
  ·rintro⟨i1,i2⟩;refine⟨⟨i1,fun j mj=>?_⟩,decide_eq_true ?_⟩
   ·rw[i2 j (gw _ mj),e2 j (fun z=>hm (z▸mj))]
   ·rw[i2 k (fh _ (mem_singleton.mpr rfl)),e1]
theorem xA{ps:List Part}{g:Gap}(hd:Drw ps)(hz:aI ps<=300)(hg:Tm3 ps.length g.ts):∀{n:Nat}{p:List bo}{ms:List Nat}{l:List (List Int)}{m:Int}{R:RX},aE p->(ms.length:Int)+m<=100->(∀k∈ms,k<ps.length)->Agr ps ms l->l.length<=300->0<=m->m<n ->
  (∀d p',IsPl ps ms m.toNat d->aE p'->R (.d d) [p'])->zJ n [.l 0,.d (aK ps),.d (fB g),.d (nlD ms),.d (.list (l.map aF)),.d (.int m)] [p] R
 | 0,p,ms,l,m,R,_,_,_,_,_,h0,h,_=>by omega
 |n+1,p,ms,l,m,R,hp,hm8,hms,hag,hl,h0,h,q=>by
  have h8:=hd.l8;obtain⟨b,hb,ac⟩:=hag;rw[zJ];walk_at "d"
  walk_at "n"
  refine cmp1 (S0:=[p]) (fun a:List Int=>.bool (dQ g a)) rfl l yw ?_ ?_
  ·intro a ma u acc R' hk;have:=((ac a).mp ma).1.len;walk_at "d";refine BZ (by rw[this];exact hg) ?_;walk_at "d";exact hk _
  walk_at "d";refine⟨l.map fun a=>dQ g a,by rw[pd];rfl,?_⟩;have am:bV (l.map fun a=>dQ g a)≠[]:=by
   have af:dQ g b∈l.map fun a=>dQ g a:=mem_map.mpr ⟨b,(ac b).mpr ⟨hb,fun _ _=>rfl⟩,rfl⟩;intro e;unfold bV at e;cases hk:dQ g b<;>rw[hk]at af<;>simp[af]at e
  have wl:=uD (l.map fun a=>dQ g a);generalize bV (l.map fun a=>dQ g a)=ws at am wl ⊢
  walk_at "n"
  refine⟨ps.length,by unfold aK;walk_at "d",?_⟩;have aj:dy (nlD ms)=true:=(mP (n:=0) (mZ fun _ _=>iH)).ok;have ak:∀k:Nat,((ms.map fun k:Nat=>df k).any fun y=>gm y (.int k))=decide (k∈ms):=fun k=>by
   rw[List.any_map];by_cases hk:k∈ms
   ·rw[decide_eq_true hk,List.any_eq_true];exact⟨k,hk,by simp[e8]⟩
   ·rw[gi hk,List.any_eq_false];intro j mj e;have:(j:Int)=k:=by simpa[e8]using e
    exact hk ((Int.ofNat_inj.mp this)▸mj)
  unfold nlD at aj ⊢;refine cmf1 (S0:=[p]) (h:=fun k:Nat=>.int (0+k)) (fun k:Nat=>.int k) (fun k=>!decide (k∈ms)) rfl (fu ps.length) (by simp;omega) ?_ ?_
  ·intro k mk u acc R' hk;walk_at "d";rw[Int.zero_add];refine⟨aj,?_⟩;rw[ak];exact hk _ fun _ T hT=>by walk_at "d";exact hT
  walk_at "d";have ai:∀k∈(fu ps.length).filter (fun k=>!decide (k∈ms)),k<ps.length/\k∉ms:=fun k m=>⟨mem_range.mp (mem_filter.mp m).1,by simpa using (mem_filter.mp m).2⟩;have ao:((fu ps.length).filter (fun k=>!decide (k∈ms))).length<=8:=gq (List.length_filter_le _ _) (by simp;omega);generalize (fu ps.length).filter (fun k=>!decide (k∈ms))=lf at ai ao ⊢;have an:dy (.list (lf.map fun k:Nat=>df k))=true:=(mP (n:=0) (mZ fun _ _=>iH)).ok;have z:∀p2,aE p2->zk [.l 0,.d (.int ws.length)] [p2] (jQ 0 [p2] fun y S2=>dIx (.d (.list (ws.map kc))) y S2 fun x S1=>n6 x fun i=>∃d,atI [.str "breaks",.str "keeps"] i=some d/\R (.d (.tuple [d])) (List.take 1 S1)):=by
   intro p2 aa;have w1:1<=ws.length:=by
    cases ws with
    |nil=>exact absurd rfl am
    |cons a b=>simp
   refine zo aa yw (hE yw yw) fun r p3 r0 r1 ab=>?_;obtain⟨d,ed,i,rfl⟩:=fU (P:=fun d=>∃i:Bool,d=.bool i) (ds:=ws.map kc) r0 (by simpa using r1) (fun d m=>by
    obtain⟨k,_,rfl⟩:=mem_map.mp m;exact⟨_,rfl⟩)
   walk_at "d";refine⟨_,ed,?_⟩;cases i
   ·walk_at "d";exact q _ p3 (.leaf (.inl rfl)) ab
   ·walk_at "d";exact q _ p3 (.leaf (.inr rfl)) ab
  refine cut (fun δ S=>∃(p:List bo),aE p/\lf≠[]/\0<m/\S=[p]/\δ=[some (.l 0),some (.d (aK ps)),some (.d (fB g)),some (.d (nlD ms)),some (.d (.list (l.map aF))),some (.d (.int m)),some (.d (.list (ws.map kc))),some (.d (.list (lf.map fun k:Nat=>.int k))),none,none,none,none,none,none,none]) (fun N hN=>?_) ?_
  ·walk_at "d";refine⟨an,rfl,?_⟩;rw[A0];by_cases ha:lf=[]
   ·rw[cf (by simp[ha])];exact z p hp
   ·rw[cb (by simp[ha])];split
    ·exact z p hp
    ·split
     ·refine zo hp yw (hE yw yw) fun r p2 r0 r1 aa=>?_;walk_at "d";split
      ·exact z p2 aa
      ·exact hN _ _ ⟨p2,aa,ha,yw,rfl,rfl⟩
     ·exact hN _ _ ⟨p,hp,ha,yw,rfl,rfl⟩
  rintro _ _ ⟨p,hp,ha,hm,rfl,rfl⟩;walk_at "d"
  walk_at "n"
  have l1:1<=lf.length:=by
   cases lf with
   |nil=>exact absurd rfl ha
   |cons a b=>simp
  refine zo hp yw (hE yw yw) fun r p2 r0 r1 aa=>?_;obtain⟨d,ed,k,mk,rfl⟩:=fU (P:=fun d=>∃k:Nat,k∈lf/\d=.int k) (ds:=lf.map fun k:Nat=>.int k) r0 (by simpa using r1) (fun d m=>by
   obtain⟨k,mk,rfl⟩:=mem_map.mp m;exact⟨_,mk,rfl⟩)
  obtain⟨hk,ah⟩:=ai k mk;have ep:=dP (f:=bA) (gF hk);rw[fV];walk_at "d";refine⟨_,ed,?_⟩;walk_at "d"
  walk_at "n"
  refine⟨_,ep,?_⟩;rw[m9];walk_at "d"
  walk_at "n"
  walk_at "n";have e1:(part ps k).2.1=plo ps k:=rfl;have e2:(part ps k).2.2=phi ps k:=rfl;rw[e1,e2];have hw:=pA hd.ord hk;have ho:=hd.ord.at hk;refine dF (fun i δ S=>∃(p:List bo) (qs:List bo) (u1 u2:Option XV),aE p/\qs.length=i/\(∀d∈qs,IsPl ps (ms++[k]) (m-1).toNat d)/\S=[p,qs]/\δ=[some (.l 0),some (.d (.tuple (ps.map bA))),some (.d (fB g)),some (.d (nlD ms)),some (.d (.list (l.map aF))),some (.d (.int m)),some (.d (.list (ws.map kc))),some (.d (.list (lf.map fun k:Nat=>.int k))),some (.d (.int k)),some (.d (.str (part ps k).1)),some (.d (.int (plo ps k))),some (.d (.int (phi ps k))),some (.l 1),u1,u2]) ⟨p2,[],none,none,aa,rfl,yv,rfl,rfl⟩ ?_ ?_
  ·rintro i d _ _ N hi ⟨p3,qs,u1,u2,ab,ql,ae,rfl,rfl⟩ hN;obtain⟨au,rfl⟩:=iO hi;rw[Int.zero_add];walk_at "d"
   walk_at "n"
   refine cmf1 (S0:=[p3,qs]) (fun a:List Int=>aF a) (fun a=>decide (a.getD k 0=plo ps k+i)) rfl l yw ?_ ?_
   ·intro a ma u acc R' aq;have al:=((ac a).mp ma).1.len;have ea:=dP (f:=df) (nX (ns:=a) (k:=k) yw);unfold aF;walk_at "d";refine⟨_,ea,?_⟩;walk_at "d";exact aq _ fun _ T hT=>by walk_at "d";exact hT
   walk_at "d";have ap:PyData.list (ms.map (fun k:Nat=>df k)++[.int k])=nlD (ms++[k]):=by unfold nlD;rw[gn];rfl
   have en:nlD ms=.list (ms.map fun k:Nat=>.int k):=rfl;rw[en];walk_at "d";refine⟨yw,?_⟩;rw[ap];have ag:=Agr.rest (x:=plo ps k+i) ⟨b,hb,ac⟩ hk ah yw yw;refine xA hd hz hg (n:=n) ab (by rw[cq,fr];omega) (fun j mj=>?_) ag (gq (List.length_filter_le _ _) hl) yw yw fun d p4 as ar=>?_
   ·rcases mem_append.mp mj with mj|mj
    ·exact hms j mj
    ·rw[mem_singleton.mp mj];exact hk
   ·walk_at "d";refine⟨yw,hN _ _ ⟨p4,qs++[d],_,_,ar,by rw[cq,ql];rfl,fun x mx=>?_,rfl,rfl⟩⟩;rcases mem_append.mp mx with mx|mx
    ·exact ae x mx
    ·rw[mem_singleton.mp mx];exact as
  ·rintro _ _ ⟨p3,qs,u1,u2,ab,ql,ae,rfl,rfl⟩;rw[gA]at ql;walk_at "d";have em:m.toNat=(m-1).toNat+1:=yw
   refine q _ p3 ?_ ab;rw[em];exact .node k qs hk ah yw ae
theorem CH{ps:List Part}{g:Gap}(hd:Drw ps)(hz:aI ps<=300)(hg:Tm3 ps.length g.ts){p:List bo}{m:Int}(hp:aE p)(h0:0<=m)(h5:m<=5)(q:∀d p',IsPl ps [] m.toNat d->aE p'->R (.d d) [p']):
  pL [.l 0,.d (aK ps),.d (fB g),.d (.list []),.d (.list ((bP ps).map aF)),.d (.int m)] [p] R:=by
 have hs:=p9 ps;have ne:bP ps≠[]:=fun e=>by
  have:=m7 hd.ord;rw[e]at hs;simp at hs;omega
 obtain⟨b,mb⟩:=List.exists_mem_of_ne_nil _ ne;exact xA hd hz hg hp (by simp;omega) yv ⟨b,iF.mp mb,fun a=>by rw[iF];simp⟩ yw h0 yw q
inductive Led (lo:Nat->Int) (one:List Int):bo->List Nat->Str->Prop
 |leaf {w:Str} (h:w = "breaks"\/w = "keeps"):Led lo one (.tuple [.str w]) [] w
 |node {k i:Nat}{l:List bo}{d:bo}{js:List Nat}{w:Str} (hk:k<one.length) (hi:one.getD k 0=lo k+i) (hd:l[i]?=some d) (h:Led lo one d js w):Led lo one (.tuple [.str "measure",.int k,.tuple l]) (k::js) w
theorem IsPl.led{ps:List Part}{q:List Int}(hb:InBox ps q):∀{n:Nat}{ms:List Nat}{d:bo},IsPl ps ms n d->∃js w,Led (plo ps) q d js w/\js.length<=n/\∀j∈js,j<ps.length:=by
 intro n ms d h;induction h with
 |leaf h=>exact⟨[],_,.leaf h,jo _,yv⟩
 | @node ms n k l hk hm hl h ih=>
  obtain⟨b1,b2⟩:=hb.ok k hk;have hi:(q.getD k 0-plo ps k).toNat<l.length:=yw
  obtain⟨js,w,h1,h2,h3⟩:=ih _ (ls hi);refine⟨k::js,w,.node (i:=(q.getD k 0-plo ps k).toNat) (by rw[hb.len];exact hk) yw (cp hi) h1,by simp;omega,fun j mj=>?_⟩;rcases mem_cons.mp mj with rfl|mj
  ·exact hk
  ·exact h3 j mj
theorem Cf{ps:List Part}{aa:List Int}{d:bo}{js:List Nat}{w:Str}(hL:Led (plo ps) aa d js w)(hj:∀j∈js,j<ps.length)(hl:js.length<=100)(q:R (.d (.tuple [nlD js,.str w])) []):nT [.d d,.d (aK ps),.d (aF aa)] [] R:=by
 unfold nT;walk_at "d";walk_at "n";walk_at "n";refine⟨fun m δ S=>∃(d:bo) (j0 j1:List Nat),Led (plo ps) aa d j1 w/\j0++j1=js/\m=j1.length/\S=[j0.map fun k:Nat=>.int k]/\δ=[some (.d d),some (.d (aK ps)),some (.d (aF aa)),some (.l 0)],⟨_,d,[],js,hL,rfl,rfl,rfl,rfl⟩,?_⟩;rintro m _ _ ⟨d,j0,j1,h1,h2,rfl,rfl,rfl⟩;cases h1 with
 |leaf h=>
  walk_at "d";rw[jb]at h2;rw[h2];exact q
 | @node k i l d js' _ hk hi hd h=>
  walk_at "d";have kp:=hj k (by rw[<- h2];simp);have lj:j0.length+(js'.length+1)=js.length:=by rw[<- h2,cq,fj]
  have ep:=dP (f:=bA) (gF kp);have eo:=dP (f:=df) (nX (ns:=aa) (k:=k) hk);refine⟨fun δ' S'=>∃m',m'<js'.length+1/\∃(d:bo) (j0 j1:List Nat),Led (plo ps) aa d j1 w/\j0++j1=js/\m'=j1.length/\S'=[j0.map fun k:Nat=>.int k]/\δ'=[some (.d d),some (.d (aK ps)),some (.d (aF aa)),some (.l 0)],fun _ _ z=>z,?_⟩;rw[fV,aF];walk_at "n";refine⟨yw,?_⟩;refine⟨_,eo,_,ep,?_⟩;rw[m9];walk_at "d";have e1:(part ps k).2.1=plo ps k:=rfl;have ei:aa.getD k 0-(part ps k).2.1=i:=by rw[e1];omega
  rw[ei];exact⟨d,dW hd,js'.length,yw,d,j0++[k],js',h,by rw[<- h2];simp,rfl,by rw[gn];rfl,rfl⟩
theorem cmp1p{n:Nat}{S0:Sto}{g:DG}{te:DE}{fin:Sto->Prop}{caps:XE}(f:bo->bo)(hn:S0.length=n)(l:List bo){u:Option XV}(hl:l.length<=1000)
  (el:∀x∈l,∀(u:Option XV) acc (R:XE->RX),(∀u',R (u'::caps) (.d (f x)) (S0++[acc]))->g (.d x) (u::caps) (S0++[acc]) fun τ1 S1=>te τ1 S1 (R τ1)) (hf:fin (S0++[l.map f])):aN n g aG te fin l (u::caps) (S0++[[]]):=by
 have:=cmp1 (h:=fun d:bo=>d) (g:=g) (te:=te) (fin:=fin) (caps:=caps) (u:=u) f hn l hl el hf
 rwa [List.map_id']at this
def mxN(l:List Nat):Nat:=l.foldl max 0
theorem rO:∀(l:List Nat) (a:Nat),a<=l.foldl max a/\(∀x∈l,x<=l.foldl max a)/\(l.foldl max a=a\/l.foldl max a∈l)
 | [],a=>⟨cv _,yv,.inl rfl⟩
 |x::l,a=>by
  obtain⟨h1,h2,h3⟩:=rO l (max a x);refine⟨by rw[nk];omega,fun y my=>?_,?_⟩
  ·rw[nk];rcases mem_cons.mp my with rfl|my
   ·omega
   ·exact h2 y my
  ·rw[nk];rcases h3 with h3|h3
   ·rw[h3];by_cases z:a<=x
    ·exact .inr (by rw[Nat.max_eq_right z];exact dh)
    ·exact .inl yw
   ·exact .inr (cr _ h3)
theorem uK{l:List Nat}{m:Int}(h1:∃x∈l,m=(x:Nat))(h2:∀a∈l,((a:Nat):Int)<=m):m=(mxN l:Nat):=by
 obtain⟨x,mx,rfl⟩:=h1;obtain⟨_,g2,g3⟩:=rO l 0;have a1:=g2 x mx;unfold mxN;rcases g3 with g3|g3
 ·omega
 ·have:=h2 _ g3;omega
def dpF:Nat->bo->Nat
 |n+1,.tuple [_,_,.tuple l]=>1+mxN (l.map (dpF n))
 |_,_=>0
theorem yY{ps:List Part}(ho:Ord ps)(hw:∀k,k<ps.length->(phi ps k-plo ps k+1)<=300):∀{f n:Nat}{ms:List Nat}{d:bo}{R:RX},IsPl ps ms n d->n<f->R (.d (.int (dpF n d))) []->zK f [.d d] [] R
 | 0,n,ms,d,R,_,h,_=>by omega
 |f+1,n,ms,d,R,hp,h,q=>by
  rw[zK];cases hp with
  | @leaf _ _ w hw=>
   walk_at "n";have e:dpF n (.tuple [.str w])=0:=by cases n<;>rfl
   rw[e]at q;exact q
  | @node _ n k l hk hm hl hc=>
   have:=ho.at hk;have:=hw k hk;walk_at "n";refine cmp1p (S0:=[]) (fun d=>.int (dpF n d)) rfl l yw ?_ ?_
   ·intro d md u acc R' z;walk_at "d";refine yY ho hw (hc d md) yw ?_;walk_at "d";exact z _
   ·walk_at "d";refine⟨_,rfl,l.map fun d=>((dpF n d:Nat):Int),by rw[pd];rfl,?_,fun m m1 m2=>?_⟩
    ·intro e;have:=congrArg List.length e;rw[dj,length_nil]at this;omega
    ·walk_at "d";have em:m=(mxN (l.map (dpF n)):Nat):=by
      refine uK (l:=l.map (dpF n)) ?_ fun a ma=>?_
      ·obtain⟨d,md,rfl⟩:=mem_map.mp m1;exact⟨_,mem_map.mpr ⟨d,md,rfl⟩,rfl⟩
      ·obtain⟨d,md,rfl⟩:=mem_map.mp ma;exact m2 _ (mem_map.mpr ⟨d,md,rfl⟩)
     have e2:((dpF (n+1) (.tuple [.str "measure",.int k,.tuple l]):Nat):Int)=1+m:=by rw[em];exact Int.natCast_add _ _
     rw[e2]at q;exact q
theorem tH:∀{xs ys:List bo},(∀x∈xs,∀y∈ys,gm x y=true->x=y)->kz xs ys=true->xs=ys
 | [],[],_,_=>rfl
 | [],_::_,_,h=>by simp[kz]at h
 |_::_,[],_,h=>by simp[kz]at h
 |x::xs,y::ys,f,h=>by
  simp only[kz,iy]at h;rw[f x dh y dh h.1,tH (fun a ma b mb=>f a (cr _ ma) b (cr _ mb)) h.2]
theorem IsPl.eqv{ps:List Part}:∀{n ms x},IsPl ps ms n x->∀{n' q y},IsPl ps q n' y->gm x y=true->x=y:=by
 intro n ms x h;induction h with
 | @leaf _ _ w _=>
  intro n' q y hy e;cases hy with
  | @leaf _ _ v _=>
   simp only[gm,kz,Bool.and_true]at e;rw[eq_of_beq e]
  |node k l=>simp[gm,kz]at e
 | @node _ n k l _ _ _ _ ih=>
  intro n' q y hy e;cases hy with
  |leaf=>simp[gm,kz]at e
  | @node _ _ k' l' _ _ _ h'=>
   simp only[gm,kz,Bool.and_true,iy]at e;obtain⟨_,e1,e2⟩:=e;have ek:(k:Int)=k':=by simpa using e1
   rw[ek,tH (fun x mx y my z=>ih x mx (h' y my) z) e2]
theorem rX{n:Nat}{z:Str}(h:PyData.strOk z=true):Shp n (.str z):=⟨h,jo _⟩
theorem IsPl.shp{ps:List Part}{n:Nat}{ms:List Nat}{d:bo}(h:IsPl ps ms n d):Shp (2*n+1) d:=by
 induction h with
 |leaf h=>
  refine mT fun d md=>?_;rw[mem_singleton.mp md];rcases h with rfl|rfl<;>exact rX (by decide +kernel)
 | @node _ n k l _ _ _ _ ih=>
  refine mT fun d md=>?_;simp only[ji,ie,or_false]at md;rcases md with rfl|rfl|rfl
  ·exact rX (by decide +kernel)
  ·exact iH
  ·exact mT (n:=2*n+1) ih
theorem Af{ps:List Part}{ms:List Nat}{n:Nat}{l:List bo}(hl:l.length<=300)(hn:n<=8)(h:∀d∈l,IsPl ps ms n d)(q:∀us:List bo,(∀x,x∈us↔x∈l)->us.length<=l.length->R (.d (.list us)) []):oH [.d (.tuple l)] [] R:=by
 unfold oH;walk_at "d"
 walk_at "n"
 walk_at "n";refine dF (fun i δ S=>∃(us:List bo) (u:Option XV),(∀x,x∈us↔x∈l.take i)/\us.length<=i/\S=[us]/\δ=[some (.d (.tuple l)),some (.l 0),u]) ⟨[],_,yv,cv _,rfl,rfl⟩ ?_ ?_
 ·rintro i d _ _ N hi ⟨us,u,hu,ab,rfl,rfl⟩ hN;have md:=bq hi;have il:i<l.length:=(List.getElem?_eq_some_iff.mp hi).1;have hd:=h d md;have aa:∀x∈us,IsPl ps ms n x:=fun x mx=>h x (mq ((hu x).mp mx));have s1:dy d=true:=hd.shp.ok yw;have s2:dy (.list us)=true:=(mP fun x mx=>(aa x mx).shp).ok yw;walk_at "d";refine⟨s1,s2,?_⟩;by_cases z:d∈us
  ·rw[show (us.any fun y=>gm y d)=true from List.any_eq_true.mpr ⟨d,z,SeqAt.eqv_refl d hd.shp.1⟩];refine hN _ _ ⟨us,_,fun x=>?_,yw,rfl,rfl⟩;rw[gZ hi,lz,mem_singleton,<- hu x];exact⟨.inl,fun c=>c.elim id fun e=>e▸z⟩
  ·rw[show (us.any fun y=>gm y d)=false from List.any_eq_false.mpr fun y my e=>z ((aa y my).eqv hd e▸my)];refine⟨yw,hN _ _ ⟨us++[d],_,fun x=>?_,by simp;omega,rfl,rfl⟩⟩;rw[gZ hi,lz,lz,<- hu x]
 ·rintro _ _ ⟨us,u,hu,ab,rfl,rfl⟩;rw[take_length]at hu;walk_at "d";exact .inl (q us hu ab)
theorem sV:∀{l:List Nat},(∀x∈l,1<=x)->l.sum<=aO l+l.length
 | [],_=>by simp
 |x::l,h=>by
  have h1:=h x dh;have h2:=sV fun y m=>h y (cr x m);have h3:1<=aO l:=sE fun y m=>h y (cr x m);have h4:x+aO l<=x*aO l+1:=by
   obtain⟨a,rfl⟩:∃a,x=a+1:=⟨x-1,yw⟩;obtain⟨b,hb⟩:∃b,aO l=b+1:=⟨aO l-1,yw⟩;rw[hb,Nat.mul_add,add_mul];omega
  have h5:aO (x::l)=x*aO l:=rfl;rw[sum_cons,fj,h5];omega
theorem rE{f:Nat->Nat}:∀{n:Nat}{ms:List Nat},ms.Nodup->(∀j∈ms,j<n)->(ms.map f).sum<=((fu n).map f).sum
 | 0,[],_,_=>by simp
 | 0,j::ms,_,h=>by have:=h j dh;omega
 |n+1,ms,hd,h=>by
  rw[List.range_succ,gn,sum_append,kn,List.sum_singleton];by_cases z:n∈ms
  ·have p:=(List.perm_cons_erase z).map f;rw[p.sum_nat,lh,sum_cons];have:=rE (f:=f) (n:=n) (hd.erase n) fun j mj=>by
    have h1:=h j (List.mem_of_mem_erase mj);have h2:j≠n:=fun e=>((List.Nodup.mem_erase_iff hd).mp (e▸mj)).1 rfl;omega
   omega
  ·have:=rE (f:=f) (n:=n) hd fun j mj=>by
    have h1:=h j mj;have h2:j≠n:=fun e=>z (e▸mj);omega
   omega
def wdN(ps:List Part)(k:Nat):Nat:=(phi ps k-plo ps k+1).toNat
theorem FR{ps:List Part}(ho:Ord ps)(hz:aI ps<=300)(h8:ps.length<=8){ms:List Nat}(hd:ms.Nodup)(h:∀j∈ms,j<ps.length):(ms.map (wdN ps)).sum<=308:=by
 have h1:=rE (f:=wdN ps) hd h;have e:(fu ps.length).map (wdN ps)=ps.map fun p=>(p.2.2-p.2.1+1).toNat:=by
  refine List.ext_getElem? fun i=>?_;rw[gh,gh];by_cases hi:i<ps.length
  ·rw[List.getElem?_range hi,gF hi];rfl
  ·rw[List.getElem?_eq_none (by simpa using hi),List.getElem?_eq_none yw];rfl
 have h2:=sV (l:=ps.map fun p=>(p.2.2-p.2.1+1).toNat) fun x m=>by
  obtain⟨p,mp,rfl⟩:=mem_map.mp m;have:=ho p mp;omega
 rw[e]at h1;rw[dj]at h2;have h3:aO (ps.map fun p=>(p.2.2-p.2.1+1).toNat)=aI ps:=rfl;omega
structure En where
 n:Nat
 ms:List Nat
 d:bo
 k:Nat
def enD(e:En):bo:=.tuple [e.d,.int e.k]
structure EnOk(ps:List Part)(e:En):Prop where
 pl:IsPl ps e.ms e.n e.d
 n8:e.n<=8
 k8:e.k+e.n<=8
 nd:e.ms.Nodup
 lt:∀j∈e.ms,j<ps.length
def enV(e:En):Nat:=e.k+dpF e.n e.d
theorem A1{α:Type}{f:α->Nat}{b:Nat}:∀{l:List α},(∀x∈l,f x<=b)->(l.map f).sum<=l.length*b
 | [],_=>by simp
 |x::l,h=>by
  have h1:=h x dh;have h2:=A1 (l:=l) fun y m=>h y (cr x m);rw[lh,sum_cons,fj,add_mul];omega
theorem o8:∀(l:List Nat) (a:Nat),l.foldl max a=max a (l.foldl max 0)
 | [],a=>by simp
 |x::l,a=>by
  rw[nk,nk,o8 l (max a x),o8 l (max 0 x)];omega
theorem sL(a b:List Nat):mxN (a++b)=max (mxN a) (mxN b):=by
 unfold mxN;rw[List.foldl_append,o8]
theorem Dr(a:Nat):mxN [a]=a:=by simp[mxN]
theorem ER{f:bo->Nat}{c:Nat}{us l:List bo}(hu:∀x,x∈us↔x∈l)(hl:l≠[]):mxN (us.map fun x=>c+f x)=c+mxN (l.map f):=by
 obtain⟨_,g2,g3⟩:=rO (l.map f) 0;have e:∃x∈l,mxN (l.map f)=f x:=by
  rcases g3 with g3|g3
  ·obtain⟨x,mx⟩:=List.exists_mem_of_ne_nil _ hl;have:=g2 _ (mem_map.mpr ⟨x,mx,rfl⟩);exact⟨x,mx,by unfold mxN;omega⟩
  ·obtain⟨x,mx,ex⟩:=mem_map.mp g3;exact⟨x,mx,ex.symm⟩
 obtain⟨x,mx,ex⟩:=e;have:=uK (l:=us.map fun x=>c+f x) (m:=((c+mxN (l.map f):Nat):Int)) ⟨_,mem_map.mpr ⟨x,(hu x).mpr mx,rfl⟩,by rw[ex]⟩ fun a ma=>by
  obtain⟨y,my,rfl⟩:=mem_map.mp ma;have h:=g2 _ (mem_map.mpr ⟨y,(hu y).mp my,rfl⟩);have h':f y<=mxN (l.map f):=h;omega
 omega
theorem tN{ps:List Part}(ho:Ord ps)(hz:aI ps<=300)(h8:ps.length<=8){n:Nat}(hn:n<=8){d:bo}(hd:IsPl ps [] n d)(q:R (.d (.int (dpF n d))) []):jB [.d d] [] R:=by
 unfold jB;walk_at "d"
 walk_at "n"
 walk_at "n";walk_at "n";refine⟨fun m δ S=>∃(st:List En) (aa:Nat) (u:Option XV),(∀e∈st,EnOk ps e)/\(∀(p:Nat) e,st[p]?=some e->p<=(e.ms.map (wdN ps)).sum)/\max aa (mxN (st.map enV))=dpF n d/\m=(st.map fun e=>301 ^ e.n).sum/\S=[st.map enD]/\δ=[some (.d d),some (.d (.int aa)),some (.l 0),u],⟨_,[⟨n,[],d,0⟩],0,none,?_,?_,?_,rfl,rfl,rfl⟩,?_⟩
 ·intro e me;rw[mem_singleton.mp me];exact⟨hd,hn,by simpa using hn,yv,yv⟩
 ·intro p e hp;have:p<1:=(List.getElem?_eq_some_iff.mp hp).1;omega
 ·simp[enV,mxN]
 rintro m _ _ ⟨st,aa,u,h1,h2,h3,rfl,rfl,rfl⟩;rcases List.eq_nil_or_concat st with rfl|⟨st,e,rfl⟩
 ·walk_at "d";have e0:aa=dpF n d:=by rw[<- h3];simp[mxN]
  rw[e0];exact q
 ·rw[List.concat_eq_append]at h1 h2 h3 ⊢;rw[gn,kn];walk_at "d";rw[cf yv];have he:=h1 e yv;have pe:=h2 st.length e yv;have hw:=FR ho hz h8 he.nd he.lt;have key:∀(ac:List En) (ab:Nat),(∀x∈ac,EnOk ps x/\(e.ms.map (wdN ps)).sum+ac.length<=(x.ms.map (wdN ps)).sum/\x.n+1=e.n)->ac.length<=300->max ab (mxN (ac.map enV))=max aa (enV e)->aa<=ab ->
    ∃m',m'<((st++[e]).map fun e=>301 ^ e.n).sum/\∃(st':List En) (best2:Nat),(∀e∈st',EnOk ps e)/\(∀(p:Nat) e,st'[p]?=some e->p<=(e.ms.map (wdN ps)).sum)/\max best2 (mxN (st'.map enV))=dpF n d/\m'=(st'.map fun e=>301 ^ e.n).sum/\(st++ac).map enD=st'.map enD/\ab=best2:=by
   intro ac ab af hl aj hb;refine⟨_,?_,st++ac,ab,fun x mx=>?_,fun p x hp=>?_,?_,rfl,rfl,rfl⟩
   ·rw[gn,gn,sum_append,sum_append,kn,List.sum_singleton];have a1:(ac.map fun x=>301 ^ x.n).sum<=ac.length*301 ^ (e.n-1):=A1 fun x mx=>by
     have:=(af x mx).2.2;rw[show x.n=e.n-1 by omega];exact cv _
    have a2:0<301 ^ (e.n-1):=Nat.pow_pos dz;have a3:ac.length*301 ^ (e.n-1)<=300*301 ^ (e.n-1):=Nat.mul_le_mul_right _ hl;by_cases z:ac=[]
    ·subst z;have:0<301 ^ e.n:=Nat.pow_pos dz;simp;omega
    ·obtain⟨x,mx⟩:=List.exists_mem_of_ne_nil _ z;have:=(af x mx).2.2;have a4:301 ^ e.n=301*301 ^ (e.n-1):=by rw[<- Nat.pow_succ'];congr 1;omega
     omega
   ·rcases mem_append.mp mx with mx|mx
    ·exact h1 x (by simp[mx])
    ·exact(af x mx).1
   ·by_cases z:p<st.length
    ·refine h2 p x ?_;rw[cx z]at hp ⊢;exact hp
    ·have lp:=(List.getElem?_eq_some_iff.mp hp).1;rw[cq]at lp;rw[kq yw]at hp;have:=(af x (bq hp)).2.1;omega
   ·rw[<- h3,gn,gn,sL,sL,kn,Dr];omega
  refine⟨fun δ' S'=>∃m',m'<((st++[e]).map fun e=>301 ^ e.n).sum/\∃(st':List En) (best2:Nat) (u2:Option XV),(∀e∈st',EnOk ps e)/\(∀(p:Nat) e,st'[p]?=some e->p<=(e.ms.map (wdN ps)).sum)/\max best2 (mxN (st'.map enV))=dpF n d/\m'=(st'.map fun e=>301 ^ e.n).sum/\S'=[st'.map enD]/\δ'=[some (.d d),some (.d (.int best2)),some (.l 0),u2],?_,?_⟩
  ·intro δ' S' z;exact z
  have eg:(st.map enD++[enD e])[st.length+1-1]?=some (enD e):=by simp
  walk_at "n"
  refine⟨_,eg,?_⟩;obtain⟨en,ae,ed,ek⟩:=e;have ag:IsPl ps ae en ed:=he.pl;have ee:enD ⟨en,ae,ed,ek⟩=.tuple [ed,.int ek]:=rfl;rw[ee];refine seq1 ?_;cases ag with
  | @leaf _ _ w h=>
   walk_at "d";have hn:dy (.str w)=true/\(ki w).eqv (.str "measure")=false:=by rcases h with rfl|rfl<;>exact⟨by decide +kernel,by decide +kernel⟩
   refine⟨hn.1,by decide +kernel,?_⟩;rw[cb (by rw[hn.2];exact ge)];have e0:dpF en (.tuple [.str w])=0:=by cases en<;>rfl
   obtain⟨m',a,st',b2,c1,c2,c3,c4,c5,c6⟩:=key [] (max aa ek) yv yv (by simp[enV,e0,mxN]) yw;refine⟨m',a,st',b2,_,c1,c2,c3,c4,?_,?_,rfl⟩
   ·rw[List.dropLast_concat,<- c5,jb]
   ·rw[<- c6];split<;>omega
  | @node _ n' k l hk hm hl hc=>
   have w1:=pA ho hk;have w2:=ho.at hk;walk_at "d";refine⟨by decide +kernel,by decide +kernel,?_⟩;rw[cf (by decide +kernel)];have n8:=he.n8;refine Af (ps:=ps) (ms:=ae++[k]) (n:=n') yw (by simpa using Nat.le_of_succ_le n8) hc fun us hu ai=>?_;walk_at "d";rw[List.dropLast_concat];refine cmp1p (S0:=[st.map enD]) (fun x=>.tuple [x,.int (ek+1)]) rfl us yw ?_ ?_
   ·intro x mx u acc R' ah;walk_at "d";exact ah _
   ·walk_at "d";have kk:=he.k8;have lw:(((ae++[k]).map (wdN ps)).sum)=(ae.map (wdN ps)).sum+wdN ps k:=by rw[gn,sum_append,kn,List.sum_singleton]
    have lk:l.length<=wdN ps k:=by unfold wdN;omega
    have sl:st.length<=308:=gq pe hw;obtain⟨m',a,st',b2,c1,c2,c3,c4,c5,c6⟩:=key (us.map fun x=>⟨n',ae++[k],x,ek+1⟩) (max aa ek) (fun x mx=>by
     obtain⟨y,my,rfl⟩:=mem_map.mp mx;refine⟨⟨hc y ((hu y).mp my),?_,?_,?_,fun j mj=>?_⟩,?_,rfl⟩
     ·show n'<=8;simp at n8;omega
     ·show ek+1+n'<=8;simp at kk;omega
     ·rw[nodup_append];exact⟨he.nd,yv,fun a ma b mb e=>by rw[mem_singleton.mp mb]at e;rw[e]at ma;exact hm ma⟩
     ·rcases mem_append.mp mj with mj|mj
      ·exact he.lt j mj
      ·rw[mem_singleton.mp mj];exact hk
     ·show (ae.map (wdN ps)).sum+(us.map _).length<=((ae++[k]).map (wdN ps)).sum;rw[lw,dj];omega) (by rw[dj];omega) (by
     have ln:l≠[]:=fun e=>by rw[e]at hl;simp at hl;omega
     have em:=ER (f:=dpF n') (c:=ek+1) hu ln;rw[pd];have e1:enV ⟨n'+1,ae,.tuple [.str "measure",.int k,.tuple l],ek⟩=ek+(1+mxN (l.map (dpF n'))):=rfl;have e2:mxN (us.map (enV∘fun x=>(⟨n',ae++[k],x,ek+1⟩:En)))=ek+1+mxN (l.map (dpF n')):=em;rw[e1,e2];omega) yw
    refine⟨?_,m',a,st',b2,_,c1,c2,c3,c4,?_,?_,rfl⟩
    ·omega
    ·rw[<- c5,gn,pd];rfl
    ·rw[<- c6];split<;>omega
end
section
variable {R:RX}{S:Sto}
theorem Bm{Q names number:PN}{p:List bo}{m:Int}(hQ:Q=fun xs S R=>(zQ (aA (zC 0 1 names (zb (zi 0) zt)) (zg 2)) (zQ (aA (bJ [none,some 0] (aZ (zb (dOp aC (dC (.int 1)) (zC 0 2 zk (zb (zi 0) (zb (zi 1) zt)))) zt)) (zg 0) aG (dOp aC (dC (.int 1)) (zC 0 2 zk (zb (zi 1) (zb (dC (.int 3)) zt))))) (zg 3)) (zQ (aL (dB (dOp aW (zC 0 2 zk (zb (zi 0) (zb (dC (.int 12)) zt))) (dC (.int 0)))) (aA (dOp dIx (aM (zb (aM (zb (dC (.int 3)) (zb (dC (.int 3)) zt))) (zb (aM (zb (dC (.int 17)) (zb (dC (.int 17)) zt))) (zb (aM (zb (dC (.int 300)) zt)) (zb (dOp bB (aM (zb (dC (.int 1)) zt)) (dC (.int 8))) zt))))) (zC 0 2 zk (zb (zi 0) (zb (dC (.int 4)) zt)))) (zg 3)) aJ) (zQ (aA (bF zt) (zg 4)) (zQ (bQ (aZ (zb (dCB bC (zb (zi 3) zt)) zt)) (zg 5) (zQ (aA (zC 0 1 number (zb (zi 0) zt)) (zg 6)) (bM (dBM bW (zi 4) (zb (aQ (zb (dOp dIx (zi 2) (zi 5)) (zb (zi 6) (zb (dOp (dI0 fun i j=>i-j) (dOp aC (zi 6) (dOp dIx (zi 3) (zi 5))) (dC (.int 1))) zt)))) zt))))) (aB (dCB cZ (zb (zi 4) zt)))))))) (aP S.length R) (xs.map some++ci 5 none) S)
  (hnames:∀{p:List bo}{R:RX},aE p->(∀(ns:List Str) p',ns.length=8->(∀z∈ns,eJ z=true)->aE p'->R (.d (.list (ns.map ki))) [p'])->names [.l 0] [p] R)
  (hnumber:∀{p:List bo}{R:RX},aE p->(∀r p',-10 ^ 58<=r->r<=10 ^ 58->aE p'->R (.d (.int r)) [p'])->number [.l 0] [p] R)
  (hp:aE p) (m1:0<m) (m4:m<=4) (q:∀(ps:List Part) p',Drw ps->aI ps<=300->aE p'->R (.d (aK ps)) [p']):Q [.l 0,.d (.int m)] [p] R:=by
 subst hQ;walk_at "d"
 walk_at "n"
 refine hnames hp fun ns p1 hn hz ak=>?_;walk_at "d"
 walk_at "n"
 refine zo ak m1 (hE m1 yw) fun r p2 r0 r1 ae=>?_;walk_at "d";refine tK (α:=Int) (fun x=>1<=x/\x<=3) df (fun τ=>∃u,τ=[u,some (.l 0)]) _ [] p2 _ ⟨_,rfl⟩ ae (by rw[gA];simp;omega) ?_ ?_
 ·rintro d md _ p acc R' ⟨u,rfl⟩ hp hk;walk_at "d";refine zo hp dz (by decide +kernel) fun r p' r0 r1 ah=>?_;walk_at "d";exact hk _ _ p' ⟨_,rfl⟩ ah ⟨yw,yw⟩
 ·intro ws p3 ab hw hl;rw[gA]at hl;have aa:Wds ws:=wds3 yw yw hw;rw[nil_append];walk_at "d";refine cut (fun δ S=>∃(p:List bo) (ws:List Int),aE p/\Wds ws/\S=[p]/\δ=[some (.l 0),some (.d (.int m)),some (.d (.list (ns.map ki))),some (.d (.list (ws.map df))),none,none,none]) (fun N hN=>?_) ?_
  ·walk_at "d";refine zo ab dz (by decide +kernel) fun r2 p4 r3 r4 ac=>?_;walk_at "d";split
   ·refine zo ac dz (by decide +kernel) fun r5 p5 r6 r7 al=>?_;obtain⟨d,ed,ai,rfl,ag⟩:=fU (P:=fun d=>∃ws:List Int,d=.list (ws.map df)/\Wds ws) (ds:=[PyData.list [.int 3,.int 3],.list [.int 17,.int 17],.list [.int 300],.list (ci 8 [df 1]).flatten]) r6 r7 (by
     intro d m;simp only[ji,ie,or_false]at m;rcases m with rfl|rfl|rfl|rfl
     ·exact⟨[3,3],rfl,by decide,by decide,by decide,by decide,by decide⟩
     ·exact⟨[17,17],rfl,by decide,by decide,by decide,by decide,by decide⟩
     ·exact⟨[300],rfl,by decide,by decide,by decide,by decide,by decide⟩
     ·exact⟨[1,1,1,1,1,1,1,1],rfl,by decide,by decide,by decide,by decide,by decide⟩)
    walk_at "d";refine⟨_,ed,hN _ _ ⟨p5,ai,al,ag,rfl,rfl⟩⟩
   ·exact hN _ _ ⟨p4,ws,ac,aa,rfl,rfl⟩
  rintro _ _ ⟨p,ws,hp,aa,rfl,rfl⟩;have w8:=aa.l8
  walk_at "n"
  walk_at "n";refine dF (fun i δ S=>∃(p:List bo) (ps:List Part) (u1 u2:Option XV),aE p/\ps.length=i/\(∀p∈ps,Prt p)/\ps.map (fun p=>(p.2.2-p.2.1+1).toNat)=(ws.take i).map Int.toNat/\S=[p,ps.map bA]/\δ=[some (.l 0),some (.d (.int m)),some (.d (.list (ns.map ki))),some (.d (.list (ws.map df))),some (.l 1),u1,u2]) ⟨p,[],_,_,hp,rfl,yv,rfl,rfl,rfl⟩ ?_ ?_
  ·rintro i d _ _ N hi ⟨p,ps,u1,u2,hp,hl,ha,hs,rfl,rfl⟩ hN;obtain⟨af,rfl⟩:=iO hi;have iw:i<ws.length:=by simpa using af
   have i8:i<ns.length:=yw
   have e:=dP (f:=ki) (cp i8);have ew:=dP (f:=df) (cp iw);have w1:=aa.pos _ (ls iw);have am:=aa.le _ (ls iw);have e0:(0:Int)+(i:Int)=(i:Int):=yw
   walk_at "d"
   walk_at "n"
   refine hnumber hp fun lo p3 h1 h2 ab=>?_;walk_at "d";rw[e0];refine⟨_,e,?_⟩;walk_at "d";refine⟨_,ew,?_⟩;walk_at "d";refine⟨yw,hN _ _ ⟨p3,ps++[(ns[i],lo,lo+ws[i]-1)],_,_,ab,by simp[hl],fun x hx=>?_,?_,by simp[bA],rfl⟩⟩
   ·rcases mem_append.mp hx with hx|hx
    ·exact ha x hx
    ·rw[mem_singleton.mp hx];exact⟨hz _ (ls i8),by simp only;omega,h1,by simp only;omega⟩
   ·rw[gn,hs,gZ (cp iw),gn];congr 1;simp only[lh,map_nil,List.cons.injEq,and_true];omega
  ·rintro _ _ ⟨p,ps,u1,u2,hp,hl,ha,hs,rfl,rfl⟩;rw[gA]at hl hs;have aj:(ws.length:Int).toNat=ws.length:=by simp
   rw[aj]at hl hs;rw[take_length]at hs;walk_at "d";have an:=aa.l1;exact q ps p ⟨yw,yw,ha⟩ (by unfold aI;rw[hs];exact aa.prod) hp
theorem Ao{p:List bo}{m:Int}(hp:aE p)(m1:0<m)(m4:m<=4)(q:∀(ps:List Part) p',Drw ps->aI ps<=300->aE p'->R (.d (aK ps)) [p']):rQ [.l 0,.d (.int m)] [p] R:=
 Bm (names:=iU) (number:=lQ) rfl BS y8 hp m1 m4 q
end
section
variable {R:RX}{S:Sto}
theorem Led.wide{lo q:Nat->Int}{z:List Int}{x:Int}{d:bo}{js:List Nat}{w:Str}(h:Led lo z d js w)(e:∀j∈js,q j=lo j):Led q (z++[x]) d js w:=by
 induction h with
 |leaf h=>exact .leaf h
 | @node k i l d js w hk hi hd h ih=>
  refine .node (i:=i) (by rw[cq];omega) ?_ hd (ih fun j mj=>e j (cr _ mj));rw[fb,cx hk,<- fb,hi,e k (dh ..)]
theorem Led.word{lo:Nat->Int}{q:List Int}{d:bo}{js:List Nat}{w:Str}(h:Led lo q d js w):w = "breaks"\/w = "keeps":=by
 induction h with
 |leaf h=>exact h
 |node _ _ _ _ ih=>exact ih
theorem Dm{ps:List Part}{aa:List Int}{d:bo}{js:List Nat}{w:Str}(hL:Led (plo ps) aa d js w)(hj:∀j∈js,j<ps.length)(hl:js.length<=100)(q:R (.p 0 (.str w)) [js.map fun k:Nat=>.int k]):nB [.d d,.d (aK ps),.d (aF aa)] [] R:=by
 unfold nB;walk_at "d";walk_at "n";walk_at "n";walk_at "n";refine⟨fun m δ S=>∃(d':bo) (j0 j1:List Nat) (u:Option XV),Led (plo ps) aa d' j1 w/\j0++j1=js/\m=j1.length/\S=[j0.map fun k:Nat=>.int k]/\δ=[some (.d d),some (.d (aK ps)),some (.d (aF aa)),some (.l 0),some (.d d'),u],⟨_,d,[],js,none,hL,rfl,rfl,rfl,rfl⟩,?_⟩;rintro m _ _ ⟨d',j0,j1,u,h1,h2,rfl,rfl,rfl⟩;cases h1 with
 |leaf h=>
  walk_at "d";rw[jb]at h2;have hn:dy (.str w)=true/\(ki w).eqv (.str "measure")=false:=by rcases h with rfl|rfl<;>exact⟨by decide +kernel,by decide +kernel⟩
  refine⟨hn.1,by decide +kernel,?_⟩;rw[cb (by rw[hn.2];exact ge),h2];exact q
 | @node k i l d2 js' _ hk hi hd h=>
  walk_at "d";have kp:=hj k (by rw[<- h2];simp);have lj:j0.length+(js'.length+1)=js.length:=by rw[<- h2,cq,fj]
  have ep:=dP (f:=bA) (gF kp);have eo:=dP (f:=df) (nX (ns:=aa) (k:=k) hk);refine⟨by decide +kernel,by decide +kernel,?_⟩;rw[cf (by decide +kernel)];refine⟨fun δ' S'=>∃m',m'<js'.length+1/\∃(d':bo) (j0 j1:List Nat) (u:Option XV),Led (plo ps) aa d' j1 w/\j0++j1=js/\m'=j1.length/\S'=[j0.map fun k:Nat=>.int k]/\δ'=[some (.d d),some (.d (aK ps)),some (.d (aF aa)),some (.l 0),some (.d d'),u],fun _ _ z=>z,?_⟩;rw[fV,aF];walk_at "n";walk_at "n";refine⟨yw,?_⟩;refine⟨_,eo,_,ep,?_⟩;rw[m9];walk_at "d";have e1:(part ps k).2.1=plo ps k:=rfl;have ei:aa.getD k 0-(part ps k).2.1=i:=by rw[e1];omega
  rw[ei];exact⟨d2,dW hd,js'.length,yw,d2,j0++[k],js',_,h,by rw[<- h2];simp,rfl,by rw[gn];rfl,rfl,rfl⟩
theorem wB{ps:List Part}{z:List Int}{d:bo}{js:List Nat}{w:Str}(hL:Led (plo ps) z d js w)(hj:∀j∈js,j<ps.length)(hl:js.length<=100)(q:R (.d (.bool true)) []):jK [.d d,.d (aK ps),.d (aF z)] [] R:=by
 unfold jK;walk_at "d"
 walk_at "n"
 refine Cf hL hj hl ?_;walk_at "d";walk_at "n";refine dF (fun i δ S=>∃(u v:Option XV),δ=[some (.d d),some (.d (aK ps)),some (.d (aF z)),some (.d (.tuple [nlD js,.str w])),u,v]) ⟨_,_,rfl⟩ ?_ ?_
 ·rintro i d' _ S N aa ⟨u,v,rfl⟩ hN;walk_at "d"
  walk_at "n"
  refine Dm hL hj hl ?_;have sh:dy (.tuple [nlD js,.str w])=true:=(mT (n:=1) (xX (mP (mZ fun _ _=>iH)) (rX (by rcases hL.word with rfl|rfl<;>decide +kernel)))).ok;have eS:(S++[js.map fun k:Nat=>df k])[S.length]?=some (js.map fun k:Nat=>df k):=by rw[ca]
  walk_at "d";walk_at "n";rw[eS];walk_at "d";refine⟨sh,sh,?_⟩;rw[cb (by rw[show nlD js=PyData.list (js.map fun k:Nat=>df k)from rfl]at sh ⊢;rw[SeqAt.eqv_refl _ (gc sh)];decide)];walk_at "n";rw[eS];walk_at "d";refine cmp1 (S0:=[]) (h:=fun k:Nat=>df k) (fun _=>kc true) rfl js yw ?_ ?_
  ·intro x mx u acc R' hk;walk_at "d";refine uN ?_;rw[show sJ (.int x)=true from rfl];walk_at "d";exact hk _
  walk_at "d";refine⟨js.map fun _=>true,by rw[pd];rfl,?_⟩;rw[cb yv];exact⟨yw,yw,hN _ _ ⟨_,_,rfl⟩⟩
 ·rintro _ _ ⟨u,v,rfl⟩;walk_at "d";exact q
theorem Bf{ps:List Part}{x:Part}{k:Nat}(h:k<ps.length):plo (ps++[x]) k=plo ps k:=by
 unfold plo part;rw[fb,cx h,<- fb]
theorem Eb{α:Type}{ds:List α}{k:Nat}:aH ds none (some (k:Int))=ds.take k:=by
 have e1:HT.sIx ds.length ds.length (some (k:Int))=min k ds.length:=by rw[HT.sIx_nat]
 have e2:HT.sIx ds.length 0 none=0:=rfl;unfold aH;rw[e1,e2];rcases Nat.le_total k ds.length with h|h
 ·rw[Nat.min_eq_left h];simp
 ·rw[Nat.min_eq_right h,jv yv,jv h];simp
theorem E7(a:Addr)(n:Int):qE (FV a 10) ((some (.o (.ref a))::ci 10 none).set 1 (some (.d (.int n)))) []:=by
 unfold qE;walk_at "d"
 walk_at "n"
 refine FC fun p hp=>?_;walk_at "d"
 walk_at "n"
 refine Ao hp dz dz fun ps p1 hd hs ae=>?_;walk_at "d"
 walk_at "n"
 refine F0 ae hd fun g p2 hg ab=>?_;have h8:=hd.l8;have h3:=hg.ts.tm3 h8;have ho:=hd.ord;walk_at "d"
 walk_at "n"
 refine EN ho yw hs ?_;walk_at "d"
 walk_at "n"
 refine zo ab dz dz fun r p3 r0 r1 ag=>?_;walk_at "d";refine CH hd hs h3 ag r0 yw fun d p4 z ah=>?_;walk_at "d";walk_at "n";refine tN ho hs h8 yw z ?_;walk_at "d";refine uN ?_;rw[show sJ (.int (dpF r.toNat d))=true from rfl];walk_at "d";refine tN ho hs h8 yw z ?_;walk_at "d";have hw:∀k,k<ps.length->(phi ps k-plo ps k+1)<=300:=fun k hk=>by
  have:=pA ho hk;omega
 refine yY ho hw z yw ?_;walk_at "d"
 walk_at "n"
 refine y8 ah fun q p5 l0 l1 af=>?_;walk_at "d"
 walk_at "n"
 rw[fV];refine⟨⟨by decide,by decide⟩,zo af dz dz fun r2 p6 aj ak ac=>?_⟩;rw[show ((7:Int))=((7:Nat):Int)from rfl,Eb];walk_at "d";refine⟨by rw[jh,dj];omega,?_⟩;have hW:ps.length<8->PyData.tuple ((ps.map bA).take 7++[.tuple [.str "qzqzqzqz",.int q,.int (q+r2)]])=aK (ps++[(("qzqzqzqz":Str),q,q+r2)]):=fun h=>by
  rw[jv (by rw[dj];omega),fV,gn];rfl
 generalize PyData.tuple ((ps.map bA).take 7++[.tuple [.str "qzqzqzqz",.int q,.int (q+r2)]])=W at hW ⊢;have ai:(bP ps).length=aI ps:=p9 ps;have al:=m7 ho;refine dF (fun i δ S=>∃(p:List bo) (u v:Option XV),aE p/\S=[p]/\δ=[some (.o (.ref a)),some (.d (.int n)),some (.l 0),some (.d (.tuple (ps.map bA))),some (.d (fB g)),some (.d (.list ((bP ps).map aF))),some (.d d),some (.d (.int q)),some (.d W),u,v]) ⟨p6,_,_,ac,rfl,rfl⟩ ?_ ?_
 ·rintro i d' _ _ N hi ⟨p,u,v,hp,rfl,rfl⟩ hN;walk_at "d"
  walk_at "n"
  refine zo hp yw (hE yw yw) fun r p7 r0 r1 aa=>?_;obtain⟨x,ed,b,mb,rfl⟩:=fU (P:=fun d=>∃b:List Int,b∈bP ps/\d=aF b) (ds:=(bP ps).map aF) r0 (by simpa using r1) (fun d m=>by
   obtain⟨k,mk,rfl⟩:=mem_map.mp m;exact⟨_,mk,rfl⟩)
  have ib:=iF.mp mb;obtain⟨js,w,hL,am,hj⟩:=z.led ib;walk_at "d";refine⟨_,ed,?_⟩;walk_at "d";walk_at "n";rw[<- fV];refine wB hL hj yw ?_;walk_at "d";rw[fV];walk_at "d";by_cases h:ps.length<8
  ·rw[cf yw];rw[aF];walk_at "d";refine⟨by have:=ib.len;omega,?_⟩;rw[hW h,show PyData.tuple (b.map df++[.int q])=aF (b++[q]) by rw[aF,gn];rfl];refine wB (hL.wide fun j mj=>Bf (hj j mj)) (fun j mj=>by rw[cq];have:=hj j mj;omega) yw ?_;rw[<- hW h];walk_at "d";exact hN _ _ ⟨_,_,_,aa,rfl,rfl⟩
  ·rw[cb yw];exact hN _ _ ⟨_,_,_,aa,rfl,rfl⟩
 ·rintro _ _ ⟨p,u,v,hp,rfl,rfl⟩;walk_at "d"
end
end My
namespace My
open PySem L2
def top (i : Nat) : Stmt := PySem.Challenge.pw_gaugewright_k59_led_and_depth.main.body.getD i (.Pass ⟨0, 0, 0, 0⟩)
abbrev yW:Stmt:=top 5
theorem FE:FnScope ["script","k"] ["script","k"] (zh yW):=fsd
abbrev yB:Stmt:=top 7
theorem AM:FnScope ["cell","left"] ["cell"] (zh yB):=fsd
abbrev wI:Stmt:=top 6
theorem wQ:FnScope ["seed"] ["seed"] (zh wI):=fsd
abbrev vE:Stmt:=top 8
theorem AN:FnScope ["pen","many","found"] ["pen","many"] (zh vE):=fsd
abbrev lX:Stmt:=top 12
theorem zD:FnScope ["pen","letters","way","first","names","word","at"] ["pen"] (zh lX):=fsd
abbrev uU:Stmt:=top 10
theorem wX:FnScope ["pen","way"] ["pen"] (zh uU):=fsd
abbrev rA:Stmt:=top 13
theorem f9:FnScope ["pen","most","names","wides","drawing","k","low"] ["pen","most"] (zh rA):=fsd
abbrev u0:Stmt:=top 14
theorem zP:FnScope ["drawing","terms","least","most","part","times","ends"] ["drawing","terms"] (zh u0):=fsd
abbrev yX:Stmt:=top 15
theorem zI:FnScope ["pen","drawing","terms","part","times","least","most","wide","low","high"] ["pen","drawing"] (zh yX):=fsd
abbrev r8:Stmt:=top 17
theorem zT:FnScope ["drawing","found","name","low","high","longer","ahead"] ["drawing"] (zh r8):=fsd
abbrev rN:Stmt:=top 18
theorem sQ:FnScope ["gap","one","worth"] ["gap","one"] (zh rN):=fsd
abbrev mI:Stmt:=top 23
theorem zw:FnScope ["pen","drawing","gap","measured","some","deep","words","left","part","name","low","high","plans","k","rest"] ["pen","drawing","gap","measured","some","deep"] (zh mI):=fsd
abbrev wA:Stmt:=top 9
theorem Am:FnScope ["found"] ["found"] (zh wA):=fsd
abbrev wL:Stmt:=top 2
theorem pT:FnScope ["plans","found","plan"] ["plans"] (zh wL):=fsd
abbrev pM:Stmt:=top 1
theorem jU:FnScope ["plan","deepest","left","asked"] ["plan"] (zh pM):=fsd
abbrev pH:Stmt:=top 22
theorem C8:FnScope ["plan"] ["plan"] (zh pH):=fsd
abbrev xC:Stmt:=top 20
theorem rC:FnScope ["plan","drawing","one","parts"] ["plan","drawing","one"] (zh xC):=fsd
abbrev sU:Stmt:=top 3
theorem kG:FnScope ["plan","drawing","one","parts","at","part"] ["plan","drawing","one"] (zh sU):=fsd
abbrev r9:Stmt:=top 24
theorem nZ:FnScope ["plan","drawing","one","due","turn","found"] ["plan","drawing","one"] (zh r9):=fsd
abbrev s_law:Stmt:=top 25
theorem cM:FnScope ["script","cell","pen","drawing","gap","some","plan","low","wide","turn","one"] ["script"] (zh s_law):=fsd
structure Txt(mg:Str->Option bn):Prop where
 n_range:mg "range" = none
 n_len:mg "len" = none
 n_max:mg "max" = none
 n_int:mg "int" = none
 n_tuple:mg "tuple" = none
 n_min:mg "min" = none
 n_sum:mg "sum" = none
 n_sorted:mg "sorted" = none
 n_set:mg "set" = none
 n_isinstance:mg "isinstance" = none
 n_bool:mg "bool" = none
 n_list:mg "list" = none
 n_all:mg "all" = none
structure Dds(K:cu)(mg:Str->Option bn):Prop where
 a0:Dd K mg "_law_cell_at" yW ["script","k"]
 a1:Dd K mg "_law_pen_of" yB ["cell"]
 a2:Dd K mg "_law_next" wI ["seed"]
 a3:Dd K mg "_law_draw" vE ["pen","many"]
 a4:Dd K mg "_law_names_of" lX ["pen"]
 a5:Dd K mg "_law_number" uU ["pen"]
 a6:Dd K mg "_law_few" rA ["pen","most"]
 a7:Dd K mg "_law_ends_of" u0 ["drawing","terms"]
 a8:Dd K mg "_law_gap_of" yX ["pen","drawing"]
 a9:Dd K mg "_law_all_of" r8 ["drawing"]
 a10:Dd K mg "_law_kept" rN ["gap","one"]
 a11:Dd K mg "_law_drawn_plan" mI ["pen","drawing","gap","measured","some","deep"]
 a12:Dd K mg "_law_whole" wA ["found"]
 a13:Dd K mg "unlike_ones" wL ["plans"]
 a14:Dd K mg "depth" pM ["plan"]
 a15:Dd K mg "_law_deep_of" pH ["plan"]
 a16:Dd K mg "_law_led_of" xC ["plan","drawing","one"]
 a17:Dd K mg "led" sU ["plan","drawing","one"]
 a18:Dd K mg "_law_right" r9 ["plan","drawing","one"]
section
variable {P:fe}{w:ft}{K:cu}{mg:Str->Option bn}{base:Heap}
local macro_rules|`(tactic|walk_at "r")=>do
 let ts<-("zl 0,zj 2,zB 0,zN 0,zx 0,aS 2,zA 2,cL 0,zA 0,dL 2,dM 1,fL 0,bL 0,nC 0,eV 3,y4 1,gT 1,tS 0,pZ 0,Au 1,b9 2,oC 0,eX 0,rT 2,u6 0,aS 0,mY 1,hX 0,zj 0,nO 3,ET 0,wF 2,gD 1,hZ 0,BK 0,f7 3,fF 1,hV 1,dZ 1,AK 1,vV 0,E2 2,BJ 0,f7 0,EB 0,Cs 0,eV 0,o7 4,qT 1,oZ 0,B5 0,u9 0,Em 0,BW 0,Ck 2,wC 0,DW 2,A2 0,AD 0,mY 0,nO 0,pK 0,sP 2,rV 2,yC 0,Cl 0,CW 0,Db 0,Ak 2,v5 0,Ca 5,t0 0,EM 2,Bw 1,rV 0,DB 0,dM 0,FO 1,BQ 2,sF 1,sF 0,hV 0,gD 0,tL 0,FU 0,uV 0,zU 3,dY 2,jX 1,dY 0,zU 0".splitOn ",").toArray.mapM fun x=>do
  let i:=x.splitOn " "
  let h<-`(term|?_)
  let hs:=Array.replicate ((i.getD 1 "").toNat!) h
  `(Lean.Parser.Tactic.tacticSeq|refine $(Lean.mkIdent (i.getD 0 "").toName) $hs*)
 `(tactic|repeat' (first|with_reducible (first $[|$ts:tacticSeq]*)|rfl))
theorem FL(T:Txt mg:=by assumption)(dd:Dds K mg:=by assumption):Df P w K mg base "_law_cell_at" ["script","k"] 1 (sp2 (pD K)):=by
 refine Df.of2 dd.a0 FE (fun v u=>[some v,some u]) (fun _ _=>rfl) fun f z A outer s H v u Q E hr h=>?_;obtain⟨a,ns,i,rfl,rfl,hS,h0,q⟩:=h;refine⟨_,(zf (bE (zM jT (pv 1) (zF D7 (by rfl) T.n_len b6 (za (pv 0) zd)) (nomark _)) (zn (zR (zH y9 (pv 0) (pv 1) (fun _ _=>rfl)))) aX) (zn (zR zc))),?_⟩;simp only[fX,pS,qU,tOp,EC,tCB,g7,gX,oY,tC,pR,xY,mh,ml];refine⟨a,_,rfl,.inl hS,?_⟩;simp only[xY,El,decide_eq_true_eq];refine ite2 (fun hi=>?_) (fun _=>q 0);obtain⟨n,e⟩:=Cq h0 hi;exact⟨a,_,i,_,rfl,rfl,hS,e,q n⟩
variable (T:Txt mg:=by assumption) (dd:Dds K mg:=by assumption)
include T dd
theorem DZ:Df P w K mg base "_law_pen_of" ["cell"] 1 (spN ["cell"] oA):=by
 exact Df.dN dd.a1 AM 1 rfl fun f z A outer s H E hr=>⟨_,_,(zf (zv (i:=1) AM.nd rfl lo (zF (yI rfl) (by rfl) T.n_max oD (za (pv 0) (za (zy cC zc (pv 0)) zd)))) (zn (zR (zY (za (pv 1) (za (kL v7 (by rfl) T.n_int pC (za (Es CM (pv 1) (zy iP zc zc) (nomark _)) zd)) (za (zy fG (pv 1) zc) zd))))))),(by walk_at "r"),fun xs S R q=>q⟩
theorem AV:Df P w K mg base "_law_next" ["seed"] 1 (spN ["seed"] mW):=by
 exact Df.dN dd.a2 wQ 0 rfl fun f z A outer s H E hr=>⟨_,_,(zf (zv (i:=0) wQ.nd rfl lo (zy fG (zy zG (pv 0) zc) zc)) (zn (zR (zy fG (zy zG (zy zG (zy cG (pv 0) (pv 0)) (zy cG zc (pv 0))) zc) zc)))),(by walk_at "r"),fun xs S R q=>q⟩
theorem zr:Df P w K mg base "_law_draw" ["pen","many"] 2 (spN ["pen","many"] zk):=by
 exact Df.dN dd.a3 AN 1 rfl fun f z A outer s H E hr=>⟨_,_,(zf (bE (zM (b7 hr.units) (zH zu (pv 0) zc (fun _ _=>rfl)) zc (nomark _)) (zf (zv (i:=2) AN.nd rfl lo (zy fG (zH zu (pv 0) zc (fun _ _=>rfl)) (pv 1))) (zf (m6 (zy lU (zH zu (pv 0) zc (fun _ _=>rfl)) (pv 1)) (vH (pv 0) zc yA)) (zn (zR (pv 2))))) aX) (zf (m6 (zz AV hr dz (za (zy zG (zz AV hr dz (za (zH zu (pv 0) zc (fun _ _=>rfl)) zd)) zc) zd)) (vH (pv 0) zc yA)) (zn (zR (zy fG (zy lU (zH zu (pv 0) zc (fun _ _=>rfl)) zc) (pv 1)))))),(by walk_at "r"),fun xs S R q=>q⟩
theorem FK:Df P w K mg base "_law_names_of" ["pen"] 3 (spN ["pen"] iU):=by
 exact Df.dN dd.a4 zD 6 rfl fun f z A outer s H E hr=>⟨_,_,(zf (zv (i:=1) zD.nd rfl (Or.inr rfl) bR) (zf (zv (i:=2) zD.nd rfl lo (zz zr hr dz (za (pv 0) (za zc zd)))) (zf (zv (i:=3) zD.nd rfl (Or.inr rfl) (zz zr hr dz (za (pv 0) (za zc zd)))) (zf (iT (i:=4) (fun _ _ h=>h) rfl (cH rfl rfl rfl rfl (N:=["k","letters","first"]) (caps:=[none,some 1,some 3]) (by show bX ["pen","letters","way","first","names","word","at"] (zh lX).names _ _ _=true;decide +kernel)) zD.nd rfl rfl (zW rfl T.n_range (za zc zd)) (fun _ _ _ _=>(zE (i:=0) (by show jx (["k","letters","first"]:List Str);decide) rfl (jd rfl))) (fun _ _ _ _=>dH) (fun _ _ _ _=>(zy cG (zH zu (pv 1) (zy fG (zy zG (pv 2) (zy cG zc (pv 0))) zc) (fun _ _=>rfl)) (zy zG zc (zy fG (zy zG (pv 2) (zy cG zc (pv 0))) zc))))) (zf (bE (zM (b7 hr.units) (pv 2) zc (nomark _)) (zf (zv (i:=5) zD.nd rfl (Or.inr rfl) (dS PySem.F.plainAttrs_str PySem.F.slot_str_join PySem.F.type_str_join DJ bR (za (fN (fun _ _ h=>h) rfl (cH rfl rfl rfl rfl (N:=["k","letters","first"]) (caps:=[none,some 1,some 3]) (by show bX ["pen","letters","way","first","names","word","at"] (zh lX).names _ _ _=true;decide +kernel)) (zW rfl T.n_range (za zc zd)) (fun _ _ _ _=>(zE (i:=0) (by show jx (["k","letters","first"]:List Str);decide) rfl (jd rfl))) (fun _ _ _ _=>dH) (fun _ _ _ _=>(zH zu (pv 1) (zy fG (zy zG (pv 2) (zy cG zc (pv 0))) zc) (fun _ _=>rfl)))) zd))) (zn (iT (i:=4) (fun _ _ h=>h) rfl (cH rfl rfl rfl rfl (N:=["k","word"]) (caps:=[none,some 5]) (by show bX ["pen","letters","way","first","names","word","at"] (zh lX).names _ _ _=true;decide +kernel)) zD.nd rfl rfl (zW rfl T.n_range (za zc zd)) (fun _ _ _ _=>(zE (i:=0) (by show jx (["k","word"]:List Str);decide) rfl (jd rfl))) (fun _ _ _ _=>dH) (fun _ _ _ _=>(jW rS (pv 1) nM (gU (zy zG (pv 0) zc))))))) aX) (zf (bE (zM (b7 hr.units) (pv 2) zc (nomark _)) (zn (zv (i:=4) zD.nd rfl lo (zY (za bR (za bR (za bR (za bR (za bR (za bR (za bR (za bR zd))))))))))) aX) (zf (zv (i:=6) zD.nd rfl lo (zz zr hr dz (za (pv 0) (za zc zd)))) (zf (zv (i:=4) zD.nd rfl lo (zy qS (jW rS (pv 4) (gU (pv 6)) nM) (jW rS (pv 4) nM (gU (pv 6))))) (zf (bE (zM (b7 hr.units) (zz zr hr dz (za (pv 0) (za zc zd))) zc (nomark _)) (zn (c0 (sS PySem.F.plainAttrs_list PySem.F.slot_list_reverse PySem.F.type_list_reverse F5 (pv 4)))) aX) (zn (zR (pv 4)))))))))))),(zA (aS nC zx) (zA (by walk_at "r") (zA (by walk_at "r") (zA (aS (uQ (fF (zj zN zB)) zx cY (zU hX (zU cL zl (zU eX (zU bL zl (zU hX zN zl)) zN)) (zU bL zN (zU eX (zU bL zl (zU hX zN zl)) zN)))) zx) (zA (eV (by walk_at "r") (zA (aS (yC Ey nC (zj (dD (fF (zj zN zB)) zx cY (zU cL zl (zU eX (zU bL zl (zU hX zN zl)) zN))) zB)) zx) (aS (uQ (fF (zj zN zB)) zx cY (o7 wC zl oZ (qT (zU bL zl zN)))) zx)) fL) (by walk_at "r")))))),fun xs S R q=>q⟩
theorem AT:Df P w K mg base "_law_number" ["pen"] 3 (spN ["pen"] lQ):=by
 exact Df.dN dd.a5 wX 1 rfl fun f z A outer s H E hr=>⟨_,_,(zf (zv (i:=1) wX.nd rfl lo (zz zr hr dz (za (pv 0) (za zc zd)))) (zf (bE (zM jT (pv 1) zc (nomark _)) (zn (zR (zy cC (zz zr hr dz (za (pv 0) (za zc zd))) zc))) aX) (zf (bE (zM jT (pv 1) zc (nomark _)) (zn (zR (zy cC (zz zr hr dz (za (pv 0) (za zc zd))) zc))) aX) (zn (zR (zy cG (zy cC (zz zr hr dz (za (pv 0) (za (zy cG zc (zy iP zc zc)) zd))) (zy iP zc zc)) (zy iP zc zc))))))),(by walk_at "r"),fun xs S R q=>q⟩
theorem Ai:Df P w K mg base "_law_few" ["pen","most"] 4 (spN ["pen","most"] rQ):=by
 exact Df.dN dd.a6 f9 5 rfl fun f z A outer s H E hr=>⟨_,_,(zf (zv (i:=2) f9.nd rfl lo (zz FK hr dz (za (pv 0) zd))) (zf (iT (i:=3) (fun _ _ h=>h) rfl (cH rfl rfl rfl rfl (N:=["k","pen"]) (caps:=[none,some 0]) (by show bX ["pen","most","names","wides","drawing","k","low"] (zh rA).names _ _ _=true;decide +kernel)) f9.nd rfl rfl (zW rfl T.n_range (za (zy zG zc (zz zr hr dz (za (pv 0) (za (pv 1) zd)))) zd)) (fun _ _ _ _=>(zE (i:=0) (by show jx (["k","pen"]:List Str);decide) rfl (jd rfl))) (fun _ _ _ _=>dH) (fun _ _ _ _=>(zy zG zc (zz zr hr dz (za (pv 1) (za zc zd)))))) (zf (bE (zM (b7 hr.units) (zz zr hr dz (za (pv 0) (za zc zd))) zc (nomark _)) (zn (zv (i:=3) f9.nd rfl lo (zH zu (zY (za (zY (za zc (za zc zd))) (za (zY (za zc (za zc zd))) (za (zY (za zc zd)) (za (zy cG (zY (za zc zd)) zc) zd))))) (zz zr hr dz (za (pv 0) (za zc zd))) (fun _ _=>rfl)))) aX) (zf (zv (i:=4) f9.nd rfl lo (zY zd)) (zf (dJ gj rfl (zW rfl T.n_range (za (zF cK (by rfl) T.n_len b6 (za (pv 3) zd)) zd)) (zE (i:=5) f9.nd rfl (jd rfl)) (zf (zv (i:=6) f9.nd rfl lo (zz AT hr dz (za (pv 0) zd))) (zn (c0 (dS PySem.F.plainAttrs_list PySem.F.slot_list_append PySem.F.type_list_append eL (pv 4) (za (bK (za (zH zu (pv 2) (pv 5) (fun _ _=>rfl)) (za (pv 6) (za (zy cC (zy zG (pv 6) (zH zu (pv 3) (pv 5) (fun _ _=>rfl))) zc) zd)))) zd)))))) (zn (zR (kL rR (by rfl) T.n_tuple nY (za (pv 4) zd))))))))),(zA (by walk_at "r") (zA (aS (dD (fF (zj (zU bL zN (dL (i:=0) (zj zl (zj zl zB)))) zB)) zx cY (zU bL zN (dL (i:=0) (zj zl (zj zN zB))))) zx) (by walk_at "r"))),fun xs S R q=>q⟩
theorem FB:Df P w K mg base "_law_ends_of" ["drawing","terms"] 1 (spN ["drawing","terms"] oT):=by
 exact Df.dN dd.a7 zP 5 rfl fun f z A outer s H E hr=>⟨_,_,(zf (zv (i:=2) zP.nd rfl lo zc) (zf (zv (i:=3) zP.nd rfl lo zc) (zf (dJ gj rfl (c9 (pv 1)) (kE (n:=2) rfl (cF (zE (i:=4) zP.nd rfl (jd rfl)) (cF (zE (i:=5) zP.nd rfl (jd rfl)) i0))) (zf (zv (i:=6) zP.nd rfl lo (zY (za (zy cG (pv 5) (zH zu (zH zu (pv 0) (pv 4) (fun _ _=>rfl)) zc (fun _ _=>rfl))) (za (zy cG (pv 5) (zH zu (zH zu (pv 0) (pv 4) (fun _ _=>rfl)) zc (fun _ _=>rfl))) zd)))) (zf (zv (i:=2) zP.nd rfl lo (zy zG (pv 2) (zF (B0 rfl hr.units) (by rfl) T.n_min E3 (za (pv 6) zd)))) (zn (zv (i:=3) zP.nd rfl lo (zy zG (pv 3) (zF (vB rfl) (by rfl) T.n_max oD (za (pv 6) zd)))))))) (zn (zR (bK (za (pv 2) (za (pv 3) zd)))))))),(by walk_at "r"),fun xs S R q=>q⟩
theorem Ac:Df P w K mg base "_law_gap_of" ["pen","drawing"] 3 (spN ["pen","drawing"] nK):=by
 exact Df.dN dd.a8 zI 8 rfl fun f z A outer s H E hr=>⟨_,_,(zf (zv (i:=2) zI.nd rfl lo (zY zd)) (zf (dJ gj rfl (zW rfl T.n_range (za (zF cK (by rfl) T.n_len b6 (za (pv 1) zd)) zd)) (zE (i:=3) zI.nd rfl (jd rfl)) (zf (zv (i:=4) zI.nd rfl lo (zy cC (zz zr hr dz (za (pv 0) (za zc zd))) zc)) (zn (bE (zM (rH hr.units) (pv 4) (bK (za (oK oF zc) (za zc (za zc zd)))) (by rfl)) (zn (c0 (dS PySem.F.plainAttrs_list PySem.F.slot_list_append PySem.F.type_list_append eL (pv 2) (za (bK (za (pv 3) (za (pv 4) zd))) zd)))) aX)))) (zf (bE (zM (b7 hr.units) (pv 2) (zY zd) (nomark _)) (zn (zv (i:=2) zI.nd rfl lo (zY (za (bK (za (zz zr hr dz (za (pv 0) (za (zF cK (by rfl) T.n_len b6 (za (pv 1) zd)) zd))) (za (zH zu (zY (za zc (za (oK oF zc) (za zc (za (oK oF zc) zd))))) (zz zr hr dz (za (pv 0) (za zc zd))) (fun _ _=>rfl)) zd))) zd)))) aX) (zf (m6 (zz FB hr dz (za (pv 1) (za (pv 2) zd))) (kE (n:=2) rfl (cF (zE (i:=5) zI.nd rfl (jd rfl)) (cF (zE (i:=6) zI.nd rfl (jd rfl)) i0)))) (zf (zv (i:=7) zI.nd rfl lo (zy cC (pv 6) (pv 5))) (zf (zv (i:=8) zI.nd rfl lo (zy zG (pv 5) (zH zu (uF (cE zc (cE zc (cE (oK oF zc) (cE (zy lU (pv 7) zc) (cE (zy lU (pv 7) zc) (cE (zy zG (pv 7) zc) vR))))))) (zz zr hr dz (za (pv 0) (za zc zd))) (fun _ _=>rfl)))) (zf (zv (i:=9) zI.nd rfl lo (zy zG (pv 8) (zH zu (uF (cE zc (cE zc (cE zc (cE (zy lU (pv 7) zc) (cE (pv 7) (cE (zy zG (pv 7) zc) vR))))))) (zz zr hr dz (za (pv 0) (za zc zd))) (fun _ _=>rfl)))) (zn (zR (bK (za (kL rR (by rfl) T.n_tuple nY (za (pv 2) zd)) (za (pv 8) (za (pv 9) zd))))))))))))),(by walk_at "r"),fun xs S R q=>q⟩
theorem B2:Df P w K mg base "_law_all_of" ["drawing"] 1 (spN ["drawing"] oU):=by
 exact Df.dN dd.a9 zT 6 rfl fun f z A outer s H E hr=>⟨_,_,(zf (zv (i:=1) zT.nd rfl lo (zY (za (bK zd) zd))) (zf (dJ gj rfl (c9 (pv 0)) (kE (n:=3) rfl (cF (zE (i:=2) zT.nd rfl (jd rfl)) (cF (zE (i:=3) zT.nd rfl (Or.inr rfl)) (cF (zE (i:=4) zT.nd rfl (jd rfl)) i0)))) (zf (zv (i:=5) zT.nd rfl lo (zY zd)) (zf (dJ gj rfl (c9 (pv 1)) (zE (i:=6) zT.nd rfl (Or.inr rfl)) (zn (c0 (dS PySem.F.plainAttrs_list PySem.F.slot_list_extend PySem.F.type_list_extend wE (pv 5) (za (fN (fun _ _ h=>h) rfl (cH rfl rfl rfl rfl (N:=["k","ahead","low"]) (caps:=[none,some 6,some 3]) (by show bX ["drawing","found","name","low","high","longer","ahead"] (zh r8).names _ _ _=true;decide +kernel)) (zW rfl T.n_range (za (zy zG (zy cC (pv 4) (pv 3)) zc) zd)) (fun _ _ _ _=>(zE (i:=0) (by show jx (["k","ahead","low"]:List Str);decide) rfl (jd rfl))) (fun _ _ _ _=>dH) (fun _ _ _ _=>(zy zG (pv 1) (bK (za (zy zG (pv 2) (pv 0)) zd))))) zd))))) (zn (zv (i:=1) zT.nd rfl lo (pv 5)))))) (zn (zR (pv 1))))),(zA (by walk_at "r") (zA (f7 (dZ zl) (by walk_at "r") (x5 (zA (u8 (zA (by walk_at "r") (f7 (dZ zl) zx (mY (nO pK zl (zj (dD (fF (zj (zU bL (zU pZ zl zl) zN) zB)) zx cY (zU bL zl (gT (zj (zU bL zl zl) zB)))) zB)))))) (aS zl zx)))) (dM zl))),fun xs S R q=>q⟩
theorem C5:Df P w K mg base "_law_kept" ["gap","one"] 1 (spN ["gap","one"] nN):=by
 exact Df.dN dd.a10 sQ 1 rfl fun f z A outer s H E hr=>⟨_,_,(zf (zv (i:=2) sQ.nd rfl lo (zF (Ej rfl) (by rfl) T.n_sum Eh (za (fN (fun _ _ h=>h) rfl (cH rfl rfl rfl rfl (N:=["part","times","one"]) (caps:=[none,none,some 1]) (by show bX ["gap","one","worth"] (zh rN).names _ _ _=true;decide +kernel)) (c9 (zH zu (pv 0) zc (fun _ _=>rfl))) (fun _ _ _ _=>(kE (n:=2) rfl (cF (zE (i:=0) (by show jx (["part","times","one"]:List Str);decide) rfl (jd rfl)) (cF (zE (i:=1) (by show jx (["part","times","one"]:List Str);decide) rfl (jd rfl)) i0)))) (fun _ _ _ _=>dH) (fun _ _ _ _=>(zy cG (pv 1) (zH zu (pv 2) (pv 0) (fun _ _=>rfl))))) zd))) (zn (zR (DX vN vN (zH zu (pv 0) zc (fun _ _=>rfl)) (pv 2) (zH zu (pv 0) zc (fun _ _=>rfl)))))),(zA (aS (dY v5 (zj (dD (dZ (zU cL zl zN)) (AK (rT zx (rT zx vV))) cY (zU hX zl (zU cL zl zl))) zB)) zx) (by walk_at "r")),fun xs S R q=>q⟩
theorem v8:∀n,Df P w K mg base "_law_drawn_plan" ["pen","drawing","gap","measured","some","deep"] (3+n) (spN ["pen","drawing","gap","measured","some","deep"] (zJ n))
 | 0=>Df.none dd.a11
 |n+1=>by
  have o0:=v8  n;show Df P w K mg base "_law_drawn_plan" ["pen","drawing","gap","measured","some","deep"] (3+n+1) (spN ["pen","drawing","gap","measured","some","deep"] (zJ (n+1)));exact Df.dN dd.a11 zw 9 rfl fun f z A outer s H E hr=>⟨_,_,(zf (zv (i:=6) zw.nd rfl lo (Dw rfl rfl T.n_sorted rfl T.n_set (za (fN (fun _ _ h=>h) rfl (cH rfl rfl rfl rfl (N:=["one","gap"]) (caps:=[none,some 2]) (by show bX ["pen","drawing","gap","measured","some","deep","words","left","part","name","low","high","plans","k","rest"] (zh mI).names _ _ _=true;decide +kernel)) (c9 (pv 4)) (fun _ _ _ _=>(zE (i:=0) (by show jx (["one","gap"]:List Str);decide) rfl (jd rfl))) (fun _ _ _ _=>dH) (fun _ _ _ _=>(zz C5 hr yw (za (pv 1) (za (pv 0) zd))))) zd))) (zf (iT (i:=7) (fun _ _ h=>h) rfl (cH rfl rfl rfl rfl (N:=["part","measured"]) (caps:=[none,some 3]) (by show bX ["pen","drawing","gap","measured","some","deep","words","left","part","name","low","high","plans","k","rest"] (zh mI).names _ _ _=true;decide +kernel)) zw.nd rfl rfl (zW rfl T.n_range (za (zF cK (by rfl) T.n_len b6 (za (pv 1) zd)) zd)) (fun _ _ _ _=>(zE (i:=0) (by show jx (["part","measured"]:List Str);decide) rfl (jd rfl))) (fun _ _ _ _=>(xH (zM (rH hr.units) (pv 0) (pv 1) (by rfl)))) (fun _ _ _ _=>(pv 0))) (zf (bE (PW.pt (iI (zM (b7 hr.units) (pv 7) (zY zd) (nomark _)) (iI (zM (b7 hr.units) (pv 5) zc (nomark _)) (qM (PW.pt (xG (zM jT (zF cK (by rfl) T.n_len b6 (za (pv 6) zd)) zc (nomark _)) (yG (zM Aw (zz zr hr yw (za (pv 0) (za zc zd))) zc (nomark _))))))))) (zn (zR (bK (za (zH zu (zY (za bR (za bR zd))) (kL v7 (by rfl) T.n_int pC (za (zH zu (pv 6) (zz zr hr yw (za (pv 0) (za (zF cK (by rfl) T.n_len b6 (za (pv 6) zd)) zd))) (fun _ _=>rfl)) zd)) (fun _ _=>rfl)) zd)))) aX) (zf (zv (i:=8) zw.nd rfl (Or.inr rfl) (zH zu (pv 7) (zz zr hr yw (za (pv 0) (za (zF cK (by rfl) T.n_len b6 (za (pv 7) zd)) zd))) (fun _ _=>rfl))) (zf (m6 (zH zu (pv 1) (pv 8) (fun _ _=>rfl)) (kE (n:=3) rfl (cF (zE (i:=9) zw.nd rfl (jd rfl)) (cF (zE (i:=10) zw.nd rfl (Or.inr rfl)) (cF (zE (i:=11) zw.nd rfl (jd rfl)) i0))))) (zf (zv (i:=12) zw.nd rfl lo (zY zd)) (zf (dJ gj rfl (zW rfl T.n_range (za (zy zG (zy cC (pv 11) (pv 10)) zc) zd)) (zE (i:=13) zw.nd rfl (Or.inr rfl)) (zf (iT (i:=14) (fun _ _ h=>h) rfl (cH rfl rfl rfl rfl (N:=["one","part","low","k"]) (caps:=[none,some 8,some 10,some 13]) (by show bX ["pen","drawing","gap","measured","some","deep","words","left","part","name","low","high","plans","k","rest"] (zh mI).names _ _ _=true;decide +kernel)) zw.nd rfl rfl (c9 (pv 4)) (fun _ _ _ _=>(zE (i:=0) (by show jx (["one","part","low","k"]:List Str);decide) rfl (jd rfl))) (fun _ _ _ _=>(xH (zM (b7 hr.units) (zH zu (pv 0) (pv 1) (fun _ _=>rfl)) (zy zG (pv 2) (pv 3)) (nomark _)))) (fun _ _ _ _=>(pv 0))) (zn (c0 (dS PySem.F.plainAttrs_list PySem.F.slot_list_append PySem.F.type_list_append eL (pv 12) (za (zz o0 hr yw (za (pv 0) (za (pv 1) (za (pv 2) (za (zy zG (pv 3) (zY (za (pv 8) zd))) (za (pv 14) (za (zy cC (pv 5) zc) zd))))))) zd)))))) (zn (zR (bK (za bR (za (pv 8) (za (kL rR (by rfl) T.n_tuple nY (za (pv 12) zd)) zd))))))))))))),(zA (aS (dY t0 (zj (dD (dZ zl) zx cY (b9 (zj zl (zj zl zB)))) zB)) zx) (zA (aS (dD (fF (zj (dY oC (zj zl zB)) zB)) zx (jX (zU AD zl zl)) zl) zx) (zA (by walk_at "r") (zA (by walk_at "r") (zA (by walk_at "r") (zA (by walk_at "r") (zA (f7 (by walk_at "r") zx (zA (aS (dD (dZ zl) zx (jX (zU tS (zU cL zl zl) (zU bL zl zl))) zl) zx) (by walk_at "r"))) (by walk_at "r")))))))),fun xs S R q=>q⟩
theorem o0:Df P w K mg base "_law_drawn_plan" ["pen","drawing","gap","measured","some","deep"] 163 (spN ["pen","drawing","gap","measured","some","deep"] pL):=v8 T dd  160
theorem v4:Df P w K mg base "_law_whole" ["found"] 1 (spN ["found"] j7):=by
 exact Df.dN dd.a12 Am 0 rfl fun f z A outer s H E hr=>⟨_,_,(zn (zR (DC (zF nG (by rfl) T.n_isinstance nU (za (pv 0) (za (oJ rfl T.n_int pC (v:=.ty "int") rfl) zd))) (Ax (CO (zF nG (by rfl) T.n_isinstance nU (za (pv 0) (za (oJ rfl T.n_bool BB (v:=.ty "bool") rfl) zd)))))))),(by walk_at "r"),fun xs S R q=>q⟩
theorem Et:Df P w K mg base "unlike_ones" ["plans"] 1 (spN ["plans"] oH):=by
 exact Df.dN dd.a13 pT 2 rfl fun f z A outer s H E hr=>⟨_,_,(zf (zv (i:=1) pT.nd rfl lo (zY zd)) (zf (dJ gj rfl (c9 (pv 0)) (zE (i:=2) pT.nd rfl (jd rfl)) (zn (bE (zM (rH hr.units) (pv 2) (pv 1) (by rfl)) (zn (c0 (dS PySem.F.plainAttrs_list PySem.F.slot_list_append PySem.F.type_list_append eL (pv 1) (za (pv 2) zd)))) aX))) (zn (zR (pv 1))))),(by walk_at "r"),fun xs S R q=>q⟩
theorem xZ:Df P w K mg base "depth" ["plan"] 2 (spN ["plan"] jB):=by
 exact Df.dN dd.a14 jU 3 rfl fun f z A outer s H E hr=>⟨_,_,(zf (zv (i:=1) jU.nd rfl lo zc) (zf (zv (i:=2) jU.nd rfl lo (zY (za (bK (za (pv 0) (za zc zd))) zd))) (zf (qX gj (gL (pv 2) (fun _=>rfl)) (zf (zv (i:=3) jU.nd rfl (Or.inr rfl) (sS PySem.F.plainAttrs_list PySem.F.slot_list_pop PySem.F.type_list_pop Bd (pv 2))) (zf (zv (i:=1) jU.nd rfl lo (zF (yI rfl) (by rfl) T.n_max oD (za (pv 1) (za (zH zu (pv 3) zc (fun _ _=>rfl)) zd)))) (zn (bE (zM (b7 hr.units) (zH zu (zH zu (pv 3) zc (fun _ _=>rfl)) zc (fun _ _=>rfl)) bR (nomark _)) (zn (c0 (dS PySem.F.plainAttrs_list PySem.F.slot_list_extend PySem.F.type_list_extend wE (pv 2) (za (fN (fun _ _ h=>h) rfl (cH rfl rfl rfl rfl (N:=["further","asked"]) (caps:=[none,some 3]) (by show bX ["plan","deepest","left","asked"] (zh pM).names _ _ _=true;decide +kernel)) (c9 (zz Et hr dz (za (zH zu (zH zu (pv 3) zc (fun _ _=>rfl)) zc (fun _ _=>rfl)) zd))) (fun _ _ _ _=>(zE (i:=0) (by show jx (["further","asked"]:List Str);decide) rfl (jd rfl))) (fun _ _ _ _=>dH) (fun _ _ _ _=>(bK (za (pv 0) (za (zy zG (zH zu (pv 1) zc (fun _ _=>rfl)) zc) zd))))) zd)))) aX))))) (zn (zR (pv 1)))))),(zA (aS zN zx) (zA (by walk_at "r") (zA (rV (gD zl) (zA (by walk_at "r") (zA (by walk_at "r") (eV (by walk_at "r") (mY (nO pK zl (zj (dD (dZ (b9 (zj (zU cL (zU cL zl zN) zN) zB))) zx cY (gT (zj zl (zj (zU bL (zU cL zl zN) zN) zB)))) zB))) fL)))) (dM zl)))),fun xs S R q=>q⟩
theorem wY:∀n,Df P w K mg base "_law_deep_of" ["plan"] (1+n) (spN ["plan"] (zK n))
 | 0=>Df.none dd.a15
 |n+1=>by
  have pG:=wY  n;show Df P w K mg base "_law_deep_of" ["plan"] (1+n+1) (spN ["plan"] (zK (n+1)));exact Df.dN dd.a15 C8 0 rfl fun f z A outer s H E hr=>⟨_,_,(zf (bE (zM (b7 hr.units) (zF cK (by rfl) T.n_len b6 (za (pv 0) zd)) zc (nomark _)) (zn (zR zc)) aX) (zn (zR (zy zG zc (zF (vB rfl) (by rfl) T.n_max oD (za (fN (fun _ _ h=>h) rfl (cH (L:=0) rfl rfl rfl rfl (N:=["one"]) (caps:=[none]) (by show bX ["plan"] (zh pH).names _ _ _=true;decide +kernel)) (c9 (zH zu (pv 0) zc (fun _ _=>rfl))) (fun _ _ _ _=>(zE (i:=0) (by show jx (["one"]:List Str);decide) rfl (jd rfl))) (fun _ _ _ _=>dH) (fun _ _ _ _=>(zz pG hr yw (za (pv 0) zd)))) zd)))))),(zA (by walk_at "r") (dM (zU bL zN (dY A2 (zj (dD (dZ (zU cL zl zN)) zx cY (b9 (zj zl zB))) zB))))),fun xs S R q=>q⟩
theorem pG:Df P w K mg base "_law_deep_of" ["plan"] 161 (spN ["plan"] xQ):=wY T dd  160
theorem Eo:Df P w K mg base "_law_led_of" ["plan","drawing","one"] 1 (spN ["plan","drawing","one"] nT):=by
 exact Df.dN dd.a16 rC 1 rfl fun f z A outer s H E hr=>⟨_,_,(zf (zv (i:=3) rC.nd rfl lo (zY zd)) (zf (qX gj (zM (b7 hr.units) (zF cK (by rfl) T.n_len b6 (za (pv 0) zd)) zc (nomark _)) (zf (c0 (dS PySem.F.plainAttrs_list PySem.F.slot_list_append PySem.F.type_list_append eL (pv 3) (za (zH zu (pv 0) zc (fun _ _=>rfl)) zd))) (zn (zv (i:=0) rC.nd rfl lo (zH zu (zH zu (pv 0) zc (fun _ _=>rfl)) (zy cC (zH zu (pv 2) (zH zu (pv 0) zc (fun _ _=>rfl)) (fun _ _=>rfl)) (zH zu (zH zu (pv 1) (zH zu (pv 0) zc (fun _ _=>rfl)) (fun _ _=>rfl)) zc (fun _ _=>rfl))) (fun _ _=>rfl)))))) (zn (zR (bK (za (pv 3) (za (zH zu (pv 0) zc (fun _ _=>rfl)) zd))))))),(x5 (zA (u8 (by walk_at "r")) (by walk_at "r"))),fun xs S R q=>q⟩
theorem Ag:Df P w K mg base "led" ["plan","drawing","one"] 1 (spN ["plan","drawing","one"] nB):=by
 exact Df.dN dd.a17 kG 3 rfl fun f z A outer s H E hr=>⟨_,_,(zf (zv (i:=3) kG.nd rfl lo (zY zd)) (zf (zv (i:=4) kG.nd rfl lo (pv 0)) (zf (qX gj (zM (b7 hr.units) (zH zu (pv 4) zc (fun _ _=>rfl)) bR (nomark _)) (zf (zv (i:=5) kG.nd rfl lo (zH zu (pv 4) zc (fun _ _=>rfl))) (zf (c0 (dS PySem.F.plainAttrs_list PySem.F.slot_list_append PySem.F.type_list_append eL (pv 3) (za (pv 5) zd))) (zn (zv (i:=4) kG.nd rfl lo (zH zu (zH zu (pv 4) zc (fun _ _=>rfl)) (zy cC (zH zu (pv 2) (pv 5) (fun _ _=>rfl)) (zH zu (zH zu (pv 1) (pv 5) (fun _ _=>rfl)) zc (fun _ _=>rfl))) (fun _ _=>rfl))))))) (zn (zR (bK (za (pv 3) (za (zH zu (pv 4) zc (fun _ _=>rfl)) zd)))))))),(by walk_at "r"),fun xs S R q=>q⟩
theorem xO:Df P w K mg base "_law_right" ["plan","drawing","one"] 2 (spN ["plan","drawing","one"] jK):=by
 exact Df.dN dd.a18 nZ 3 rfl fun f z A outer s H E hr=>⟨_,_,(zf (zv (i:=3) nZ.nd rfl lo (zz Eo hr dz (za (pv 0) (za (pv 1) (za (pv 2) zd))))) (zf (dJ gj rfl (zW rfl T.n_range (za zc zd)) (zE (i:=4) nZ.nd rfl (jd rfl)) (zf (zv (i:=5) nZ.nd rfl lo (zz Ag hr dz (za (pv 0) (za (pv 1) (za (pv 2) zd))))) (zf (bE (PW.pt (iI (gY (gL (zF nG (by rfl) T.n_isinstance nU (za (pv 5) (za (oJ rfl T.n_tuple nY (v:=.ty "tuple") rfl) zd))) (fun _=>rfl))) (iI (zM (qY hr.units) (zF cK (by rfl) T.n_len b6 (za (pv 5) zd)) zc (nomark _)) (iI (gY (gL (zF nG (by rfl) T.n_isinstance nU (za (zH zu (pv 5) zc (fun _ _=>rfl)) (za (oJ rfl T.n_list A6 (v:=.ty "list") rfl) zd))) (fun _=>rfl))) (qM (zM (qY hr.units) (pv 5) (pv 3) (nomark _))))))) (zn (zR fI)) aX) (zf (bE (gY (gL (zF (E9 rfl) (by rfl) T.n_all Dn (za (fN (fun _ _ h=>h) rfl (cH (L:=0) rfl rfl rfl rfl (N:=["part"]) (caps:=[none]) (by show bX ["plan","drawing","one","due","turn","found"] (zh r9).names _ _ _=true;decide +kernel)) (c9 (zH zu (pv 5) zc (fun _ _=>rfl))) (fun _ _ _ _=>(zE (i:=0) (by show jx (["part"]:List Str);decide) rfl (jd rfl))) (fun _ _ _ _=>dH) (fun _ _ _ _=>(zz v4 hr dz (za (pv 0) zd)))) zd)) (fun _=>rfl))) (zn (zR fI)) aX) (zn (c0 (dS PySem.F.plainAttrs_list PySem.F.slot_list_append PySem.F.type_list_append eL (zH zu (pv 5) zc (fun _ _=>rfl)) (za zc zd)))))))) (zn (zR fI)))),(zA (by walk_at "r") (zA (f7 (by walk_at "r") zx (zA (by walk_at "r") (zA (by walk_at "r") (zA (eV (sF (hV (gD (dY tL (zj (dD (dZ (zU cL zl zN)) zx cY (b9 (zj zl zB))) zB))))) (dM hZ) fL) (by walk_at "r"))))) (dM hZ))),fun xs S R q=>q⟩
theorem ok_law{f:Addr}{fd:mo}(F:Fun K "law" "law" s_law f fd):FnOk P w K mg base CX0 164 f fd ["script"] (sp1 (rW K)):=by
 refine F.ok1 cM (fun v=>[some v,none,none,none,none,none,none,none,none,none,none]) (fun _=>rfl) fun aa A outer s H v Q E hr h=>?_;obtain⟨a,ns,rfl,hS,z,q⟩:=h;refine⟨_,(zf (dJ gj rfl (F3 (zy qS (zY (za (B6 FL hr dz (pv 0) zc) zd)) (jW xL (pv 0) (gU zc) (gU zc)))) (zE (i:=1) cM.nd rfl (jd rfl)) (zf (zv (i:=2) cM.nd rfl lo (zz DZ hr dz (za (pv 1) zd))) (zf (zv (i:=3) cM.nd rfl lo (zz Ai hr dz (za (pv 2) (za zc zd)))) (zf (zv (i:=4) cM.nd rfl lo (zz Ac hr dz (za (pv 2) (za (pv 3) zd)))) (zf (zv (i:=5) cM.nd rfl lo (zz B2 hr dz (za (pv 3) zd))) (zf (zv (i:=6) cM.nd rfl lo (zz o0 hr dz (za (pv 2) (za (pv 3) (za (pv 4) (za (zY zd) (za (pv 5) (za (zz zr hr dz (za (pv 2) (za zc zd))) zd)))))))) (zf (bE (PW.pt (iI (gY (gL (zz v4 hr dz (za (zz xZ hr dz (za (pv 6) zd)) zd)) (fun _=>rfl))) (qM (zM (qY hr.units) (zz xZ hr dz (za (pv 6) zd)) (zz pG hr dz (za (pv 6) zd)) (nomark _))))) (zn (zR fI)) aX) (zf (zv (i:=7) cM.nd rfl lo (zz AT hr dz (za (pv 2) zd))) (zf (zv (i:=8) cM.nd rfl lo (zy zG (jW Dg (pv 3) nM (gU zc)) (bK (za (bK (za bR (za (pv 7) (za (zy zG (pv 7) (zz zr hr dz (za (pv 2) (za (zy iP zc zc) zd)))) zd)))) zd)))) (zn (dJ gj rfl (zW rfl T.n_range (za zc zd)) (zE (i:=9) cM.nd rfl (jd rfl)) (zf (zv (i:=10) cM.nd rfl lo (zH zu (pv 5) (zz zr hr dz (za (pv 2) (za (zF cK (by rfl) T.n_len b6 (za (pv 5) zd)) zd))) (fun _ _=>rfl))) (zf (bE (gY (gL (zz xO hr dz (za (pv 6) (za (pv 3) (za (pv 10) zd)))) (fun _=>rfl))) (zn (zR fI)) aX) (zn (bE (PW.pt (xG (zM jT (zF cK (by rfl) T.n_len b6 (za (pv 3) zd)) zc (nomark _)) (yG (gY (gL (zz xO hr dz (za (pv 6) (za (pv 8) (za (zy zG (pv 10) (bK (za (pv 7) zd))) zd)))) (fun _=>rfl)))))) (zn (zR fI)) aX))))))))))))))) (zn (zR fI))),?_⟩;exact DV (m:=10) (db:=qE) (zA (aS (b9 (zj zl zB)) zx) (zA (aS (dL (i:=0) (zj zl (zj zN zB))) zx) (zA (aS (dL (i:=0) (zj zl (zj zl zB))) zx) (zA (aS (b9 (zj zl zB)) zx) (zA (aS (dL (i:=0) (zj zl (zj zl (zj zl (zj (y4 zB) (zj zl (zj (dL (i:=0) (zj zl (zj zN zB))) zB))))))) zx) (zA (eV (wF (hV (gD (b9 (zj (b9 (zj zl zB)) zB)))) (jX (zU u9 (b9 (zj zl zB)) (b9 (zj zl zB))))) (dM hZ) fL) (zA (aS (dL (i:=0) (zj zl zB)) zx) (zA (aS (zU bL (o7 uV zl oZ (qT zN)) (gT (zj (gT (zj nC (zj zl (zj (zU bL zl (dL (i:=0) (zj zl (zj (zU eX zN zN) zB)))) zB)))) zB))) zx) (f7 (fF (zj zN zB)) zx (zA (aS (zU cL zl (dL (i:=0) (zj zl (zj (dY oC (zj zl zB)) zB)))) zx) (zA (eV (hV (gD (b9 (zj zl (zj zl (zj zl zB)))))) (dM hZ) fL) (eV (sP (jX (zU u6 (dY oC (zj zl zB)) zN)) (hV (gD (b9 (zj zl (zj zl (zj (zU bL zl (gT (zj zl zB))) zB))))))) (dM hZ) fL)))))))))))) rfl rfl hS z (fun n=>E7 a n) dz fun _ H2 _=>q H2
end
end My
theorem Ay:L2.tabsG=[]:=rfl
namespace PySem.W.Fast
def tw8489844992435536211:Unit:=()
def tw3660968543013766318:Unit:=()
def tw3358628046957664329:Unit:=()
def tw9925664615565115723:Unit:=()
def tw11732694890120811525:Unit:=()
def tw1105975378955485921:Unit:=()
def tw7989222475911377002:Unit:=()
def tw7488224593786419865:Unit:=()
def tw320140385892549792:Unit:=()
def tw9135651469395163207:Unit:=()
def tw15901875674201284201:Unit:=()
def tw12233013712153750602:Unit:=()
def tw18371715237861222456:Unit:=()
def tw14467996927371298069:Unit:=()
def tw15262011641323615326:Unit:=()
def tw15019479927371921888:Unit:=()
def tw3177594769557881170:Unit:=()
def tw14936331875679157160:Unit:=()
def tw8216781428087051856:Unit:=()
def tw13892768853269953004:Unit:=()
def tw15456236136590160277:Unit:=()
def tw18003552800793469691:Unit:=()
def tw15587523857199267633:Unit:=()
def tw13091694931789209195:Unit:=()
def tw13820812872817157777:Unit:=()
def tw9501136932713563599:Unit:=()
def tw5034370971047520139:Unit:=()
def tw7890506590322711483:Unit:=()
def tw2930525969696689547:Unit:=()
def tw678634233070575231:Unit:=()
def tw9888794413099229016:Unit:=()
def tw3695627849222768277:Unit:=()
def tw16039021712759998531:Unit:=()
def tw9168125877567193722:Unit:=()
def tw3143121957197918093:Unit:=()
def tw12456767189551785110:Unit:=()
def tw8285349395784019423:Unit:=()
def tw10689044168432451858:Unit:=()
def tw15127617658848558272:Unit:=()
def tw16779112599898395254:Unit:=()
def tw15544369656704363276:Unit:=()
def tw12778529984556227418:Unit:=()
def tw16938992631671393723:Unit:=()
def tw561839882063147581:Unit:=()
def tw8197859818154986348:Unit:=()
def tw17831254403959638065:Unit:=()
def tw17845279977439370976:Unit:=()
def tw13914337039887329013:Unit:=()
def tw11005146524836194192:Unit:=()
def tw796478401913817025:Unit:=()
def tw11098660877564775308:Unit:=()
def tw17306943939261599302:Unit:=()
def tw488308832347662375:Unit:=()
def tw15250690610032261632:Unit:=()
def tw16458279560028169415:Unit:=()
def tw15013188187077179262:Unit:=()
def tw11756915304241806870:Unit:=()
def tw10648678835778870202:Unit:=()
def tw1491319975214574973:Unit:=()
def tw14966956661112635554:Unit:=()
def tw3207948800672857605:Unit:=()
def tw2139474653466941776:Unit:=()
end PySem.W.Fast
open PySem PySem.W PyProof.Rows L2
set_option maxRecDepth 100000 in
set_option maxHeartbeats 0 in
theorem PySem.Challenge.cw_gaugewright_k59_led_and_depth_holds : PySem.Challenge.rw_gaugewright_k59_led_and_depth.Holds := by
 w_on;o_law;k_head;(case hw=>w_witness2)
 k_fill
 refine L2.walk_law (l := PySem.Challenge.rw_gaugewright_k59_led_and_depth) (k := 164) rfl rfl ⟨rfl, by decide, by decide⟩ (fun w h Y => W.kIn_of Y) (fun w h Y => L2.TabsOk.none Ay) ?F
 case F=>
  intro w mg fa h KX G hmg;have d_law:Dd (L2.KOf KX) mg "law" My.s_law ["script"]:=by
   dsimp only[L2.KOf];refine' Dd.mk' KX G ?a ?l ?c ?k ?b
   (case a=>k_is);(case l=>k_is);(case c=>k_is);(case k=>k_is);(case b=>intro _ _ _ _ _ _ us hl;obtain⟨_,rfl⟩:=L2.len1 hl;rfl)
  have T:My.Txt mg:=by
   refine' ⟨ir KX G ?z0,ir KX G ?z1,ir KX G ?z2,ir KX G ?z3,ir KX G ?z4,ir KX G ?z5,ir KX G ?z6,ir KX G ?z7,ir KX G ?z8,ir KX G ?z9,ir KX G ?z10,ir KX G ?z11,ir KX G ?z12⟩
   (case z0=>k_is);(case z1=>k_is);(case z2=>k_is);(case z3=>k_is);(case z4=>k_is);(case z5=>k_is);(case z6=>k_is);(case z7=>k_is);(case z8=>k_is);(case z9=>k_is);(case z10=>k_is);(case z11=>k_is);(case z12=>k_is)
  have dd:My.Dds (L2.KOf KX) mg:=by constructor<;>(dsimp only[L2.KOf];refine' Dd.mk' KX G ?a ?l ?c ?k ?b;(case a=>k_is);(case l=>k_is);(case c=>k_is);(case k=>k_is);(case b=>(intro _ _ _ _ _ _ us hl;first|(obtain⟨_,rfl⟩:=L2.len1 hl;rfl)|(obtain⟨_,_,rfl⟩:=L2.len2 hl;rfl)|(obtain⟨_,_,_,rfl⟩:=L2.len3 hl;rfl)|(obtain⟨_,_,_,_,_,_,rfl⟩:=L2.len6 hl;rfl))))
  obtain⟨f,fd,F,hm,_⟩:=d_law.ex;have e0:=hmg.symm.trans hm;cases e0;exact⟨fd,F.bind1 fun _ _ _ _ _ _ _=>rfl,fun base _ _=>My.ok_law T dd F⟩
#print axioms PySem.Challenge.cw_gaugewright_k59_led_and_depth_holds
end